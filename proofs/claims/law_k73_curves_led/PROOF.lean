import PyProof.Rows.All
import Wide.All
import OpenK.AllK
import Wide.FinOn
import Lean
import PyProof.EqAt
import PyProof.EqKinds
import PyProof.TupleCall
import PySem.Challenge.RW_hingedraw_k73_curves_led
set_option compiler.extract_closed false
set_option genSizeOfSpec false
set_option Elab.async false
set_option maxHeartbeats 4000000
set_option linter.all false
set_option maxRecDepth 100000
abbrev Zr:=List (List Int×Rat)
abbrev Zi:=List (List Int×Int)
theorem Zf {α β γ:Sort _} {f:α->β->γ}:∀ a b,f a b=f a b:=λ_ _=>rfl
section
open PySem PySem.Spec PyProof.Rows
abbrev gt:=@wpAny_bind
abbrev Ly:=@Heap.get?_push_of_some
abbrev Lz:=@wpAny_pure
abbrev LA:=@Heap.get?_push_size
abbrev LB:=@Rat.intCast_mul
abbrev LC:=@Heap.lt_size
abbrev LD:=@Nat.le_refl
abbrev LF:=@List.mem_map
abbrev LG:=@List.length_map
abbrev LH:=@Bool.false_ne_true
abbrev LI:=@List.size_toArray
abbrev LJ:=@List.mem_cons
abbrev LK:=@Nat.ne_of_lt
abbrev LL:=@List.mem_cons_self
abbrev LM:=@List.mem_cons_of_mem
abbrev LN:=@Nat.lt_of_lt_of_le
abbrev LO:=@List.mem_append_right
abbrev LP:=@List.map_cons
abbrev LQ:=@List.length_cons
abbrev LR:=@Rat.mul_eq_zero
abbrev LS:=@List.find?_cons
abbrev LU:=@List.not_mem_nil
abbrev LV:=@Nat.le_of_ble_eq_true
abbrev LW:=@Rat.intCast_add
abbrev LX:=@Prod.ext
abbrev LY:=@List.length_append
abbrev LZ:=@Around.under_plainId
abbrev L0:=@List.append_nil
abbrev L4:=@wpAny_setField_rec
abbrev L5:=@wpAny_holding
abbrev L6:=@List.getElem?_eq_getElem
abbrev L7:=@wpAny_newObj_type
abbrev L8:=@List.getElem?_map
abbrev L9:=@F.plain_max_loop
abbrev L_:=@Heap.get?_update_other
abbrev Ma:=@Option.some.inj
abbrev Mb:=@wpAny_seqItems
abbrev Mc:=@codeAny_builtin
abbrev Md:=@List.getD_eq_getElem?_getD
abbrev Me:=@Rat.divInt_eq_div
abbrev Mf:=@List.getElem?_eq_some_iff
abbrev Mg:=@wpAny_mono
abbrev Mh:=@Rat.intCast_neg
abbrev Mi:=@Nat.le_trans
abbrev Mj:=@Bool.and_eq_true
abbrev Mk:=@List.map_map
abbrev Ml:=@PySem.mem_of_lookup
abbrev Mm:=@Heap.get?_update_self
abbrev Mn:=@List.nodup_cons
abbrev Mo:=@Rat.intCast_inj
abbrev Mp:=@PySem.W.mg_none_of
abbrev Mq:=@Option.map_eq_some_iff
abbrev Mr:=@Int.fmod_nonneg_of_pos
abbrev Ms:=@List.drop_eq_getElem_cons
abbrev Mt:=@wpAny_dictEntries
abbrev Mu:=@Int.natAbs_dvd_natAbs
abbrev Mv:=@decide_eq_false
abbrev Mw:=@Nat.zero_le
abbrev Mz:=@Nat.lt_irrefl
abbrev MA:=@List.all_eq_true
abbrev MB:=@List.mem_range
abbrev MC:=@Int.natAbs_mul
abbrev MD:=@wpAny_tryCatch
abbrev ME:=@Int.toNat_natCast
abbrev MF:=@Array.length_toList
abbrev MG:=@wpAny_letGo
abbrev MH:=@List.getElem_mem
abbrev MI:=@Int.fmod_lt_of_pos
abbrev MJ:=@List.getElem?_toArray
abbrev MK:=@Bool.false_eq_true
abbrev ML:=@Option.isSome_iff_exists
abbrev MM:=@Rat.num_eq_zero
abbrev MN:=@List.length_eq_zero_iff
abbrev MO:=@Heap.SameBut.update
end
section
open PySem PySem.Spec
abbrev MP:=Shared
abbrev MQ:=Value
abbrev MR:=Addr
abbrev MS:=Option
abbrev MT:=Expr
abbrev MU:=Program
abbrev MV:=Around
abbrev MW:=World
abbrev MX:=Heap
abbrev MY:=Stmt
abbrev MZ:=Array
abbrev M1:=Bool
abbrev M3:=String
abbrev M4:=DictEntry
abbrev M5:=Obj
end
namespace L2
open PySem PySem.Spec PyProof.Rows
abbrev tw:=Sum Int Str
def ED:tw->MQ->M1
 | .inl k,v=>Value.isInt k v
 | .inr x,v=>Value.isStrOf x v
def JX (w:MW):tw->Int
 | .inl k=>hashInt k
 | .inr x=>hashStr w x
theorem cN:∀ {k:tw} {v:MQ},ED k v=true->(∃ i t,k=Sum.inl i/\v=Value.int i t)\/(∃ x t,k=Sum.inr x/\v=Value.str x t)
 | .inl i,v,h=>by
  obtain⟨t,e⟩:=Value.isInt_shape (k:=i) (v:=v) h;exact .inl ⟨i,t,rfl,e⟩
 | .inr x,v,h=>by
  obtain⟨t,e⟩:=Value.isStrOf_shape (x:=x) (v:=v) h;exact .inr ⟨x,t,rfl,e⟩
theorem Gr (a b:Int):decide ((Sum.inl a:tw)=Sum.inl b)=(a == b):=by
 by_cases e:a=b
 ·subst e; simp
 ·have h:¬ (Sum.inl a:tw)=Sum.inl b:=λq=>e (Sum.inl.inj q)
  rw [Mv h];exact(beq_eq_false_iff_ne.mpr e).symm
theorem Hg (a b:Str):decide ((Sum.inr a:tw)=Sum.inr b)=decide (a=b):=by
 by_cases e:a=b
 ·subst e; simp
 ·have h:¬ (Sum.inr a:tw)=Sum.inr b:=λq=>e (Sum.inr.inj q)
  rw [Mv h,Mv e]
theorem FE (a:Int) (b:Str):decide ((Sum.inl a:tw)=Sum.inr b)=false:=Mv (λq=>nomatch q)
theorem Gf (a:Str) (b:Int):decide ((Sum.inr a:tw)=Sum.inl b)=false:=Mv (λq=>nomatch q)
def xD (prog:MU) (w:MW):PySem.KeyKind prog w tw where
 is:=ED
 hash:=JX w
 inj:=λv a b ha hb=>by
  rcases cN ha with ⟨i,t,rfl,rfl⟩ | ⟨x,t,rfl,rfl⟩
  ·rcases cN hb with ⟨j,u,rfl,e⟩ | ⟨y,u,rfl,e⟩
   ·injection e with e1 _; rw [e1]
   ·exact nomatch e
  ·rcases cN hb with ⟨j,u,rfl,e⟩ | ⟨y,u,rfl,e⟩
   ·exact nomatch e
   ·injection e with e1 _; rw [e1]
 byValue:=λk v h=>by
  rcases cN h with ⟨i,t,rfl,rfl⟩ | ⟨x,t,rfl,rfl⟩ <;> rfl
 pyHash:=λhv h=>by
  rcases cN hv with ⟨i,t,rfl,rfl⟩ | ⟨x,t,rfl,rfl⟩
  ·exact wpAny_pyHash_int h
  ·exact wpAny_pyHash_str h
 eqBool:=λhu hv h=>by
  rcases cN hu with ⟨i,t,rfl,rfl⟩ | ⟨x,t,rfl,rfl⟩
  ·rcases cN hv with ⟨j,u,rfl,rfl⟩ | ⟨y,u,rfl,rfl⟩
   ·rw [Gr] at h; exact wpAny_eqBool_int h
   ·rw [FE] at h; exact SeqAt.EqAt.int_str i t y u _ _ _ _ h
  ·rcases cN hv with ⟨j,u,rfl,rfl⟩ | ⟨y,u,rfl,rfl⟩
   ·rw [Gf] at h; exact SeqAt.EqAt.str_int x t j u _ _ _ _ h
   ·rw [Hg] at h; exact wpAny_eqBool_str h
 «strs»:=λk x t v h=>by
  rcases cN h with ⟨i,u,rfl,e⟩ | ⟨y,u,rfl,e⟩
  ·exact nomatch e
  ·injection e with e1 _
   subst e1;cases v <;> rfl
inductive V where
 | non | bl (b:M1) | int (i:Int) | str (x:Str) | byt (b:MZ UInt8) | flt (b:UInt64) | ref (a:MR) | ty (n:M3)
 deriving DecidableEq
def aP:V->MQ->Prop
 | .non,u=>u=Value.none
 | .bl b,u=>u=Value.bool b
 | .int i,u=>∃ t,u=Value.int i t
 | .str x,u=>∃ t,u=Value.str x t
 | .byt b,u=>∃ t,u=Value.bytes b t
 | .flt b,u=>∃ t,u=Value.float b t
 | .ref a,u=>u=Value.ref a
 | .ty n,u=>u=Value.type n
abbrev aV:List V->List MQ->Prop:=Paired aP
theorem aV.length {xs:List V} {us:List MQ} (r:aV xs us):xs.length=us.length:=Paired.length r
theorem aV.get:∀ {xs:List V} {us:List MQ} {i:Nat} {x:V},aV xs us->xs[i]?=some x->∃ u,us[i]?=some u/\aP x u
 | _,_,_,_,.nil,e=>by simp at e
 | _,_,0,_,.cons r _,e=>by simp at e; subst e; exact⟨_,rfl,r⟩
 | _,_,i+1,x,.cons _ t,e=>by
  obtain⟨u,h1,h2⟩:=aV.get (i:=i) (x:=x) t (by simpa using e)
  exact⟨u,by simpa using h1,h2⟩
theorem aV.set {x:V} {u:MQ} (r:aP x u):∀ {xs:List V} {us:List MQ} (i:Nat),aV xs us->aV (xs.set i x) (us.set i u)
 | _,_,_,.nil=>.nil
 | _,_,0,.cons _ t=>.cons r t
 | _,_,i+1,.cons q t=>.cons q (aV.set r i t)
theorem aV.append:∀ {xs ys:List V} {us ws:List MQ},aV xs us->aV ys ws->aV (xs++ys) (us++ws)
 | _,_,_,_,.nil,s=>s
 | _,_,_,_,.cons r t,s=>.cons r (aV.append t s)
theorem aV.take:∀ {xs:List V} {us:List MQ} (n:Nat),aV xs us->aV (xs.take n) (us.take n)
 | _,_,0,_=>.nil
 | _,_,_+1,.nil=>.nil
 | _,_,n+1,.cons r t=>.cons r (aV.take n t)
theorem aV.drop:∀ {xs:List V} {us:List MQ} (n:Nat),aV xs us->aV (xs.drop n) (us.drop n)
 | _,_,0,r=>r
 | _,_,_+1,.nil=>.nil
 | _,_,n+1,.cons _ t=>aV.drop n t
def HU:MS V->MS MQ->Prop
 | some v,some u=>aP v u
 | none,none=>True
 | _,_=>False
def KV {κ:Type}:List (κ×V)->List (κ×MQ)->Prop:=Paired fun(p:κ×V) (q:κ×MQ)=>p.1=q.1/\aP p.2 q.2
def kV:tw->V
 | .inl i=>.int i
 | .inr x=>.str x
inductive HO where
 | lst (xs:List V)
 | tup (xs:List V)
 | dK (kvs:List (tw×V)) | dT (kvs:List (List tw×V))
 | set (S:Int->M1) (n:Nat)
 | ins (C dx:MR) (fs:List (Str×V))
 | own (x:MR)
 | xd (fs:List (Str×V))
 | met (f x:MR)
 | rng (lo hi:Int)
 | frz (o:M5) (u:HO)
 | tbl (ps:MZ MQ)
 | ext (φ:MX->Prop)
abbrev Hp:=MR->MS HO
def cF (H:Hp) (a:MR) (o:HO):Hp:=λb=>if b=a then some o else H b
theorem bJ {H:Hp} {a:MR} {o:HO}:cF H a o a=some o:=by unfold cF; rw [if_pos rfl]
theorem aO {H:Hp} {a b:MR} {o:HO} (h:b≠a):cF H a o b=H b:=by unfold cF; rw [if_neg h]
theorem cc {H:Hp} {a b:MR} {o:HO} (h:H a=some o) (h':H b=none):a≠b:=by
 intro e; subst e; rw [h] at h'; cases h'
section
variable (P:MU) (w:MW)
def dY (H:Hp) (h:MX) (a:MR):HO->Prop
 | .lst xs=>xs.length<=sizeLine/\∃ (its:List MQ) (n:Nat),aV xs its/\h.get? a=some {cls:=.type "list",data:=.seq its.toArray n}
 | .tup xs=>xs.length<=sizeLine/\∃ its:List MQ,aV xs its/\IsTup h a its.toArray
 | .dK kvs=>kvs.length<=sizeLine/\(a == sysModules)=false/\∃ vs,KV kvs vs/\h.DictOf (xD P w) a vs
 | .dT kvs=>kvs.length<=sizeLine/\(a == sysModules)=false/\∃ xs:List (List tw×MR×MQ),
   Paired (λ(p:List tw×V) (q:List tw×MR×MQ)=>p.1=q.1/\H q.2.1=some (.tup (p.1.map kV))/\aP p.2 q.2.2) kvs xs/\
   ∃ o es ep,h.get? a=some o/\o.ExactDict/\o.data=.dict es ep/\es.toList=xs.map (entryOfKey (tupleKind (xD P w)))/\(xs.map (·.1)).Nodup
 | .set S n=>h.SetOf (intKind P w) a S n
 | .ins C dx fs=>H dx=some (.own a)/\fs.length<=1000/\dx≠a/\h.get? a=some (PySem.W.instObj C dx)/\
   ∃ mA,h.Ns1 dx mA/\(∀ f,HU (fs.lookup f) (mA f))/\PySem.Within mA (fs.map (·.1))
 | .own _=>∃ o,h.get? a=some o
 | .xd fs=>∃ mA,h.Ns1 a mA/\∀ f,HU (fs.lookup f) (mA f)
 | .rng lo hi=>∃ t u v,h.get? a=some {cls:=.type "range",data:=.fields #[.int lo t,.int hi u,.int 1 v]}
 | .frz o u=>h.get? a=some o/\dY H h a u
 | .tbl ps=>h.get? a=some {cls:=.none,data:=.fields ps}
 | .met f x=>h.get? a=some (PySem.W.methodObj (.ref f) (.ref x))
 | .ext φ=>φ h/\(∃ o,h.get? a=some o)/\∀ h1 h2:MX,φ h1->(∀ o,h1.get? a=some o->h2.get? a=some o)->φ h2
def n9 (H:Hp) (h:MX):Prop:=∀ a o,H a=some o->dY P w H h a o
end
section
variable {P:MU} {w:MW} {H H':Hp} {h h':MX} {a:MR} {o:HO}
theorem dY.lt (x:dY P w H h a o):a < h.objs.size:=by
 cases o with
 | lst xs=>obtain⟨_,_,_,_,e⟩:=x; exact LC e
 | tup xs=>obtain⟨_,_,_,p⟩:=x; exact p.lt
 | dK kvs=>obtain⟨_,_,_,_,o,_,_,e,_⟩:=x; exact LC e
 | dT kvs=>obtain⟨_,_,_,_,o,_,_,e,_⟩:=x; exact LC e
 | set S n=>obtain⟨o,_,_,_,e,_⟩:=x; exact LC e
 | ins C dx fs=>obtain⟨_,_,_,e,_⟩:=x; exact LC e
 | own y=>obtain⟨_,e⟩:=x; exact LC e
 | xd fs=>obtain⟨_,⟨_,_,_,e,_⟩,_⟩:=x; exact LC e
 | rng lo hi=>obtain⟨_,_,_,e⟩:=x; exact LC e
 | frz ob u=>obtain⟨e,_⟩:=x; exact LC e
 | tbl ps=>exact LC (show h.get? a=some _ from x)
 | met f y=>exact LC (show h.get? a=some _ from x)
 | ext φ=>obtain⟨_,⟨_,e⟩,_⟩:=x; exact LC e
theorem Paired.mapP {α β:Type} {F G:α->β->Prop}:∀ {l₁:List α} {l₂:List β},Paired F l₁ l₂->(∀ a b,F a b->G a b)->Paired G l₁ l₂
 | _,_,.nil,_=>.nil
 | _,_,.cons r t,f=>.cons (f _ _ r) (Paired.mapP t f)
theorem dY.stay (x:dY P w H h a o) (k:∀ b u,(b=a\/H b=some (.own a))->h.get? b=some u->h'.get? b=some u)
  (ho:∀ b,H b=some (.own a)->H' b=some (.own a)) (ht:∀ b xs,H b=some (.tup xs)->H' b=some (.tup xs)):dY P w H' h' a o:=by
 induction o with
 | lst xs=>obtain⟨z,its,n,r,e⟩:=x; exact⟨z,its,n,r,k _ _ (.inl rfl) e⟩
 | tup xs=>obtain⟨z,its,r,ob,e,c⟩:=x; exact⟨z,its,r,ob,k _ _ (.inl rfl) e,c⟩
 | dK kvs=>obtain⟨z,y,vs,r,ob,es,ep,e,c⟩:=x; exact⟨z,y,vs,r,ob,es,ep,k _ _ (.inl rfl) e,c⟩
 | dT kvs=>
  obtain⟨z,y,xs,r,ob,es,ep,e,c⟩:=x;exact⟨z,y,xs,Paired.mapP r λp q z=>⟨z.1,ht _ _ z.2.1,z.2.2⟩,ob,es,ep,k _ _ (.inl rfl) e,c⟩
 | set S n=>obtain⟨ob,es,ep,t,e,c⟩:=x; exact⟨ob,es,ep,t,k _ _ (.inl rfl) e,c⟩
 | ins C dx fs=>
  obtain⟨d,z,ne,e,mA,⟨od,es,ep,e2,c⟩,r⟩:=x;exact⟨ho _ d,z,ne,k _ _ (.inl rfl) e,mA,⟨od,es,ep,k _ _ (.inr d) e2,c⟩,r⟩
 | own y=>obtain⟨ob,e⟩:=x; exact⟨ob,k _ _ (.inl rfl) e⟩
 | xd fs=>obtain⟨mA,⟨od,es,ep,e,c⟩,r⟩:=x; exact⟨mA,⟨od,es,ep,k _ _ (.inl rfl) e,c⟩,r⟩
 | rng lo hi=>obtain⟨t,u,v,e⟩:=x; exact⟨t,u,v,k _ _ (.inl rfl) e⟩
 | frz ob u ih=>obtain⟨e,q⟩:=x; exact⟨k _ _ (.inl rfl) e,ih q⟩
 | tbl ps=>
  have e:h.get? a=some {cls:=.none,data:=.fields ps}:=x
  show h'.get? a=some {cls:=.none,data:=.fields ps}
  exact k a _ (.inl rfl) e
 | met f y=>
  have e:h.get? a=some (PySem.W.methodObj (.ref f) (.ref y)):=x
  show h'.get? a=some (PySem.W.methodObj (.ref f) (.ref y))
  exact k a _ (.inl rfl) e
 | ext φ=>obtain⟨p,⟨o,e⟩,st⟩:=x; exact⟨st _ _ p λo q=>k _ _ (.inl rfl) q,⟨o,k _ _ (.inl rfl) e⟩,st⟩
theorem n9.lt (x:n9 P w H h) (e:H a=some o):a < h.objs.size:=(x a o e).lt
theorem n9.fresh (x:n9 P w H h) (e:h.objs.size<=a):H a=none:=by
 cases q:H a with
 | none=>rfl
 | some u=>exact absurd (LN (x.lt q) e) (Mz _)
theorem n9.kept (x:n9 P w H h) (k:∀ b u,h.get? b=some u->h'.get? b=some u):n9 P w H h':=λa o e=>
 (x a o e).stay (λb u _ q=>k b u q) (λ_ q=>q) λ_ _ q=>q
theorem n9.laid (x:n9 P w H h) (k:∀ b u,h.get? b=some u->h'.get? b=some u) (hp:h.objs.size<=a) (new:dY P w (cF H a o) h' a o):n9 P w (cF H a o) h':=λb u e=>by
 have hn:=x.fresh hp
 by_cases hb:b=a
 ·subst hb; rw [bJ] at e; cases e; exact new
 ·rw [aO hb] at e;exact(x b u e).stay (λc v _ q=>k c v q) (λc q=>by rw [aO (cc q hn)]; exact q) λc xs q=>by rw [aO (cc q hn)]; exact q
end
def Rd (H:Hp) (a:MR) (u:HO):Prop:=H a=some u\/∃ o,H a=some (.frz o u)
theorem Rd.ok {P:MU} {w:MW} {H:Hp} {h:MX} {a:MR} {u:HO} (r:Rd H a u) (x:n9 P w H h):dY P w H h a u:=by
 rcases r with r | ⟨o,r⟩
 ·exact x a u r
 ·obtain⟨_,q⟩:=x a _ r;exact q
def Jc:MS HO->Prop
 | some (.lst _)=>True
 | some (.dK _)=>True
 | some (.dT _)=>True
 | some (.set _ _)=>True
 | some (.ins _ _ _)=>True
 | some (.ext _)=>True
 | _=>False
section
variable {P:MU} {w:MW} {H:Hp} {h h':MX} {x e:MR} {o':HO}
theorem n9.write (ok:n9 P w H h) (mu:Jc (H x)) (he:e=x\/H e=some (.own x)) (k:∀ b u,b≠e->h.get? b=some u->h'.get? b=some u) (heo:∃ u,h'.get? e=some u)
  (new:dY P w (cF H x o') h' x o'):n9 P w (cF H x o') h':=λb u q=>by
 have nown:∀ c y,H c=some (.own y)->c≠x:=λc y r z=>by subst z; rw [r] at mu; exact mu
 have ntup:∀ c xs,H c=some (.tup xs)->c≠x:=λc xs r z=>by subst z; rw [r] at mu; exact mu
 by_cases hb:b=x
 ·subst hb; rw [bJ] at q; cases q; exact new
 ·rw [aO hb] at q
  by_cases hbe:b=e
  ·have q':H b=some (.own x):=by
    rcases he with z | z
    ·exact absurd (hbe.trans z) hb
    ·rw [hbe]; exact z
   rw [q] at q'; cases q'
   obtain⟨v,hv⟩:=heo;exact⟨v,by rw [hbe]; exact hv⟩
  ·refine(ok b u q).stay (λc v hc r=>k c v ?_ r) (λc r=>by rw [aO (nown c b r)]; exact r) λc xs r=>by rw [aO (ntup c xs r)]; exact r
   rcases hc with rfl | hc
   ·exact hbe
   ·rintro rfl;rcases he with z | z
    ·exact nown c b hc z
    ·rw [hc] at z; cases z; exact hb rfl
end
structure Un (fs ex:List MR) (H H':Hp) (h h':MX):Prop where
 keep:∀ b o,h.get? b=some o->H b=none->b∉fs->b∉ex->h'.get? b=some o
 slot:∀ b o,h.get? b=some o->H b=none->b∈fs->b∉ex->∃ sl,h'.get? b=some {o with slots:=sl}
 free:∀ b o,h.get? b=some o->H b=none->b∉ex->H' b=none
 there:∀ b o,h.get? b=some o->b∉ex->∃ o',h'.get? b=some o'
 tups:∀ b xs,H b=some (.tup xs)->H' b=some (.tup xs)
 frzs:∀ b o u,H b=some (.frz o u)->H' b=some (.frz o u)
 tbls:∀ b ps,H b=some (.tbl ps)->∃ more,H' b=some (.tbl (ps++more))
section
variable {fs fs' ex ex':List MR} {H H1 H2:Hp} {h h1 h2 h':MX} {a x e:MR} {o:HO}
theorem Un.any (u:Un fs ex H H1 h h1) {b:MR} {ob:M5} (q:h.get? b=some ob) (n:H b=none) (hx:b∉ex):∃ sl,h1.get? b=some {ob with slots:=sl}:=by
 by_cases hb:b∈fs
 ·exact u.slot b ob q n hb hx
 ·exact⟨ob.slots,u.keep b ob q n hb hx⟩
theorem Un.trans (a:Un fs ex H H1 h h1) (b:Un fs ex H1 H2 h1 h2):Un fs ex H H2 h h2 where
 keep:=λc ob q n hc hx=>b.keep c ob (a.keep c ob q n hc hx) (a.free c ob q n hx) hc hx
 slot:=λc ob q n hc hx=>by
  obtain⟨sl,e1⟩:=a.slot c ob q n hc hx;obtain⟨sl',e2⟩:=b.slot c _ e1 (a.free c ob q n hx) hc hx;exact⟨sl',e2⟩
 free:=λc ob q n hx=>by
  obtain⟨o',e1⟩:=a.there c ob q hx;exact b.free c o' e1 (a.free c ob q n hx) hx
 there:=λc ob q hx=>by
  obtain⟨o',e1⟩:=a.there c ob q hx;exact b.there c o' e1 hx
 tups:=λc xs q=>b.tups c xs (a.tups c xs q)
 frzs:=λc ob xs q=>b.frzs c ob xs (a.frzs c ob xs q)
 tbls:=λc ps q=>by
  obtain⟨m1,e1⟩:=a.tbls c ps q;obtain⟨m2,e2⟩:=b.tbls c _ e1;exact⟨m1++m2,by rw [e2,Array.append_assoc]⟩
theorem Un.kept (k:∀ b u,h.get? b=some u->h'.get? b=some u):Un fs ex H H h h':=
 ⟨λb ob q _ _ _=>k b ob q,λb ob q _ _ _=>⟨ob.slots,k b ob q⟩,λ_ _ _ n _=>n,λb ob q _=>⟨ob,k b ob q⟩,λ_ _ q=>q,λ_ _ _ q=>q,λ_ ps q=>⟨#[],by rw [q]; simp⟩⟩
theorem Un.refl:Un fs ex H H h h:=Un.kept λ_ _ q=>q
theorem Un.laid (k:∀ b u,h.get? b=some u->h'.get? b=some u) (hp:h.objs.size<=a) (hn:H a=none):Un fs ex H (cF H a o) h h' where
 keep:=λb u q _ _ _=>k b u q
 slot:=λb u q _ _ _=>⟨u.slots,k b u q⟩
 free:=λb u q n _=>by rw [aO (LK (LN (LC q) hp))]; exact n
 there:=λb u q _=>⟨u,k b u q⟩
 tups:=λb xs q=>by rw [aO (cc q hn)]; exact q
 frzs:=λb u xs q=>by rw [aO (cc q hn)]; exact q
 tbls:=λb ps q=>⟨#[],by rw [aO (cc q hn),q]; simp⟩
theorem Un.write (mu:Jc (H x)) (he:e=x\/H e=some (.own x)) (k:∀ b u,b≠e->h.get? b=some u->h'.get? b=some u) (heo:∃ u,h'.get? e=some u):Un fs ex H (cF H x o) h h':=by
 have hx:∀ b,H b=none->b≠x:=λb n z=>by subst z; rw [n] at mu; exact mu
 have hb:∀ b,H b=none->b≠e:=λb n z=>by
  subst z;rcases he with r | r
  ·exact hx b n r
  ·rw [n] at r; cases r
 have hm:∀ b u,H b=some u->¬ Jc (some u)->b≠x:=λb u q nm z=>by subst z; rw [q] at mu; exact nm mu
 refine⟨λb u q n _ _=>k b u (hb b n) q,λb u q n _ _=>⟨u.slots,k b u (hb b n) q⟩,λb u q n _=>by rw [aO (hx b n)]; exact n,λb u q _=>?_,
  λb xs q=>by rw [aO (hm b _ q λz=>z)]; exact q,λb u xs q=>by rw [aO (hm b _ q λz=>z)]; exact q,λb ps q=>⟨#[],by rw [aO (hm b _ q λz=>z),q]; simp⟩⟩
 by_cases hbe:b=e
 ·subst hbe; exact heo
 ·exact⟨u,k b u hbe q⟩
end
def JI (h:MX) (H:Hp):List MR:=(List.range h.objs.size).filter λa=>(H a).isSome
def pd (h:MX) (H:Hp):MX:=PySem.W.hideAll h (JI h H)
theorem yG (h:MX) (H:Hp):(pd h H).objs.size=h.objs.size:=PySem.W.hideAll_size _ _
theorem zw {h:MX} {H:Hp} {b:MR} {o:M5} (e:h.get? b=some o) (n:H b=none):(pd h H).get? b=some o:=
 PySem.W.hideAll_get _ e λhm=>by
  have q:(H b).isSome=true:=(List.mem_filter.mp hm).2;rw [n] at q; simp at q
theorem CS {h:MX} {H:Hp} {b:MR} {o:M5} (e:(pd h H).get? b=some o):h.get? b=some o/\H b=none:=by
 have e':h.get? b=some o:=PySem.W.of_hideAll (JI h H) e;refine⟨e',?_⟩;cases q:H b with
 | none=>rfl
 | some x=>
  have hm:b∈JI h H:=List.mem_filter.mpr ⟨MB.mpr (LC e'),by simp [q]⟩
  have z:(pd h H).get? b=none:=PySem.W.hideAll_none (JI h H) hm;rw [z] at e; cases e
def DZ (g h:MX) (L:MR):List (MR×M5):=(List.range h.objs.size).filterMap λa=>if a=L\/(g.get? a).isSome=true then none else(h.get? a).map λo=>(a,o)
def am (g h:MX) (L d:MR):List (MR×M5):=(DZ g h L).filter λp=>decide (p.1≠d)
structure Mod (K:PySem.W.Frag) (mg:Str->MS MQ) (base:MX):Prop where
 kin:K.In base
 glob:base.Ns mainGlobals mg
 blt:∃ mb,base.Ns builtinsNs mb/\∀ x:Str,x≠"__name__"->mb x=bootBuiltins x
 nolimit:base.NoLimit
structure Cx where
 prog:MU
 w:MW
 K:PySem.W.Frag
 mg:Str->MS MQ
 base:MX
 A:MV
 N:List Str
 s₀:MP
 H₀:Hp
 env:Env
 outer:List Env
 stack:List Env
 ex:List MR
 fn:Str->M1
 calm:M1
 pn:List (MR×M5)
 xe:MQ->MP->Prop
def rj (l:List Env):List MR:=l.filterMap (·.frame)
abbrev Cx.fs (X:Cx):List MR:=rj X.outer
def I_ (sc:Scope) (x:Str):Prop:=sc.names.lookup x=some .local\/sc.names.lookup x=some .cell\/sc.names.lookup x=some .free
def Hl (sc:Scope) (x:Str):Prop:=sc.names.lookup x=some .local\/sc.names.lookup x=some .cell
def Kk (env:Env) (h:MX) (m:Str->MS MQ) (x:Str) (u:MQ):Prop:=
 (env.kindOf x=some .local/\m x=some u)\/((env.kindOf x=some .cell\/env.kindOf x=some .free)/\∃ c,env.cells.lookup x=some c/\h.IsCell c (some u))
structure Cx.Ok (X:Cx):Prop where
 mod:Mod X.K X.mg X.base
 kind:X.env.scope.kind=.function
 glob:X.env.globals=mainGlobals
 blt:X.env.builtins=builtinsNs
 above:X.s₀.heap.objs.size<=X.env.locals
 inj:∀ x y c,X.env.cells.lookup x=some c->X.env.cells.lookup y=some c->x=y
 has:∀ x,(X.env.kindOf x=some .cell\/X.env.kindOf x=some .free)->∃ c,X.env.cells.lookup x=some c
 cab:∀ x c,X.fn x=true->X.env.cells.lookup x=some c->X.s₀.heap.objs.size<=c
 hd:X.calm=true->X.A.handled=none
 frames:X.A.frames=some X.stack
 stk:X.stack=X.outer\/(X.stack=X.env::X.outer/\X.env.frame=some X.env.locals)
 exf:∀ b∈X.ex,b≠X.env.locals/\∀ x c,X.env.cells.lookup x=some c->c≠b
 bs:∀ b o,X.base.get? b=some o->X.s₀.heap.get? b=some o/\X.H₀ b=none
 bsz:X.base.objs.size<=X.s₀.heap.objs.size
 noex:∀ b o,X.base.get? b=some o->b∉X.ex
 exfs:∀ b∈X.ex,b∉X.fs
 funs:X.s₀.heap.FunFrames X.base X.outer
 frf:∀ b∈X.fs,X.H₀ b=none
structure aD (X:Cx) (M6:List (MR×M5)) (σ:List (MS V)) (H:Hp) (s:MP):Prop where
 ok:X.Ok
 os:s.os=X.s₀.os
 bare:AllBare s.gens
 base:Un X.fs X.ex X.H₀ H X.s₀.heap s.heap
 loc:∃ m,s.heap.Ns X.env.locals m/\∀ (i:Nat) (x:Str) (v:V),X.N[i]?=some x->σ[i]?=some (some v)->I_ X.env.scope x->∃ u,aP v u/\Kk X.env s.heap m x u
 cell:∀ x c,X.env.cells.lookup x=some c->∃ v,s.heap.IsCell c v
 free:H X.env.locals=none
 freeC:∀ x c,X.env.cells.lookup x=some c->H c=none
 pin:∀ p∈X.pn++M6,s.heap.get? p.1=some p.2/\H p.1=none/\p.1≠X.env.locals/\p.1∉X.fs/\∀ v,p.2.data≠.cell v
 hok:n9 X.prog X.w H s.heap
 len:σ.length=X.N.length
section
variable {X:Cx} {M6:List (MR×M5)} {σ:List (MS V)} {H H':Hp} {s:MP} {h':MX}
theorem Cx.Ok.nofr (ok:X.Ok) {b:MR} {o:M5} (e:X.base.get? b=some o):b∉X.fs:=λhb=>by
 have:=(ok.funs.mem hb).1;rw [e] at this; cases this
theorem aD.bs (I:aD X M6 σ H s):∀ b o,X.base.get? b=some o->s.heap.get? b=some o/\H b=none:=λb o e=>
 ⟨I.base.keep b o (I.ok.bs b o e).1 (I.ok.bs b o e).2 (I.ok.nofr e) (I.ok.noex b o e),I.base.free b o (I.ok.bs b o e).1 (I.ok.bs b o e).2 (I.ok.noex b o e)⟩
theorem aD.bk (I:aD X M6 σ H s):∀ b o,X.base.get? b=some o->s.heap.get? b=some o:=λb o e=>(I.bs b o e).1
theorem aD.mod (I:aD X M6 σ H s):Mod X.K X.mg X.base:=I.ok.mod
theorem aD.kIn (I:aD X M6 σ H s):X.K.In s.heap:=I.ok.mod.kin.keeps I.bk
theorem aD.nolimit (I:aD X M6 σ H s):s.heap.NoLimit:=I.ok.mod.nolimit.keeps I.bk
theorem aD.lt (I:aD X M6 σ H s):X.env.locals < s.heap.objs.size:=let ⟨_,hn,_⟩:=I.loc; hn.lt
theorem aD.sz (I:aD X M6 σ H s):X.s₀.heap.objs.size<=s.heap.objs.size:=Mi I.ok.above (Nat.le_of_lt I.lt)
theorem aD.nofs (I:aD X M6 σ H s) {a:MR} (h:s.heap.objs.size<=a):a∉X.fs:=λhb=>by
 obtain⟨_,o,ho,_⟩:=I.ok.funs.mem hb;exact absurd (LN (LC ho) (Mi I.sz h)) (Mz _)
theorem aD.cne (I:aD X M6 σ H s):∀ x c,X.env.cells.lookup x=some c->c≠X.env.locals:=λx c e z=>by
 obtain⟨v,o,ho,hd⟩:=I.cell x c e;obtain⟨m,⟨o',es,ep,ho',hd',_⟩,_⟩:=I.loc;rw [z,ho'] at ho; cases ho; rw [hd'] at hd; cases hd
theorem aD.funs (I:aD X M6 σ H s):s.heap.FunFrames X.base X.outer:=by
 have all:∀ (l:List Env),(∀ b∈rj l,b∈X.fs)->X.s₀.heap.FunFrames X.base l->s.heap.FunFrames X.base l:=by
  intro l
  induction l with
  | nil=>intro _ _; trivial
  | cons env r ih=>
   intro hs hl;obtain⟨hk,⟨L,o,hf,hn,ho,hd⟩,hr⟩:=hl;have hL:L∈X.fs:=hs L (by unfold rj; rw [List.filterMap_cons,hf]; exact LL)
   obtain⟨sl,e⟩:=I.base.slot L o ho (I.ok.frf L hL) hL λz=>I.ok.exfs L z hL
   exact⟨hk,⟨L,_,hf,hn,e,hd⟩,ih (λb hb=>hs b (by unfold rj; rw [List.filterMap_cons,hf]; exact LM _ hb)) hr⟩
 exact all X.outer (λ_ hb=>hb) I.ok.funs
theorem aD.stack (I:aD X M6 σ H s):s.heap.FunFrames X.base X.stack:=by
 rcases I.ok.stk with e | ⟨e,hf⟩
 ·rw [e]; exact I.funs
 ·rw [e];obtain⟨m,hn,_⟩:=I.loc;refine .cons (by rw [I.ok.kind]; decide) hf hn ?_ I.funs
  exact Heap.get?_none_of_le (Mi I.ok.bsz I.ok.above)
theorem aD.stkSub (I:aD X M6 σ H s):∀ b∈rj X.stack,b∈X.env.locals::X.fs:=λb hb=>by
 rcases I.ok.stk with e | ⟨e,hf⟩
 ·rw [e] at hb; exact LM _ hb
 ·rw [e] at hb;unfold rj at hb;rw [List.filterMap_cons,hf] at hb;exact hb
theorem aD.stkFree (I:aD X M6 σ H s):∀ b∈rj X.stack,H b=none:=λb hb=>by
 rcases LJ.mp (I.stkSub b hb) with e | hb
 ·rw [e]; exact I.free
 ·obtain⟨_,o,ho,_⟩:=I.ok.funs.mem hb;exact I.base.free b o ho (I.ok.frf b hb) λz=>I.ok.exfs b z hb
theorem aD.step {g':MZ GenState} {t':Nat} {d':Drawn} {ch:List MR} (I:aD X M6 σ H s)
  (hch:∀ b∈ch,(b∈X.ex\/X.s₀.heap.objs.size<=b)/\b≠X.env.locals/\(∀ x c,X.env.cells.lookup x=some c->c≠b)/\∀ p∈X.pn++M6,p.1≠b)
  (keep:∀ b o,b≠X.env.locals->b∉X.fs->b∉ch->s.heap.get? b=some o->H b=none->h'.get? b=some o)
  (slot:∀ b o,b≠X.env.locals->b∈X.fs->b∉ch->s.heap.get? b=some o->H b=none->∃ sl,h'.get? b=some {o with slots:=sl}) (free:∀ b o,b∉ch->s.heap.get? b=some o->H b=none->H' b=none)
  (there:∀ b o,b∉ch->s.heap.get? b=some o->∃ o',h'.get? b=some o')
  (tups:∀ b xs,H b=some (.tup xs)->H' b=some (.tup xs)) (frzs:∀ b o u,H b=some (.frz o u)->H' b=some (.frz o u)) (tbls:∀ b ps,H b=some (.tbl ps)->∃ more,H' b=some (.tbl (ps++more)))
  (ns:∀ m,s.heap.Ns X.env.locals m->h'.Ns X.env.locals m) (hok:n9 X.prog X.w H' h') (hg:AllBare g'):
  aD X M6 σ H' {s with heap:=h',gens:=g',drawn:=d',toks:=t'}:=by
 have neL:∀ b o,X.s₀.heap.get? b=some o->b≠X.env.locals:=λb o e=>LK (LN (LC e) I.ok.above)
 have neC:∀ b o,X.s₀.heap.get? b=some o->b∉X.ex->b∉ch:=λb o e hx hb=>by
  rcases(hch b hb).1 with z | z
  ·exact hx z
  ·exact absurd (LN (LC e) z) (Mz _)
 have cellK:∀ x c,X.env.cells.lookup x=some c->∀ v,s.heap.IsCell c v->h'.IsCell c v:=λx c e v ⟨o,ho,hd⟩=>by
  have nch:c∉ch:=λz=>(hch c z).2.2.1 x c e rfl
  by_cases hc:c∈X.fs
  ·obtain⟨sl,q⟩:=slot c o (I.cne x c e) hc nch ho (I.freeC x c e);exact⟨_,q,hd⟩
  ·exact⟨o,keep c o (I.cne x c e) hc nch ho (I.freeC x c e),hd⟩
 refine⟨I.ok,I.os,hg,⟨λb o e n hb hx=>?_,λb o e n hb hx=>?_,λb o e n hx=>?_,λb o e hx=>?_,λb xs e=>tups b xs (I.base.tups b xs e),λb o xs e=>frzs b o xs (I.base.frzs b o xs e),λb ps e=>?_⟩,?_,λx c e=>?_,?_,λx c e=>?_,λp hp=>?_,hok,I.len⟩
 ·exact keep b o (neL b o e) hb (neC b o e hx) (I.base.keep b o e n hb hx) (I.base.free b o e n hx)
 ·obtain⟨sl,e1⟩:=I.base.slot b o e n hb hx;obtain⟨sl',e2⟩:=slot b _ (neL b o e) hb (neC b o e hx) e1 (I.base.free b o e n hx);exact⟨sl',e2⟩
 ·obtain⟨o',e1⟩:=I.base.there b o e hx;exact free b o' (neC b o e hx) e1 (I.base.free b o e n hx)
 ·obtain⟨o',e1⟩:=I.base.there b o e hx;exact there b o' (neC b o e hx) e1
 ·obtain⟨m1,e1⟩:=I.base.tbls b ps e;obtain⟨m2,e2⟩:=tbls b _ e1;exact⟨m1++m2,by rw [e2,Array.append_assoc]⟩
 ·obtain⟨m,hn,hl⟩:=I.loc;refine⟨m,ns m hn,λi x v e1 e2 e3=>?_⟩
  obtain⟨u,r,l⟩:=hl i x v e1 e2 e3;refine⟨u,r,?_⟩;rcases l with l | ⟨k,c,e,z⟩
  ·exact .inl l
  ·exact .inr ⟨k,c,e,cellK x c e _ z⟩
 ·obtain⟨v,z⟩:=I.cell x c e;exact⟨v,cellK x c e v z⟩
 ·obtain⟨m,⟨o,_,_,ho,_⟩,_⟩:=I.loc;exact free _ o (λz=>(hch _ z).2.1 rfl) ho I.free
 ·obtain⟨v,o,ho,hd⟩:=I.cell x c e;exact free c o (λz=>(hch c z).2.2.1 x c e rfl) ho (I.freeC x c e)
 ·obtain⟨e,n,ne,nf,d⟩:=I.pin p hp;have nch:p.1∉ch:=λz=>(hch p.1 z).2.2.2 p hp rfl
  exact⟨keep p.1 p.2 ne nf nch e n,free p.1 p.2 nch e n,ne,nf,d⟩
theorem aD.un {t':Nat} (I:aD X M6 σ H s) (u:Un X.fs [] H H' s.heap h') (hok:n9 X.prog X.w H' h'):aD X M6 σ H' {s with heap:=h',toks:=t'}:=by
 obtain⟨m,⟨o,es,ep,ho,r⟩,_⟩:=id I.loc;obtain⟨sl,hL⟩:=u.any ho I.free (by simp)
 exact I.step (g':=s.gens) (d':=s.drawn) (ch:=[]) (λ_ z=>nomatch z) (λb o _ hb _ e n=>u.keep b o e n hb (by simp)) (λb o _ hb _ e n=>u.slot b o e n hb (by simp)) (λb o _ e n=>u.free b o e n (by simp)) (λb o _ e=>u.there b o e (by simp)) u.tups u.frzs u.tbls (λm' hm=>by
  obtain⟨o',es',ep',ho',r'⟩:=hm;rw [ho] at ho'; cases ho'
  exact⟨_,es',ep',hL,r'⟩) hok I.bare
theorem aD.call {g':MZ GenState} {t':Nat} {d':Drawn} {ch:List MR} (I:aD X M6 σ H s) (u:Un (rj X.stack) ch H H' s.heap h') (hok:n9 X.prog X.w H' h') (hg:AllBare g')
  (hch:∀ b∈ch,(b∈X.ex\/X.s₀.heap.objs.size<=b)/\b≠X.env.locals/\(∀ x c,X.env.cells.lookup x=some c->c≠b)/\∀ p∈X.pn++M6,p.1≠b):
  aD X M6 σ H' {s with heap:=h',gens:=g',drawn:=d',toks:=t'}:=by
 obtain⟨m,⟨o,es,ep,ho,r⟩,_⟩:=id I.loc;obtain⟨sl,hL⟩:=u.any ho I.free λz=>(hch _ z).2.1 rfl
 exact I.step (ch:=ch) hch (λb o hL hb hc e n=>u.keep b o e n (λz=>(LJ.mp (I.stkSub b z)).elim hL hb) hc) (λb o _ _ hc e n=>u.any e n hc) (λb o hc e n=>u.free b o e n hc) (λb o hc e=>u.there b o e hc) u.tups u.frzs u.tbls (λm' hm=>by
  obtain⟨o',es',ep',ho',r'⟩:=hm;rw [ho] at ho'; cases ho'
  exact⟨_,es',ep',hL,r'⟩) hok hg
theorem aD.turned {t':Nat} {it:MR} (I:aD X M6 σ H s) (k:∀ b o,b≠it->s.heap.get? b=some o->h'.get? b=some o) (hn:H it=none) (hL:it≠X.env.locals)
  (h1:it∈X.ex\/X.s₀.heap.objs.size<=it) (h2:∀ x c,X.env.cells.lookup x=some c->c≠it) (h3:∀ p∈X.pn++M6,p.1≠it):aD X M6 σ H {s with heap:=h',toks:=t'}:=by
 have nit:∀ b u,H b=some u->b≠it:=λb u e z=>by rw [z,hn] at e; cases e
 refine I.step (g':=s.gens) (d':=s.drawn) (ch:=[it]) (λb hb=>?_) (λb o _ _ hc e _=>k b o (λz=>hc (by simp [z])) e) (λb o _ _ hc e _=>⟨o.slots,k b o (λz=>hc (by simp [z])) e⟩) (λ_ _ _ _ n=>n)
  (λb o hc e=>⟨o,k b o (λz=>hc (by simp [z])) e⟩) (λ_ _ e=>e) (λ_ _ _ e=>e) (λb ps e=>⟨#[],by rw [e]; simp⟩) (λm hm=>?_) (λb u e=>?_) I.bare
 ·have e:b=it:=by simpa using hb
  subst e;exact⟨h1,hL,h2,h3⟩
 ·obtain⟨o,es,ep,ho,r⟩:=hm;exact⟨o,es,ep,k _ o (Ne.symm hL) ho,r⟩
 ·refine(I.hok b u e).stay (λc v hc q=>k c v ?_ q) (λ_ q=>q) λ_ _ q=>q
  rcases hc with z | z
  ·rw [z]; exact nit b u e
  ·exact nit c _ z
theorem aD.tok (I:aD X M6 σ H s) (t:Nat):aD X M6 σ H {s with toks:=t}:=I.un (h':=s.heap) (t':=t) Un.refl I.hok
theorem aD.kept {t':Nat} (I:aD X M6 σ H s) (k:∀ b u,s.heap.get? b=some u->h'.get? b=some u):aD X M6 σ H {s with heap:=h',toks:=t'}:=I.un (Un.kept k) (I.hok.kept k)
theorem aD.laid {a:MR} {o:HO} {t':Nat} (I:aD X M6 σ H s) (k:∀ b u,s.heap.get? b=some u->h'.get? b=some u) (hp:s.heap.objs.size<=a) (new:dY X.prog X.w (cF H a o) h' a o):
  aD X M6 σ (cF H a o) {s with heap:=h',toks:=t'}:=I.un (Un.laid k hp (I.hok.fresh hp)) (I.hok.laid k hp new)
theorem aD.write {x e:MR} {o:HO} {t':Nat} (I:aD X M6 σ H s) (mu:Jc (H x)) (he:e=x\/H e=some (.own x)) (k:∀ b u,b≠e->s.heap.get? b=some u->h'.get? b=some u) (heo:∃ u,h'.get? e=some u)
  (new:dY X.prog X.w (cF H x o) h' x o):aD X M6 σ (cF H x o) {s with heap:=h',toks:=t'}:=I.un (Un.write mu he k heo) (I.hok.write mu he k heo new)
theorem aD.pins_of {pins':List (MR×M5)} (I:aD X M6 σ H s) (h:∀ p∈pins',s.heap.get? p.1=some p.2/\H p.1=none/\p.1≠X.env.locals/\p.1∉X.fs/\∀ v,p.2.data≠.cell v):aD X pins' σ H s:=
 ⟨I.ok,I.os,I.bare,I.base,I.loc,I.cell,I.free,I.freeC,λp hp=>(List.mem_append.mp hp).elim (λz=>I.pin p (List.mem_append_left _ z)) (h p),I.hok,I.len⟩
theorem uM {N:List Str} (hN:N.Nodup) {i j:Nat} {x:Str} (a:N[i]?=some x) (b:N[j]?=some x):i=j:=by
 obtain⟨h1,e1⟩:=Mf.mp a;obtain⟨h2,e2⟩:=Mf.mp b;exact(List.getElem_inj hN).mp (e1.trans e2.symm)
theorem yD {M:Model} {A:MV} {E:MQ->MP->Prop} {i:Nat} {x:Str} {v:V} {u:MQ} {Q:Unit->MP->Prop} (I:aD X M6 σ H s) (hN:X.N.Nodup) (hi:X.N[i]?=some x) (hx:Hl X.env.scope x) (r:aP v u)
  (h:∀ s',aD X M6 (σ.set i (some v)) H s'->(∃ a,Heap.SameBut a s.heap s'.heap/\(a=X.env.locals\/X.env.cells.lookup x=some a))->Q () s') (hf:X.fn x=true\/X.env.scope.names.lookup x=some .local:=by first | exact .inl rfl | exact .inr rfl | assumption):wpAny M A (storeName X.env x u) Q E s:=by
 obtain⟨m,hn,hl⟩:=id I.loc;have hcls:(X.env.scope.kind == .class || (X.env.scope.kind == .module && X.env.locals != X.env.globals))=false:=by rw [I.ok.kind]; rfl
 have hiσ:i < σ.length:=by rw [I.len]; exact(Mf.mp hi).1
 have cne:=I.cne;have tracked:∀ {a:MR} {h':MX},(∃ o,s.heap.get? a=some o/\H a=none)->Heap.SameBut a s.heap h'->n9 X.prog X.w H h':=λ{a h'} ha hs b ob e=>by
  obtain⟨_,_,hfree⟩:=ha;refine(I.hok b ob e).stay (λc w' hc q=>(hs.2 c ?_).trans q) (λ_ q=>q) λ_ _ q=>q
  rintro rfl;rcases hc with rfl | hc
  ·rw [hfree] at e; cases e
  ·rw [hfree] at hc; cases hc
 rcases hx with hk | hk
 ·refine wpAny_storeName_local hk hn (λh' hn' hs=>?_) hcls
  obtain⟨oL,_,_,hoL,_⟩:=id hn;refine h _ ⟨I.ok,I.os,I.bare,⟨λb o e n hb hx=>?_,λb o e n hb hx=>?_,I.base.free,λb o e hx=>?_,I.base.tups,I.base.frzs,I.base.tbls⟩,⟨_,hn',λj y v' e1 e2 e3=>?_⟩,λy c e=>?_,I.free,I.freeC,λp hp=>?_,tracked ⟨oL,hoL,I.free⟩ hs,by simpa using I.len⟩ ⟨_,hs,.inl rfl⟩
  ·exact(hs.2 b (LK (LN (LC e) I.ok.above))).trans (I.base.keep b o e n hb hx)
  ·obtain⟨sl,e1⟩:=I.base.slot b o e n hb hx;exact⟨sl,(hs.2 b (LK (LN (LC e) I.ok.above))).trans e1⟩
  ·obtain⟨o',e1⟩:=I.base.there b o e hx;exact⟨o',(hs.2 b (LK (LN (LC e) I.ok.above))).trans e1⟩
  ·by_cases hj:j=i
   ·subst hj;rw [hi] at e1; cases e1
    rw [List.getElem?_set_self hiσ] at e2;cases e2;exact⟨u,r,.inl ⟨hk,by simp⟩⟩
   ·rw [List.getElem?_set_ne (Ne.symm hj)] at e2;obtain⟨u',r',q⟩:=hl j y v' e1 e2 e3;refine⟨u',r',?_⟩;rcases q with ⟨k,e⟩ | ⟨k,c,e,z⟩
    ·refine .inl ⟨k,?_⟩;have:y≠x:=λe=>hj (uM hN e1 (e▸hi))
     simp [this,e]
    ·exact .inr ⟨k,c,e,z.sameBut hs (cne y c e)⟩
  ·obtain⟨w',z⟩:=I.cell y c e;exact⟨w',z.sameBut hs (cne y c e)⟩
  ·obtain⟨e,n,ne,nf,d⟩:=I.pin p hp;exact⟨(hs.2 p.1 ne).trans e,n,ne,nf,d⟩
 ·have hfn:X.fn x=true:=by
   rcases hf with z | z
   ·exact z
   ·rw [z] at hk; cases hk
  obtain⟨c,hc⟩:=I.ok.has x (.inl hk);obtain⟨w',z⟩:=I.cell x c hc;refine wpAny_storeName_cell I.ok.kind hk hc z (λh' hc' hs=>?_)
  obtain⟨oc,hoc,hocd⟩:=id z;refine h {s with heap:=h'} ⟨I.ok,I.os,I.bare,⟨λb o e n hb hx=>?_,λb o e n hb hx=>?_,I.base.free,λb o e hx=>?_,I.base.tups,I.base.frzs,I.base.tbls⟩,⟨m,hn.sameBut hs (Ne.symm (cne x c hc)),λj y v' e1 e2 e3=>?_⟩,λy c' e=>?_,I.free,I.freeC,λp hp=>?_,tracked ⟨oc,hoc,I.freeC x c hc⟩ hs,by simpa using I.len⟩ ⟨c,hs,.inr hc⟩
  ·exact(hs.2 b (LK (LN (LC e) (I.ok.cab x c hfn hc)))).trans (I.base.keep b o e n hb hx)
  ·obtain⟨sl,e1⟩:=I.base.slot b o e n hb hx;exact⟨sl,(hs.2 b (LK (LN (LC e) (I.ok.cab x c hfn hc)))).trans e1⟩
  ·obtain⟨o',e1⟩:=I.base.there b o e hx;exact⟨o',(hs.2 b (LK (LN (LC e) (I.ok.cab x c hfn hc)))).trans e1⟩
  ·by_cases hj:j=i
   ·subst hj;rw [hi] at e1; cases e1
    rw [List.getElem?_set_self hiσ] at e2;cases e2;exact⟨u,r,.inr ⟨.inl hk,c,hc,hc'⟩⟩
   ·rw [List.getElem?_set_ne (Ne.symm hj)] at e2;obtain⟨u',r',q⟩:=hl j y v' e1 e2 e3;refine⟨u',r',?_⟩;rcases q with q | ⟨k,c',e,z'⟩
    ·exact .inl q
    ·refine .inr ⟨k,c',e,z'.sameBut hs ?_⟩;rintro rfl;exact hj (uM hN e1 (I.ok.inj _ _ _ e hc▸hi))
  ·by_cases hcc:c'=c
   ·subst hcc; exact⟨_,hc'⟩
   ·obtain⟨w2,z2⟩:=I.cell y c' e;exact⟨w2,z2.sameBut hs hcc⟩
  ·obtain⟨e,n,ne,nf,d⟩:=I.pin p hp;refine⟨(hs.2 p.1 ?_).trans e,n,ne,nf,d⟩;intro q;rw [q,hoc] at e;have q':oc=p.2:=Ma e;exact d w' (by rw [<- q']; exact hocd)
theorem mP {M:Model} {A:MV} {E:MQ->MP->Prop} {i:Nat} {x:Str} {v:V} {u:MQ} {Q:Unit->MP->Prop} (I:aD X M6 σ H s) (hN:X.N.Nodup) (hi:X.N[i]?=some x) (hx:Hl X.env.scope x) (r:aP v u)
  (h:∀ s',aD X M6 (σ.set i (some v)) H s'->Q () s') (hf:X.fn x=true\/X.env.scope.names.lookup x=some .local:=by first | exact .inl rfl | exact .inr rfl | assumption):wpAny M A (storeName X.env x u) Q E s:=
 yD I hN hi hx r (λs' I' _=>h s' I') hf
theorem aD.call' {s':MP} {ch:List MR} (I:aD X M6 σ H s) (ho:s'.os=s.os) (u:Un (rj X.stack) ch H H' s.heap s'.heap) (hok:n9 X.prog X.w H' s'.heap) (hg:AllBare s'.gens)
  (hch:∀ b∈ch,(b∈X.ex\/X.s₀.heap.objs.size<=b)/\b≠X.env.locals/\(∀ x c,X.env.cells.lookup x=some c->c≠b)/\∀ p∈X.pn++M6,p.1≠b):aD X M6 σ H' s':=by
 obtain⟨h',g',d',t',o'⟩:=s';have e:o'=s.os:=ho;subst e;exact I.call (g':=g') (t':=t') (d':=d') u hok hg hch
end
abbrev XK:=MQ->MS MR->Hp->Prop
abbrev St:=List (MS V)
abbrev VK:=V->Hp->Prop
abbrev TE:=St->Hp->VK->Prop
abbrev TT:=St->Hp->(M1->Hp->Prop)->Prop
abbrev TA:=St->Hp->(List V->Hp->Prop)->Prop
structure qR where
 nx:St->Hp->Prop
 rt:VK
 bk:St->Hp->Prop:=λ_ _=>False
 ct:St->Hp->Prop:=λ_ _=>False
abbrev TS:=qR->St->Hp->Prop
def EP (X:Cx) (M6:List (MR×M5)) (σ:St) (Q:VK) (u:MQ) (s':MP):Prop:=∃ v H',aD X M6 σ H' s'/\aP v u/\Q v H'
def TP (X:Cx) (M6:List (MR×M5)) (σ:St) (Q:M1->Hp->Prop) (b:M1) (s':MP):Prop:=∃ H',aD X M6 σ H' s'/\Q b H'
def AP (X:Cx) (M6:List (MR×M5)) (σ:St) (Q:List V->Hp->Prop) (us:List MQ) (s':MP):Prop:=∃ vs H',aD X M6 σ H' s'/\aV vs us/\Q vs H'
def SP (X:Cx) (M6:List (MR×M5)) (D:qR) (f:Flow) (s':MP):Prop:=
 match f with
 | .next=>∃ σ' H',aD X M6 σ' H' s'/\D.nx σ' H'
 | .brk=>∃ σ' H',aD X M6 σ' H' s'/\D.bk σ' H'
 | .cont=>∃ σ' H',aD X M6 σ' H' s'/\D.ct σ' H'
 | .ret u=>∃ v σ' H',aD X M6 σ' H' s'/\aP v u/\D.rt v H'
def PE (X:Cx) (e:MT) (t:TE):Prop:=
 ∀ (M6:List (MR×M5)) (s:MP) (σ:St) (H:Hp) (Q:VK),aD X M6 σ H s->t σ H Q->wpAny (model X.prog X.w) X.A (eval e X.env) (EP X M6 σ Q) X.xe s
def PT (X:Cx) (e:MT) (t:TT):Prop:=
 ∀ (M6:List (MR×M5)) (s:MP) (σ:St) (H:Hp) (Q:M1->Hp->Prop),aD X M6 σ H s->t σ H Q->wpAny (model X.prog X.w) X.A (isTrue e X.env (eval e X.env)) (TP X M6 σ Q) X.xe s
def PW (X:Cx) (e:MT) (t:TT):Prop:=
 ∀ (whole:Sem MQ) (M6:List (MR×M5)) (s:MP) (σ:St) (H:Hp) (Q:M1->Hp->Prop),aD X M6 σ H s->t σ H Q->wpAny (model X.prog X.w) X.A (isTrue e X.env whole) (TP X M6 σ Q) X.xe s
theorem PW.pt {X:Cx} {e:MT} {t:TT} (h:PW X e t):PT X e t:=h _
def PA (X:Cx) (es:List MT) (t:TA):Prop:=
 ∀ (pos:Pos) (M6:List (MR×M5)) (s:MP) (σ:St) (H:Hp) (Q:List V->Hp->Prop),aD X M6 σ H s->t σ H Q->wpAny (model X.prog X.w) X.A (spliced (backTo pos (starEach es X.env))) (AP X M6 σ Q) X.xe s
def PS (X:Cx) (st:MY) (t:TS):Prop:=
 ∀ (M6:List (MR×M5)) (s:MP) (σ:St) (H:Hp) (D:qR),aD X M6 σ H s->t D σ H->wpAny (model X.prog X.w) X.A (exec st X.env) (SP X M6 D) X.xe s
def q9 (X:Cx) (st:List MY) (t:TS):Prop:=
 ∀ (M6:List (MR×M5)) (s:MP) (σ:St) (H:Hp) (D:qR),aD X M6 σ H s->t D σ H->wpAny (model X.prog X.w) X.A (execs st X.env) (SP X M6 D) X.xe s
theorem cR {α:Type} {t:Sem α} {Q Q':α->MP->Prop} {M:Model} {A:MV} {E:MQ->MP->Prop} {s:MP} (h:wpAny M A t Q E s) (hQ:∀ a s,Q a s->Q' a s):wpAny M A t Q' E s:=Mg h hQ λ_ _ x=>x
section
variable {X:Cx}
def J2 (i:Nat):TE:=fun σ H Q=>∃ v,σ[i]?=some (some v)/\Q v H
def tC (v:V):TE:=λ_ H Q=>Q v H
theorem Ga {i:Nat} {x:Str} {pos:Pos} (hN:X.N[i]?=some x) (hv:I_ X.env.scope x) (hd:(x == ("__debug__":Str))=false:=by decide) (hcd:(x == ("__classdict__":Str))=false:=by decide):PE X (.Name x pos) (J2 i):=by
 intro M6 s σ H Q I h;obtain⟨v,e,h⟩:=h;obtain⟨m,hn,hl⟩:=I.loc;obtain⟨u,r,l⟩:=hl i x v hN e hv;have fin:EP X M6 σ Q u s:=⟨v,H,I,r,h⟩;rcases l with ⟨hk,hm⟩ | ⟨hk,c,hc,hcell⟩
 ·exact wpAny_Name (wpAny_loadName_local I.ok.kind hk hn hm fin) hd
 ·rcases hk with hk | hk
  ·exact wpAny_Name (wpAny_loadName_cell I.ok.kind hk hc hcell fin) hd
  ·exact wpAny_Name (wpAny_loadName_free I.ok.kind hk hc hcell fin hcd) hd
theorem G7 {i j pos}:PE X (.Constant (.int i) j pos) (tC (.int i)):=λ_ _ _ H _ I h=>wpAny_Constant_int ⟨.int i,H,I.tok _,⟨_,rfl⟩,h⟩
theorem Iz {b j pos}:PE X (.Constant (.bool b) j pos) (tC (.bl b)):=λ_ _ _ H _ I h=>Constant_bool ⟨.bl b,H,I,rfl,h⟩
theorem F8 {j pos}:PE X (.Constant .none j pos) (tC .non):=λ_ _ _ H _ I h=>Constant_none ⟨.non,H,I,rfl,h⟩
theorem FP {x j pos}:PE X (.Constant (.str x) j pos) (tC (.str x)):=λ_ _ _ H _ I h=>Calls.Constant_str ⟨.str x,H,I.tok _,⟨_,rfl⟩,h⟩
def Gl (X:Cx) (x:Str):Prop:=X.env.kindOf x=some .globalImplicit
theorem xR {E:MQ->MP->Prop} {M6:List (MR×M5)} {s:MP} {σ:St} {H:Hp} {x:Str} {u:MQ} {pos:Pos} {Q:MQ->MP->Prop} (I:aD X M6 σ H s) (hg:Gl X x) (hm:X.mg x=some u) (h:Q u s)
  (hd:(x == ("__debug__":Str))=false:=by decide):wpAny (model X.prog X.w) X.A (eval (.Name x pos) X.env) Q E s:=
 Calls.Name_function_global I.ok.kind hg (Calls.loadGlobal_global (by rw [I.ok.glob]; exact I.mod.glob.keeps I.bk) hm h) hd
theorem lB {E:MQ->MP->Prop} {M6:List (MR×M5)} {s:MP} {σ:St} {H:Hp} {x:Str} {u:MQ} {pos:Pos} {Q:MQ->MP->Prop} (I:aD X M6 σ H s) (hg:Gl X x) (hm:X.mg x=none) (hv:bootBuiltins x=some u) (h:Q u s)
  (hn:x≠"__name__":=by decide) (hd:(x == ("__debug__":Str))=false:=by decide):wpAny (model X.prog X.w) X.A (eval (.Name x pos) X.env) Q E s:=by
 obtain⟨mb,h1,h2⟩:=I.mod.blt;exact Calls.Name_function_global I.ok.kind hg (Calls.loadGlobal_builtin (by rw [I.ok.glob]; exact I.mod.glob.keeps I.bk) hm (by rw [I.ok.blt]; exact h1.keeps I.bk) ((h2 x hn).trans hv) h) hd
theorem xc {x:Str} {v:V} {u:MQ} {pos:Pos} (hg:Gl X x) (hm:X.mg x=some u) (r:aP v u) (hd:(x == ("__debug__":Str))=false:=by decide):PE X (.Name x pos) (tC v):=
 λ_ _ _ H _ I h=>xR I hg hm ⟨v,H,I,r,h⟩ hd
theorem CG {x:Str} {v:V} {u:MQ} {pos:Pos} (hg:Gl X x) (hm:X.mg x=none) (hv:bootBuiltins x=some u) (r:aP v u) (hn:x≠"__name__":=by decide) (hd:(x == ("__debug__":Str))=false:=by decide):PE X (.Name x pos) (tC v):=
 λ_ _ _ H _ I h=>lB I hg hm hv ⟨v,H,I,r,h⟩ hn hd
variable {a b:MT} {ta tb:TE} {pos:Pos}
def tB (t:TE):TT:=fun σ H Q=>t σ H λx H1=>∃ c,x=.bl c/\Q c H1
theorem E6 {e:MT} {t:TE} (h:PE X e t) (he:∀ whole,isTrue e X.env whole=(do let v <- whole; standAt e.pos; holding [v] (truthy v)):=by intro _; rfl):PT X e (tB t):=by
 intro M6 s σ H Q I hw;refine isTrue_plain (cR (h M6 s σ H _ I hw) λv s1 ⟨x,H1,I1,r1,q1⟩=>?_) (he _)
 obtain⟨d,rfl,q⟩:=q1;cases r1;exact wpAny_truthy_bool ⟨H1,I1,q⟩
variable {tA tB':TT} {am:List MT}
def Kj (t u:TT):TT:=fun σ H Q=>t σ H λc H1=>if c=true then u σ H1 Q else Q false H1
def K9 (t u:TT):TT:=fun σ H Q=>t σ H λc H1=>if c=true then Q true H1 else u σ H1 Q
def Kx (t:TT):TT:=fun σ H Q=>t σ H λc H1=>Q (!c) H1
theorem Cs (ha:PT X a tA):PW X (.BoolOp .And [a] pos) tA:=by
 intro wh M6 s σ H Q I h;refine isTrue_and (cR (ha M6 s σ H Q I h) λc s1 e=>?_)
 cases c with
 | true=>exact isTrue_and_nil e
 | false=>exact e
theorem Fw (ha:PT X a tA):PW X (.BoolOp .Or [a] pos) tA:=by
 intro wh M6 s σ H Q I h;refine isTrue_or (cR (ha M6 s σ H Q I h) λc s1 e=>?_)
 cases c with
 | false=>exact isTrue_or_nil e
 | true=>exact e
theorem FO (ha:PT X a tA) (hb:PW X (.BoolOp .And (b::am) pos) tB'):PW X (.BoolOp .And (a::b::am) pos) (Kj tA tB'):=by
 intro wh M6 s σ H Q I h;refine isTrue_and (cR (ha M6 s σ H _ I h) λc s1 z9=>?_)
 obtain⟨H1,I1,q1⟩:=z9;cases c with
 | true=>exact hb wh M6 s1 σ H1 Q I1 q1
 | false=>exact⟨H1,I1,q1⟩
theorem HF (ha:PT X a tA) (hb:PW X (.BoolOp .Or (b::am) pos) tB'):PW X (.BoolOp .Or (a::b::am) pos) (K9 tA tB'):=by
 intro wh M6 s σ H Q I h;refine isTrue_or (cR (ha M6 s σ H _ I h) λc s1 z9=>?_)
 obtain⟨H1,I1,q1⟩:=z9;cases c with
 | true=>exact⟨H1,I1,q1⟩
 | false=>exact hb wh M6 s1 σ H1 Q I1 q1
theorem FK (ha:PT X a tA):PT X (.UnaryOp .Not a pos) (Kx tA):=by
 intro M6 s σ H Q I h;exact isTrue_not (ha M6 s σ H (λc H1=>Q (!c) H1) I h)
def K_ (t:TT) (ta tb:TE):TE:=fun σ H Q=>t σ H λc H1=>if c=true then ta σ H1 Q else tb σ H1 Q
theorem A3 {c:MT} (hc:PT X c tA) (ha:PE X a ta) (hb:PE X b tb):PE X (.IfExp c a b pos) (K_ tA ta tb):=by
 intro M6 s σ H Q I h;refine wpAny_IfExp (cR (hc M6 s σ H _ I h) λd s1 z9=>?_)
 obtain⟨H1,I1,q1⟩:=z9;cases d with
 | true=>exact ha M6 s1 σ H1 Q I1 q1
 | false=>exact hb M6 s1 σ H1 Q I1 q1
end
def ic (K:PySem.W.Frag) (H:Hp) (a:MR) (xs:List V):Prop:=
 Rd H a (.lst xs)\/
  ∃ (o:M5) (its:MZ MQ) (n:Nat),K.lookup a=some o/\o.cls=.type "list"/\o.dict=none/\o.data=.seq its n/\its.size<=sizeLine/\aV xs its.toList
def ja (K:PySem.W.Frag) (H:Hp) (a:MR) (xs:List V):Prop:=
 Rd H a (.tup xs)\/
  ∃ (o:M5) (its:MZ MQ) (n:Nat),K.lookup a=some o/\o.cls=.type "tuple"/\o.data=.seq its n/\its.size<=sizeLine/\aV xs its.toList
def Ku:MQ->MS V
 | .none=>some .non
 | .bool b=>some (.bl b)
 | .int i _=>some (.int i)
 | .str x _=>some (.str x)
 | .bytes b _=>some (.byt b)
 | .float b _=>some (.flt b)
 | .ref a=>some (.ref a)
 | .type n=>some (.ty n)
 | _=>none
theorem aP.abs {x:V} {u:MQ} (r:aP x u):Ku u=some x:=by
 cases x with
 | non=>cases r; rfl
 | bl _=>cases r; rfl
 | int _=>obtain⟨t,rfl⟩:=r; rfl
 | str _=>obtain⟨t,rfl⟩:=r; rfl
 | byt _=>obtain⟨t,rfl⟩:=r; rfl
 | flt _=>obtain⟨t,rfl⟩:=r; rfl
 | ref _=>cases r; rfl
 | ty _=>cases r; rfl
theorem aP.inj {x y:V} {u:MQ} (r:aP x u) (q:aP y u):x=y:=Ma (r.abs.symm.trans q.abs)
theorem aV.inj:∀ {xs ys:List V} {us:List MQ},aV xs us->aV ys us->xs=ys
 | _,_,_,.nil,.nil=>rfl
 | _,_,_,.cons r t,.cons r' t'=>by rw [r.inj r',aV.inj t t']
section
variable {X:Cx} {M6:List (MR×M5)} {σ:St} {H:Hp} {s:MP} {a:MR} {xs ys:List V}
theorem ic.of {K:PySem.W.Frag} (h:H a=some (.lst xs)):ic K H a xs:=.inl (.inl h)
theorem ja.of {K:PySem.W.Frag} (h:H a=some (.tup xs)):ja K H a xs:=.inl (.inl h)
theorem aD.list (I:aD X M6 σ H s) (h:ic X.K H a xs):∃ its:List MQ,aV xs its/\PlainL s.heap a its.toArray/\xs.length<=sizeLine:=by
 rcases h with h | ⟨o,its,n,hk,hc,hd,hs,hz,r⟩
 ·obtain⟨z,its,n,r,e⟩:=h.ok I.hok;exact⟨its,r,⟨_,n,e,rfl,rfl,rfl⟩,z⟩
 ·refine⟨its.toList,r,⟨o,n,I.kIn a o hk,hc,hd,by simpa using hs⟩,?_⟩
  have e:=r.length;simp only [MF] at e;omega
theorem aD.tuple (I:aD X M6 σ H s) (h:ja X.K H a xs):∃ its:List MQ,aV xs its/\IsTup s.heap a its.toArray/\xs.length<=sizeLine:=by
 rcases h with h | ⟨o,its,n,hk,hc,hs,hz,r⟩
 ·obtain⟨z,its,r,p⟩:=h.ok I.hok;exact⟨its,r,p,z⟩
 ·refine⟨its.toList,r,⟨o,I.kIn a o hk,hc,n,by simpa using hs⟩,?_⟩
  have e:=r.length;simp only [MF] at e;omega
theorem aD.list_inj (I:aD X M6 σ H s) (h:ic X.K H a xs) (h':ic X.K H a ys):xs=ys:=by
 obtain⟨its,r,⟨o,n,e,_,_,d⟩,_⟩:=I.list h;obtain⟨its',r',⟨o',n',e',_,_,d'⟩,_⟩:=I.list h';rw [e] at e'; cases e'
 rw [d] at d';injection d' with d1 _
 have:its=its':=by simpa using congrArg Array.toList d1
 subst this;exact r.inj r'
theorem aD.tuple_inj (I:aD X M6 σ H s) (h:ja X.K H a xs) (h':ja X.K H a ys):xs=ys:=by
 obtain⟨its,r,⟨o,e,_,n,d⟩,_⟩:=I.tuple h;obtain⟨its',r',⟨o',e',_,n',d'⟩,_⟩:=I.tuple h';rw [e] at e'; cases e'
 rw [d] at d';injection d' with d1 _
 have:its=its':=by simpa using congrArg Array.toList d1
 subst this;exact r.inj r'
end
abbrev Cx.wish (X:Cx) (E:MQ->MP->Prop):Cx:={X with xe:=E}
abbrev Cx.nox (X:Cx):Cx:=X.wish λ_ _=>False
theorem Cx.Ok.wish {X:Cx} (ok:X.Ok) (E:MQ->MP->Prop):(X.wish E).Ok:=
 ⟨ok.mod,ok.kind,ok.glob,ok.blt,ok.above,ok.inj,ok.has,ok.cab,ok.hd,ok.frames,ok.stk,ok.exf,ok.bs,ok.bsz,ok.noex,ok.exfs,ok.funs,ok.frf⟩
theorem Cx.Ok.unwish {X:Cx} {E:MQ->MP->Prop} (ok:(X.wish E).Ok):X.Ok:=
 ⟨ok.mod,ok.kind,ok.glob,ok.blt,ok.above,ok.inj,ok.has,ok.cab,ok.hd,ok.frames,ok.stk,ok.exf,ok.bs,ok.bsz,ok.noex,ok.exfs,ok.funs,ok.frf⟩
section
variable {X:Cx} {M6:List (MR×M5)} {σ:St} {H:Hp} {s:MP} {E:MQ->MP->Prop}
theorem aD.wish (I:aD X M6 σ H s) (E:MQ->MP->Prop):aD (X.wish E) M6 σ H s:=⟨I.ok.wish E,I.os,I.bare,I.base,I.loc,I.cell,I.free,I.freeC,I.pin,I.hok,I.len⟩
theorem aD.unwish (I:aD (X.wish E) M6 σ H s):aD X M6 σ H s:=⟨I.ok.unwish,I.os,I.bare,I.base,I.loc,I.cell,I.free,I.freeC,I.pin,I.hok,I.len⟩
theorem SP.unwish {D:qR} {f:Flow} {s':MP} (h:SP (X.wish E) M6 D f s'):SP X M6 D f s':=by
 cases f with
 | next=>obtain⟨σ',H',I,q⟩:=h; exact⟨σ',H',I.unwish,q⟩
 | brk=>obtain⟨σ',H',I,q⟩:=h; exact⟨σ',H',I.unwish,q⟩
 | cont=>obtain⟨σ',H',I,q⟩:=h; exact⟨σ',H',I.unwish,q⟩
 | ret u=>obtain⟨v,σ',H',I,r,q⟩:=h; exact⟨v,σ',H',I.unwish,r,q⟩
theorem q9.nox {st:List MY} {t:TS} (h:q9 X.nox st t):q9 X st t:=λM6 s σ H D I hw=>
 Mg (h M6 s σ H D (I.wish _) hw) (λ_ _ q=>q.unwish) λ_ _ z=>False.elim z
end
section
variable {X:Cx} {st:MY} {am:List MY} {t u:TS} {e:MT} {te:TE} {pos:Pos}
def Jt:TS:=λD σ H=>D.nx σ H
def Ij (t u:TS):TS:=λD σ H=>t {D with nx:=u D} σ H
theorem Dc:q9 X [] Jt:=λ_ _ σ H _ I h=>wpAny_execs_nil ⟨σ,H,I,h⟩
theorem Bl (h1:PS X st t) (h2:q9 X am u):q9 X (st::am) (Ij t u):=by
 intro M6 s σ H D I h;refine wpAny_execs_cons (cR (h1 M6 s σ H {D with nx:=u D} I h) λf s1 q=>?_)
 cases f with
 | next=>
  obtain⟨σ',H',I',q⟩:=q;exact h2 M6 s1 σ' H' D I' q
 | ret v=>exact q
 | brk=>exact q
 | cont=>exact q
theorem DR (h1:PS X st t):q9 X [st] t:=by
 intro M6 s σ H D I h;refine wpAny_execs_cons (cR (h1 M6 s σ H D I h) λf s1 q=>?_)
 cases f with
 | next=>exact wpAny_execs_nil q
 | ret v=>exact q
 | brk=>exact q
 | cont=>exact q
theorem aD.quiet {M6:List (MR×M5)} {σ:St} {H:Hp} {s:MP} (I:aD X M6 σ H s):interactive X.env=false:=by simp [interactive,I.ok.kind]
def IR (te:TE):TS:=λD σ H=>te σ H λ_ H1=>D.nx σ H1
theorem C8 (he:PE X e te) (hs:swapsWith e none pos.line X.env=pure false:=by rfl):PS X (.Expr e pos) (IR te):=by
 intro M6 s σ H D I h;exact wpAny_Expr_any (cR (he M6 s σ H _ I h) λv s1 z9=>by obtain⟨x,H1,I1,r1,q1⟩:=z9; exact⟨σ,H1,I1,q1⟩) I.quiet hs
def JY (te:TE):TS:=λD σ H=>te σ H D.rt
theorem FH (he:PE X e te):PS X (.Return (some e) pos) (JY te):=by
 intro M6 s σ H D I h;exact wpAny_Return_some (cR (he M6 s σ H _ I h) λv s1 z9=>by obtain⟨x,H1,I1,r1,q1⟩:=z9; exact⟨x,σ,H1,I1,r1,q1⟩)
def Kt (c:TT) (t u:TS):TS:=λD σ H=>c σ H λb H1=>if b=true then t D σ H1 else u D σ H1
theorem HG {c:MT} {a b:List MY} {tc:TT} (hc:PT X c tc) (ha:q9 X a t) (hb:q9 X b u):PS X (.If c a b pos) (Kt tc t u):=by
 intro M6 s σ H D I h;refine wpAny_If (cR (hc M6 s σ H _ I h) λd s1 z9=>?_)
 obtain⟨H1,I1,q1⟩:=z9;cases d with
 | true=>exact ha M6 s1 σ H1 D I1 q1
 | false=>exact hb M6 s1 σ H1 D I1 q1
def FY:TS:=λ_ _ _=>False
theorem A8:PS X st FY:=λ_ _ _ _ _ _ h=>h.elim
end
abbrev TG:=V->St->Hp->(St->Hp->Prop)->Prop
abbrev AF:=List V->St->Hp->(St->Hp->Prop)->Prop
def PG (X:Cx) (target:MT) (t:TG):Prop:=
 ∀ (M6:List (MR×M5)) (s:MP) (σ:St) (H:Hp) (v:V) (u:MQ) (Q:St->Hp->Prop),aD X M6 σ H s->aP v u->t v σ H Q->
  wpAny (model X.prog X.w) X.A (assign target X.env u) (λ_ s'=>∃ σ' H',aD X M6 σ' H' s'/\Q σ' H') X.xe s
def Bw (X:Cx) (ts:List MT) (t:AF):Prop:=
 ∀ (M6:List (MR×M5)) (s:MP) (σ:St) (H:Hp) (vs:List V) (us:List MQ) (Q:St->Hp->Prop),aD X M6 σ H s->aV vs us->t vs σ H Q->
  wpAny (model X.prog X.w) X.A (assignInOrder ((assignEach ts X.env).map (·.2)) us) (λ_ s'=>∃ σ' H',aD X M6 σ' H' s'/\Q σ' H') X.xe s
abbrev CW:=V->V->V->Hp->(Hp->Prop)->Prop
def GU (X:Cx) (t:CW):Prop:=
 ∀ (M6:List (MR×M5)) (s:MP) (σ:St) (H:Hp) (o i v:V) (ov iv u:MQ) (Q:Hp->Prop),aD X M6 σ H s->aP o ov->aP i iv->aP v u->t o i v H Q->
  wpAny (model X.prog X.w) X.A (setItem ov iv u) (λ_ s'=>∃ H',aD X M6 σ H' s'/\Q H') X.xe s
section
variable {X:Cx} {pos:Pos}
def oe (i:Nat):TG:=λv σ H Q=>Q (σ.set i (some v)) H
theorem tu {i:Nat} {x:Str} (hN:X.N.Nodup) (hi:X.N[i]?=some x) (hx:Hl X.env.scope x) (hf:X.fn x=true\/X.env.scope.names.lookup x=some .local:=by first | exact .inl rfl | exact .inr rfl | assumption):PG X (.Name x pos) (oe i):=by
 intro M6 s σ H v u Q I r h;exact wpAny_assign_Name (mP I hN hi hx r (λs' I'=>⟨_,H,I',h⟩) hf)
def J1:AF:=λvs σ H Q=>vs=[]/\Q σ H
def HN (t:TG) (u:AF):AF:=λvs σ H Q=>∃ v r,vs=v::r/\t v σ H fun σ' H'=>u r σ' H' Q
theorem Dd:Bw X [] J1:=by
 intro M6 s σ H vs us Q I r h;obtain⟨e,h⟩:=h;subst e;cases r;exact assignInOrder_nil ⟨σ,H,I,h⟩
theorem Ag {e:MT} {es:List MT} {t:TG} {u:AF} (h1:PG X e t) (h2:Bw X es u)
  (hs:(assignEach (e::es) X.env).map (·.2)=assign e X.env::(assignEach es X.env).map (·.2):=by rfl):Bw X (e::es) (HN t u):=by
 intro M6 s σ H vs us Q I r h;obtain⟨v,vr,e1,h⟩:=h;subst e1;cases r with
 | cons r rr=>
  rw [hs];refine assignInOrder_cons (cR (h1 M6 s σ H _ _ _ I r h) λ_ s1 z9=>?_)
  obtain⟨σ1,H1,I1,q1⟩:=z9;exact h2 M6 s1 σ1 H1 _ _ Q I1 rr q1
def Kc (K:PySem.W.Frag) (n:Nat) (t:AF):TG:=λv σ H Q=>∃ a xs,v=.ref a/\ja K H a xs/\xs.length=n/\t xs σ H Q
theorem Gj {es:List MT} {k:Nat} {t:AF} {n:Nat} (hc:X.calm=true) (h:Bw X es t)
  (hn:(assignEach es X.env).length=n:=by rfl) (hst:(assignEach es X.env).findIdx? (·.1)=none:=by rfl):PG X (.Tuple es k pos) (Kc X.K n t):=by
 intro M6 s σ H v u Q I r hw;obtain⟨a,xs,e1,hq,hl,hw⟩:=hw;subst e1;cases r;obtain⟨its,rv,ht,hz⟩:=I.tuple hq;refine assign_Tuple_tuple (I.ok.hd hc) ht (by simp [hn,<- hl,rv.length]) hst λh' hx=>?_
 have I1:aD X M6 σ H {s with heap:=h'}:=I.kept (t':=s.toks) λb o e=>hx b o (LK (LC e)) e
 exact h M6 _ σ H xs _ Q I1 (by simpa using rv) hw
def JQ (to ti:TE) (t:CW):TG:=λv σ H Q=>to σ H λo H1=>ti σ H1 λi H2=>t o i v H2 λH3=>Q σ H3
theorem Bb {o i:MT} {to ti:TE} {t:CW} (ho:PE X o to) (hi:PE X i ti) (hs:GU X t)
  (ha:∀ v,assign (.Subscript o i pos) X.env v=(do
   let ov <- holding [v] (eval o X.env)
   let iv <- holding [v,ov] (eval i X.env)
   standAt pos
   holding [v,ov,iv] (setItem ov iv v)
   release [v,ov,iv] []):=by intro _; rfl):PG X (.Subscript o i pos) (JQ to ti t):=by
 intro M6 s σ H v u Q I r h;rw [ha];refine gt (L5 (cR (ho M6 s σ H _ I h) λov s1 z9=>?_))
 obtain⟨x,H1,I1,r1,q1⟩:=z9;refine gt (L5 (cR (hi M6 s1 σ H1 _ I1 q1) λiv s2 z9=>?_))
 obtain⟨y,H2,I2,r2,q2⟩:=z9;refine gt (wpAny_standAt (gt (L5 (cR (hs M6 s2 σ H2 x y v ov iv u _ I2 r1 r2 r q2) λ_ s3 z9=>?_))))
 obtain⟨H3,I3,q3⟩:=z9;exact wpAny_release ⟨σ,H3,I3,q3⟩
def zj (te:TE) (g:TG):TS:=λD σ H=>te σ H λx H1=>g x σ H1 D.nx
theorem FV {tg e:MT} {te:TE} {g:TG} (he:PE X e te) (hg:PG X tg g) (hs:swapsWithSole [tg] e pos.line X.env=pure false:=by rfl) (hw:swappedStores [tg] e X.env=pure none:=by rfl)
  (h1:(assignEach [tg] X.env).map (·.2)=[assign tg X.env]:=by rfl):PS X (.Assign [tg] e pos) (zj te g):=by
 intro M6 s σ H D I h;refine wpAny_Assign_stores (cR (he M6 s σ H _ I h) λv s1 ⟨x,H1,I1,r1,q1⟩=>?_) hs hw
 rw [h1];exact cR (hg M6 s1 σ H1 x v _ I1 r1 q1) λ_ s2 q=>q
theorem E1 {i:Nat} {x:Str} {e:MT} {te:TE} {pos':Pos} (hN:X.N.Nodup) (hi:X.N[i]?=some x) (hx:Hl X.env.scope x) (he:PE X e te) (hs:swapsWith e (some (.Name x pos')) pos.line X.env=pure false:=by rfl) (hf:X.fn x=true\/X.env.scope.names.lookup x=some .local:=by first | exact .inl rfl | exact .inr rfl | assumption):
  PS X (.Assign [.Name x pos'] e pos) (zj te (oe i)):=by
 intro M6 s σ H D I h;refine wpAny_Assign_Name (cR (he M6 s σ H _ I h) λv s1 ⟨y,H1,I1,r1,q1⟩=>?_) hs
 exact mP I1 hN hi hx r1 (λs2 I2=>⟨_,H1,I2,q1⟩) hf
def JR (i j:Nat) (ta:TA):TS:=λD σ H=>ta σ H λvs H1=>∃ v w,vs=[v,w]/\D.nx ((σ.set i (some v)).set j (some w)) H1
theorem FA {i j:Nat} {x y:Str} {a b:MT} {ta:TA} {px py pt:Pos} {kt k2 pt2} (hc:X.calm=true) (hN:X.N.Nodup) (hi:X.N[i]?=some x) (hj:X.N[j]?=some y) (hij:i≠j)
  (hx:X.env.scope.names.lookup x=some .local) (hy:X.env.scope.names.lookup y=some .local) (ha:PA X [a,b] ta)
  (hw:swappedStores [.Tuple [.Name x px,.Name y py] kt pt] (.Tuple [a,b] k2 pt2) X.env=pure (some [x,y]))
  (hs:swapsWithSole [.Tuple [.Name x px,.Name y py] kt pt] (.Tuple [a,b] k2 pt2) pos.line X.env=pure false:=by rfl):
  PS X (.Assign [.Tuple [.Name x px,.Name y py] kt pt] (.Tuple [a,b] k2 pt2) pos) (JR i j ta):=by
 intro M6 s σ H D I h;rw [exec_Assign_arm];refine gt (wpAny_standAt ?_);rw [hs];refine gt (Lz ?_);rw [if_neg (by decide)]
 refine gt (Tuple_ (cR (ha _ M6 s σ H _ I h) λus s1 z9=>?_))
 obtain⟨vs,H1,I1,r1,q1⟩:=z9;obtain⟨v,w,e1,q1⟩:=q1;subst e1;obtain⟨u1,u2,rfl,rv,rw'⟩:∃ u1 u2,us=[u1,u2]/\aP v u1/\aP w u2:=by
  cases r1 with
  | cons p q=>
   cases q with
   | cons p' q'=>
    cases q';exact⟨_,_,rfl,p,p'⟩
 refine L7 ?_ (by show 2<=sizeLine; decide)
 have I2:aD X M6 σ H1 {s1 with heap:=s1.heap.push {cls:=.type "tuple",data:=.seq [u1,u2].toArray}}:=I1.kept (t':=s1.toks) λb o e=>Ly _ e
 rw [hw];refine gt (Lz ?_)
 show wpAny (model X.prog X.w) X.A (do rule "assign.swapped-stores"; let items <- unpackItems (.ref s1.heap.objs.size) 2 none; assignInOrder [λv=>bindName X.env y v,λv=>bindName X.env x v] items.reverse; pure Flow.next) _ _ _
 refine gt (wpAny_rule (gt (unpackItems_tuple (items:=#[u1,u2]) (I.ok.hd hc) (IsTup.new s1.heap _) λh' hx'=>?_)))
 have I3:=I2.kept (h':=h') (t':=s1.toks) λb o e=>hx' b o (LK (LC e)) e
 show wpAny _ _ (assignInOrder [λv=>bindName X.env y v,λv=>bindName X.env x v] [u2,u1] >>= λ_=>pure Flow.next) _ _ _
 refine gt (assignInOrder_cons (wpAny_bindName (mP I3 hN hj (.inl hy) rw' (λs2 I4=>?_) (.inr hy))))
 refine assignInOrder_cons (wpAny_bindName (mP I4 hN hi (.inl hx) rv (λs3 I5=>assignInOrder_nil (Lz ?_)) (.inr hx)))
 rw [List.set_comm _ _ (Ne.symm hij)] at I5;exact⟨_,H1,I5,q1⟩
def He (c:TT) (tb:TS):TS:=λD σ H=>∃ W:Nat->St->Hp->Prop,(∃ m,W m σ H)/\∀ m σ H,W m σ H->
 c σ H λb H1=>if b=true then ∃ N:St->Hp->Prop,(∀ σ' H',N σ' H'->∃ m',m' < m/\W m' σ' H')/\tb {D with nx:=N,ct:=N,bk:=D.nx} σ H1 else D.nx σ H1
theorem BC {c:MT} {body:List MY} {tc:TT} {tb:TS} (hp:PassesOwn (model X.prog X.w) X.A X.env X.xe) (hc:PT X c tc) (hb:q9 X body tb):PS X (.While c body [] pos) (He tc tb):=by
 intro M6 s σ H D I h;obtain⟨W,⟨m0,w0⟩,turn⟩:=h;refine wpAny_While (codeAny_whileLoop (λn s'=>∃ σ' H',aD X M6 σ' H' s'/\W n σ' H') ?_ m0 ⟨σ,H,I,w0⟩)
 rintro n s1 ⟨σ1,H1,I1,w1⟩;refine wpAny_passesOwn hp (cR (hc M6 s1 σ1 H1 _ I1 (turn n σ1 H1 w1)) λb s2 z9=>?_)
 obtain⟨H2,I2,q2⟩:=z9;cases b with
 | true=>
  obtain⟨N,hN,q2⟩:=q2;rw [if_pos rfl];refine wpAny_passesOwn hp (cR (hb M6 s2 σ1 H2 _ I2 q2) λf s3 q3=>?_)
  cases f with
  | next=>
   obtain⟨σ3,H3,I3,n3⟩:=q3;obtain⟨m',hm,w3⟩:=hN σ3 H3 n3;exact⟨m',hm,σ3,H3,I3,w3⟩
  | cont=>
   obtain⟨σ3,H3,I3,n3⟩:=q3;obtain⟨m',hm,w3⟩:=hN σ3 H3 n3;exact⟨m',hm,σ3,H3,I3,w3⟩
  | brk=>exact q3
  | ret v=>exact q3
 | false=>
  rw [if_neg LH];exact wpAny_execs_nil ⟨σ1,H2,I2,q2⟩
end
structure It where
 go:Nat->Hp->Prop
 yld:Nat->Hp->V->Hp->Prop
 stop:Nat->Hp->Prop
def kS (X:Cx) (M6:List (MR×M5)) (H:Hp) (b:MR):Prop:=
 H b=none/\b≠X.env.locals/\b∉X.fs/\(b∈X.ex\/X.s₀.heap.objs.size<=b)/\(∀ x c,X.env.cells.lookup x=some c->c≠b)/\∀ p∈X.pn++M6,p.1≠b
theorem aD.fpOk {X:Cx} {M6:List (MR×M5)} {σ:St} {H H':Hp} {s:MP} {b:MR} (I:aD X M6 σ H s) (hb:s.heap.objs.size<=b) (hn:H' b=none):kS X M6 H' b:=by
 refine⟨hn,Nat.ne_of_gt (LN I.lt hb),I.nofs hb,.inr (Mi I.sz hb),λx c e z=>?_,λp hp z=>?_⟩
 ·obtain⟨v,q⟩:=I.cell x c e;exact absurd (LN q.lt (by rw [z]; exact hb)) (Mz _)
 ·exact absurd (LN (LC (I.pin p hp).1) (by rw [z]; exact hb)) (Mz _)
structure vm (P:MU) (w:MW) (K:PySem.W.Frag) (tg:MT) (J:It) (fp:List MR) (it:MR) (tn:Nat->MX->Prop):Prop where
 mem:it∈fp
 obj:∀ i h,tn i h->∀ b∈fp,∃ o,h.get? b=some o/\∀ v,o.data≠.cell v
 keep:∀ i h h',tn i h->(∀ b∈fp,∀ o,h.get? b=some o->h'.get? b=some o)->tn i h'
 item:∀ (X:Cx),X.prog=P->X.w=w->X.K=K->X.calm=true->∀ (i:Nat) (M6:List (MR×M5)) (s:MP) (σ:St) (H:Hp) (E:MQ->MP->Prop),aD X M6 σ H s->(∀ b∈fp,kS X M6 H b)->tn i s.heap->J.go i H->
  wpAny (model P w) X.A (pyNext (.ref it)) (λr s1=>∃ u,r=some u/\
   wpAny (model P w) X.A (letOwnedTupleGo tg (.ref it) u) (λ_ s2=>∃ x H',aD X M6 σ H' s2/\aP x u/\J.yld i H x H'/\tn (i+1) s2.heap/\∀ b∈fp,H' b=none) E s1) E s
 done:∀ (X:Cx),X.prog=P->X.w=w->X.K=K->X.calm=true->∀ (i:Nat) (M6:List (MR×M5)) (s:MP) (σ:St) (H:Hp) (E:MQ->MP->Prop),aD X M6 σ H s->(∀ b∈fp,kS X M6 H b)->tn i s.heap->J.stop i H->
  wpAny (model P w) X.A (pyNext (.ref it)) (λr s1=>r=none/\aD X M6 σ H s1) E s
 self:∀ (A:MV) (i:Nat) (s:MP) (Q:MQ->MP->Prop) (E:MQ->MP->Prop),tn i s.heap->Q (.ref it) s->wpAny (model P w) A (pyIter (.ref it)) Q E s
abbrev TI:=St->Hp->(It->Hp->Prop)->Prop
def KA (X:Cx) (M6:List (MR×M5)) (σ:St) (tg:MT) (R:It->Hp->Prop) (itv:MQ) (s2:MP):Prop:=
 ∃ (it:MR) (fp:List MR) (tn:Nat->MX->Prop) (J:It) (H':Hp),itv=.ref it/\aD X M6 σ H' s2/\vm X.prog X.w X.K tg J fp it tn/\tn 0 s2.heap/\(∀ b∈fp,kS X M6 H' b)/\R J H'
def PI (X:Cx) (tg iter:MT) (wi:TI):Prop:=
 ∀ (M6:List (MR×M5)) (s:MP) (σ:St) (H:Hp) (R:It->Hp->Prop),aD X M6 σ H s->wi σ H R->
  wpAny (model X.prog X.w) X.A (eval iter X.env) (λv s1=>wpAny (model X.prog X.w) X.A (pyIter v) (KA X M6 σ tg R) X.xe s1) X.xe s
theorem rL {M:Model} {A:MV} {E:MQ->MP->Prop} {s:MP} {tg:MT} {it:MR} {u:MQ} {o:M5} {n:M3} {vs:MZ MQ} {Q:Unit->MP->Prop} (ho:s.heap.get? it=some o) (hc:o.cls=.type n) (hd:o.data=.fields vs)
  (hn:["enumerate","zip","dict_itemiterator","dict_reverseitemiterator","odict_iterator","itertools.zip_longest","itertools.pairwise"].contains n=false) (hQ:Q () s):wpAny M A (letOwnedTupleGo tg (.ref it) u) Q E s:=by
 unfold letOwnedTupleGo;cases tg <;> first
  | exact Lz hQ
  | (cases u <;> first
    | exact Lz hQ
    | (refine gt (wpAny_load ho ?_)
       rw [hc,hd]
       show wpAny M A (if (["enumerate","zip","dict_itemiterator","dict_reverseitemiterator","odict_iterator","itertools.zip_longest","itertools.pairwise"].contains n && vs[0]? == some (rawInt _))=true then _ else _) Q E s
       rw [if_neg (by intro h; rw [hn,Bool.false_and] at h; cases h)]
       exact Lz hQ))
def Jr (K:PySem.W.Frag) (a:MR):It:=
 ⟨λi H=>∃ xs x,ic K H a xs/\xs[i]?=some x,λi H x H'=>H'=H/\∀ xs,ic K H a xs->xs[i]?=some x,λi H=>∃ xs,ic K H a xs/\xs.length<=i⟩
def HQ (K:PySem.W.Frag) (a:MR):It:=
 ⟨λi H=>∃ xs x,ja K H a xs/\xs[i]?=some x,λi H x H'=>H'=H/\∀ xs,ja K H a xs->xs[i]?=some x,λi H=>∃ xs,ja K H a xs/\xs.length<=i⟩
def Jj (lo:Int) (n:Nat):It:=⟨λi _=>i < n,λi H x H'=>H'=H/\x=.int (lo+i),λi _=>n<=i⟩
theorem yd {P:MU} {w:MW} {K:PySem.W.Frag} {tg:MT} (a it:MR):vm P w K tg (Jr K a) [it] it (λi h=>h.IsListIter it a i) where
 mem:=by simp
 obj:=λi h st b hb=>by
  have e:b=it:=by simpa using hb
  subst e;obtain⟨o,e,c,d⟩:=st;exact⟨o,e,λv z=>by rw [d] at z; cases z⟩
 keep:=λi h h' st k=>st.at λo e=>k it (by simp) o e
 item:=by
  intro X hP hw hK hc i M6 s σ H E I hf st hg;subst hP hw hK;obtain⟨xs,x,hq,hx⟩:=hg;obtain⟨its,rv,p,hz⟩:=I.list hq;obtain⟨u,hu,ru⟩:=rv.get hx;obtain⟨f0,f1,f2,f3,f4,f5⟩:=hf it (by simp)
  refine wpAny_pyNext_list_item st p.isList (x:=u) (by simpa using hu) λh' st' sb=>?_
  have I1:aD X M6 σ H {s with heap:=h'}:=I.turned (t':=s.toks) (λb o hb e=>(sb.2 b hb).trans e) f0 f1 f3 f4 f5
  obtain⟨o,e,c,d⟩:=id st';exact⟨u,rfl,rL (s:={s with heap:=h'}) e c d (by decide) ⟨x,H,I1,ru,⟨rfl,λys hy=>by rw [I.list_inj hy hq]; exact hx⟩,st',λb hb=>(hf b hb).1⟩⟩
 done:=by
  intro X hP hw hK hc i M6 s σ H E I hf st hg;subst hP hw hK;obtain⟨xs,hq,hx⟩:=hg;obtain⟨its,rv,p,hz⟩:=I.list hq;obtain⟨f0,f1,f2,f3,f4,f5⟩:=hf it (by simp)
  have hl:=rv.length;exact wpAny_pyNext_list_end (I.ok.hd hc) st p.isList (by simp; omega) λh' eb=>⟨rfl,I.turned (t':=s.toks) (λb o hb e=>eb b o hb e) f0 f1 f3 f4 f5⟩
 self:=λ_ _ _ _ _ st h=>wpAny_pyIter_listiter st h
theorem wz {P:MU} {w:MW} {K:PySem.W.Frag} {tg:MT} (a it:MR):vm P w K tg (HQ K a) [it] it (λi h=>h.IsTupleIter it a i) where
 mem:=by simp
 obj:=λi h st b hb=>by
  have e:b=it:=by simpa using hb
  subst e;obtain⟨o,e,c,d⟩:=st;exact⟨o,e,λv z=>by rw [d] at z; cases z⟩
 keep:=λi h h' st k=>st.at λo e=>k it (by simp) o e
 item:=by
  intro X hP hw hK hc i M6 s σ H E I hf st hg;subst hP hw hK;obtain⟨xs,x,hq,hx⟩:=hg;obtain⟨its,rv,p,hz⟩:=I.tuple hq;obtain⟨u,hu,ru⟩:=rv.get hx;obtain⟨f0,f1,f2,f3,f4,f5⟩:=hf it (by simp)
  refine wpAny_pyNext_tuple_item st (show s.heap.IsTuple a its.toArray from p) (x:=u) (by simpa using hu) λh' st' sb=>?_
  have I1:aD X M6 σ H {s with heap:=h'}:=I.turned (t':=s.toks) (λb o hb e=>(sb.2 b hb).trans e) f0 f1 f3 f4 f5
  obtain⟨o,e,c,d⟩:=id st';exact⟨u,rfl,rL (s:={s with heap:=h'}) e c d (by decide) ⟨x,H,I1,ru,⟨rfl,λys hy=>by rw [I.tuple_inj hy hq]; exact hx⟩,st',λb hb=>(hf b hb).1⟩⟩
 done:=by
  intro X hP hw hK hc i M6 s σ H E I hf st hg;subst hP hw hK;obtain⟨xs,hq,hx⟩:=hg;obtain⟨its,rv,p,hz⟩:=I.tuple hq;obtain⟨f0,f1,f2,f3,f4,f5⟩:=hf it (by simp)
  have hl:=rv.length;exact wpAny_pyNext_tuple_end (I.ok.hd hc) st (show s.heap.IsTuple a its.toArray from p) (by simp; omega) λh' eb=>⟨rfl,I.turned (t':=s.toks) (λb o hb e=>eb b o hb e) f0 f1 f3 f4 f5⟩
 self:=λ_ _ _ _ _ st h=>wpAny_pyIter_tupleiter st h
theorem v7 {P:MU} {w:MW} {K:PySem.W.Frag} {tg:MT} (it:MR) (lo:Int) (n:Nat):vm P w K tg (Jj lo n) [it] it (λi h=>IsRangeIter h it (lo+(i:Nat)*1) ((n:Int) - (i:Nat)) 1) where
 mem:=by simp
 obj:=λi h st b hb=>by
  have e:b=it:=by simpa using hb
  subst e;exact⟨_,st,λv z=>by
   have z':Data.fields _=Data.cell v:=z;cases z'⟩
 keep:=λi h h' st k=>k it (by simp) _ st
 item:=by
  intro X hP hw hK hc i M6 s σ H E I hf st hg;subst hP hw hK;obtain⟨f0,f1,f2,f3,f4,f5⟩:=hf it (by simp)
  have W:=Walks.range (prog:=X.prog) (w:=X.w) (I.ok.hd hc) it lo 1 n;refine W.item i s _ _ hg st λv h' tk hv st' kk=>?_
  obtain⟨t,rfl⟩:=hv;have I1:aD X M6 σ H {s with heap:=h',toks:=tk}:=I.turned (λb o hb e=>kk b o (by simpa using hb) e) f0 f1 f3 f4 f5
  refine⟨_,rfl,rL (s:={s with heap:=h',toks:=tk}) (n:="range_iterator") st' rfl rfl (by decide) ⟨.int (lo+i),H,I1,⟨t,?_⟩,⟨rfl,rfl⟩,st',λb hb=>(hf b hb).1⟩⟩
  rw [Int.mul_one]
 done:=by
  intro X hP hw hK hc i M6 s σ H E I hf st hg;subst hP hw hK;obtain⟨f0,f1,f2,f3,f4,f5⟩:=hf it (by simp)
  exact wpAny_pyNext_range_end (I.ok.hd hc) st (by have:n<=i:=hg; omega) λh' eb=>⟨rfl,I.turned (t':=s.toks) (λb o hb e=>eb b o hb e) f0 f1 f3 f4 f5⟩
 self:=λ_ _ _ _ _ st h=>wpAny_pyIter_rangeiter st h
section
variable {X:Cx} {tg:MT}
theorem Be {M6:List (MR×M5)} {σ:St} {H:Hp} {s:MP} {R:It->Hp->Prop} {E:MQ->MP->Prop} {lo hi:Int} {t u v:Tok} {tk:Nat} (I:aD X M6 σ H s) (h1:-(2 ^ 62)<=lo) (h2:lo < 2 ^ 62) (h3:-(2 ^ 62)<=hi) (h4:hi < 2 ^ 62)
  (q:R (Jj lo (hi - lo).toNat) H):wpAny (model X.prog X.w) X.A (pyIter (.ref s.heap.objs.size)) (KA X M6 σ tg R) E {s with heap:=s.heap.push {cls:=.type "range",data:=.fields #[.int lo t,.int hi u,.int 1 v]},toks:=tk}:=by
 refine wpAny_pyIter_range (IsRange.new ..) (small_one h1 h2 h3 h4) ?_;have I1:aD X M6 σ H {s with heap:=s.heap.push {cls:=.type "range",data:=.fields #[.int lo t,.int hi u,.int 1 v]},toks:=tk}:=I.kept λb o e=>Ly _ e
 refine⟨(s.heap.push {cls:=.type "range",data:=.fields #[.int lo t,.int hi u,.int 1 v]}).objs.size,[(s.heap.push {cls:=.type "range",data:=.fields #[.int lo t,.int hi u,.int 1 v]}).objs.size],_,_,H,rfl,
  I1.kept (t':=tk) λb o e=>Ly _ e,v7 _ lo (hi - lo).toNat,?_,λb hb=>?_,q⟩
 ·have e1:lo+((0:Nat):Int)*1=lo:=by simp
  have e2:(((hi - lo).toNat:Nat):Int) - ((0:Nat):Int)=Builtin.Range.rangeSize lo hi 1:=by rw [rangeSize_one]; split <;> omega
  show IsRangeIter _ _ (lo+((0:Nat):Int)*1) ((((hi - lo).toNat:Nat):Int) - ((0:Nat):Int)) 1
  rw [e1,e2];exact LA _ rfl
 ·have e:b=(s.heap.push {cls:=.type "range",data:=.fields #[.int lo t,.int hi u,.int 1 v]}).objs.size:=by simpa using hb
  subst e;exact I1.fpOk (LD _) (I1.hok.fresh (LD _))
def I9 (ta:TA):TI:=fun σ H R=>ta σ H λvs H1=>∃ j:Int,vs=[.int j]/\-(2 ^ 62)<=j/\j < 2 ^ 62/\R (Jj 0 j.toNat) H1
theorem nT {a:MT} {ta:TA} {p pos:Pos} (hg:Gl X "range") (hm:X.mg "range"=none) (ha:PA X [a] ta) (hs:starEach [a] X.env=[(false,eval a X.env)]:=by rfl):PI X tg (.Call (.Name "range" p) [a] [] pos) (I9 ta):=by
 intro M6 s σ H R I h;refine Call_ (lB I hg hm boot_range (PyProof.Rows.callWith_type1 (cR (ha pos M6 s σ H _ I h) λus s1 ⟨vs,H1,I1,r1,q1⟩=>?_) hs rfl))
 obtain⟨j,e,q1,q2,q⟩:=q1;subst e;cases r1 with
 | cons r rr=>
  cases rr;obtain⟨t,rfl⟩:=r;exact call_range_1 (Be I1 (by omega) (by omega) q1 q2 (by simpa using q))
def J5 (wi:TI) (g:TG) (tb:TS):TS:=λD σ H=>wi σ H λJ H1=>∃ W:Nat->Nat->St->Hp->Prop,(∃ m,W 0 m σ H1)/\∀ i m σ H,W i m σ H->
 (J.stop i H/\D.nx σ H)\/(J.go i H/\∃ N:St->Hp->Prop,(∀ σ' H',N σ' H'->∃ m',m' < m/\W (i+1) m' σ' H')/\∀ x H',J.yld i H x H'->g x σ H' fun σ2 H2=>tb {D with nx:=N,ct:=N,bk:=D.nx} σ2 H2)
def r_ (fp:List MR) (h:MX):List (MR×M5):=fp.filterMap λb=>(h.get? b).map λo=>(b,o)
theorem jL {fp:List MR} {h:MX} {b:MR} {o:M5} (hb:b∈fp) (e:h.get? b=some o):(b,o)∈r_ fp h:=List.mem_filterMap.mpr ⟨b,hb,by rw [e]; rfl⟩
theorem yw {fp:List MR} {h:MX} {p:MR×M5} (hp:p∈r_ fp h):p.1∈fp/\h.get? p.1=some p.2:=by
 obtain⟨b,hb,e⟩:=List.mem_filterMap.mp hp;cases q:h.get? b with
 | none=>rw [q] at e; cases e
 | some o=>
  rw [q] at e;have e':(b,o)=p:=Ma e;subst e';exact⟨hb,q⟩
theorem aD.pinned {M6:List (MR×M5)} {σ:St} {H:Hp} {s:MP} {fp:List MR} (I:aD X M6 σ H s) (hf:∀ b∈fp,kS X M6 H b) (ho:∀ b∈fp,∃ o,s.heap.get? b=some o/\∀ v,o.data≠.cell v):aD X (M6++r_ fp s.heap) σ H s:=
 I.pins_of λp hp=>(List.mem_append.mp hp).elim (λz=>I.pin p (LO _ z)) λz=>by
  obtain⟨hb,e⟩:=yw z;obtain⟨f0,f1,f2,_⟩:=hf p.1 hb;obtain⟨o,e',d⟩:=ho p.1 hb;rw [e] at e'; cases e'
  exact⟨e,f0,f1,f2,d⟩
theorem aD.unpinned {M6 pl:List (MR×M5)} {σ:St} {H:Hp} {s:MP} (I:aD X (M6++pl) σ H s):aD X M6 σ H s:=I.pins_of λp hp=>I.pin p (LO _ (List.mem_append_left _ hp))
theorem sD {iter:MT} {body:List MY} {wi:TI} {g:TG} {tb:TS} {pos:Pos} (hp:PassesOwn (model X.prog X.w) X.A X.env X.xe) (hc:X.calm=true) (hi:PI X tg iter wi) (hg:PG X tg g) (hb:q9 X body tb)
  (hs:∀ x,foldedSetIterable iter X.env x=pure x:=by intro _; rfl):PS X (.For tg iter body [] pos) (J5 wi g tb):=by
 intro M6 s σ H D I h;refine wpAny_For (cR (hi M6 s σ H _ I h) λv s1 h1=>cR h1 λitv s2 h2=>?_) hs
 obtain⟨it,fp,tn,J,H2,e,I2,T,st2,f2,W,⟨m0,w0⟩,turn⟩:=h2;subst e;have stat:∀ {H':Hp},(∀ b∈fp,H' b=none)->∀ b∈fp,kS X M6 H' b:=λhn b hb=>⟨hn b hb,(f2 b hb).2⟩
 refine codeAny_forLoop_any (λn s'=>∃ i σ' H',aD X M6 σ' H' s'/\tn i s'.heap/\(∀ b∈fp,H' b=none)/\W i n σ' H') ?_ m0 ⟨0,σ,H2,I2,st2,λb hb=>(f2 b hb).1,w0⟩
 rintro n s3 ⟨i,σ3,H3,I3,st3,fr3,w3⟩;rcases turn i n σ3 H3 w3 with ⟨stop,qn⟩ | ⟨go,N,hN,step⟩
 ·refine wpAny_passesOwn hp (cR (T.done X rfl rfl rfl hc i M6 s3 σ3 H3 X.xe I3 (stat fr3) st3 stop) λr s4 z9=>?_)
  obtain⟨hr,I4⟩:=z9;subst hr;exact wpAny_execs_nil ⟨σ3,H3,I4,qn⟩
 ·refine wpAny_passesOwn hp (cR (T.item X rfl rfl rfl hc i M6 s3 σ3 H3 X.xe I3 (stat fr3) st3 go) λr s4 z9=>?_)
  obtain⟨u,hr,h4⟩:=z9;subst hr;refine wpAny_passesOwn hp (cR h4 λ_ s5 z9=>?_)
  obtain⟨x,H5,I5,r5,y5,st5,fr5⟩:=z9;have I5':=I5.pinned (stat fr5) (T.obj _ _ st5);refine wpAny_passesOwn hp (cR (hg _ s5 σ3 H5 x u _ I5' r5 (step x H5 y5)) λ_ s6 z9=>?_)
  obtain⟨σ6,H6,I6,q6⟩:=z9;refine wpAny_passesOwn hp (cR (hb _ s6 σ6 H6 _ I6 q6) λf s7 q7=>?_)
  have again:∀ {σ7:St} {H7:Hp},aD X (M6++r_ fp s5.heap) σ7 H7 s7->N σ7 H7->∃ m,m < n/\∃ i σ' H',aD X M6 σ' H' s7/\tn i s7.heap/\(∀ b∈fp,H' b=none)/\W i m σ' H':=λ{σ7 H7} I7 n7=>by
   obtain⟨m',hm,w7⟩:=hN σ7 H7 n7;refine⟨m',hm,i+1,σ7,H7,I7.unpinned,T.keep _ _ _ st5 λb hb o e=>(I7.pin (b,o) (LO _ (LO _ (jL hb e)))).1,λb hb=>?_,w7⟩
   obtain⟨o,e,d⟩:=T.obj _ _ st5 b hb;exact(I7.pin (b,o) (LO _ (LO _ (jL hb e)))).2.1
  cases f with
  | next=>obtain⟨σ7,H7,I7,n7⟩:=q7; exact again I7 n7
  | cont=>obtain⟨σ7,H7,I7,n7⟩:=q7; exact again I7 n7
  | brk=>obtain⟨σ7,H7,I7,q7⟩:=q7; exact⟨σ7,H7,I7.unpinned,q7⟩
  | ret v=>obtain⟨x7,σ7,H7,I7,r7,q7⟩:=q7; exact⟨x7,σ7,H7,I7.unpinned,r7,q7⟩
end
abbrev R2:=V->V->Hp->VK->Prop
def fQ (X:Cx) (f:MQ->MQ->Sem MQ) (r:R2):Prop:=
 ∀ (M6:List (MR×M5)) (s:MP) (σ:St) (H:Hp) (x y:V) (v u:MQ) (Q:VK),aD X M6 σ H s->aP x v->aP y u->r x y H Q->
  wpAny (model X.prog X.w) X.A (f v u) (EP X M6 σ Q) X.xe s
def Jm (X:Cx) (f:MQ->Sem MQ) (r:V->Hp->VK->Prop):Prop:=
 ∀ (M6:List (MR×M5)) (s:MP) (σ:St) (H:Hp) (x:V) (v:MQ) (Q:VK),aD X M6 σ H s->aP x v->r x H Q->
  wpAny (model X.prog X.w) X.A (f v) (EP X M6 σ Q) X.xe s
def bW (X:Cx) (f:MQ) (r:List V->Hp->VK->Prop):Prop:=
 ∀ (M6:List (MR×M5)) (s:MP) (σ:St) (H:Hp) (xs:List V) (us:List MQ) (Q:VK),aD X M6 σ H s->aV xs us->r xs H Q->
  wpAny (model X.prog X.w) X.A (call f us) (EP X M6 σ Q) X.xe s
def HK (r:R2) (ta tb:TE):TE:=fun σ H Q=>ta σ H λx H1=>tb σ H1 λy H2=>r x y H2 Q
def Lb (r:V->Hp->VK->Prop) (ta:TE):TE:=fun σ H Q=>ta σ H λx H1=>r x H1 Q
def rI (C:Int->Int->Prop) (g:Int->Int->V):R2:=λx y H Q=>∃ i j,x=.int i/\y=.int j/\C i j/\Q (g i j) H
def Ex (g:Int->Int->V):R2:=λx y H Q=>∃ i j,x=.int i/\y=.int j/\Q (g i j) H
def rU (g:Int->V):V->Hp->VK->Prop:=λx H Q=>∃ i,x=.int i/\Q (g i) H
section
variable {X:Cx} {a b c:MT} {ta tb tc:TE} {pos:Pos}
theorem Gg (ha:PE X a ta) (hb:PE X b tb) {M6:List (MR×M5)} {s:MP} {σ:St} {H:Hp} {R:V->V->Hp->Prop} (I:aD X M6 σ H s)
  (h:ta σ H λx H1=>tb σ H1 λy H2=>R x y H2) {Q:MQ->MP->Prop} {f:MQ->MQ->Sem MQ}
  (hf:∀ v u s2 x y H2,aD X M6 σ H2 s2->aP x v->aP y u->R x y H2->wpAny (model X.prog X.w) X.A (f v u) Q X.xe s2):
  wpAny (model X.prog X.w) X.A (eval a X.env) (λv s₁=>wpAny (model X.prog X.w) X.A (eval b X.env) (λu s₂=>wpAny (model X.prog X.w) X.A (f v u) Q X.xe s₂) X.xe s₁) X.xe s:=by
 refine cR (ha M6 s σ H _ I h) λv s1 z9=>?_
 obtain⟨x,H1,I1,r1,q1⟩:=z9;refine cR (hb M6 s1 σ H1 _ I1 q1) λu s2 z9=>?_
 obtain⟨y,H2,I2,r2,q2⟩:=z9;exact hf v u s2 x y H2 I2 r1 r2 q2
theorem Jz {op:Operator} {r:R2} (ho:fQ X (binaryOp op) r) (ha:PE X a ta) (hb:PE X b tb):PE X (.BinOp a op b pos) (HK r ta tb):=by
 intro M6 s σ H Q I h;exact wpAny_BinOp (Gg ha hb I h λv u s2 x y H2 I2 rx ry q=>ho M6 s2 σ H2 x y v u Q I2 rx ry q)
theorem Iw {op:UnaryOp} {r:V->Hp->VK->Prop} (ho:Jm X (unaryOp op) r) (ha:PE X a ta):PE X (.UnaryOp op a pos) (Lb r ta):=by
 intro M6 s σ H Q I h;exact UnaryOp_ (cR (ha M6 s σ H _ I h) λv s1 z9=>by obtain⟨x,H1,I1,r1,q1⟩:=z9; exact ho M6 s1 σ H1 x v Q I1 r1 q1)
theorem JC {f:MQ->MQ->Sem MQ} {C:Int->Int->Prop} {g:Int->Int->Int}
  (rule:∀ (i j:Int) (t u:Tok) (s:MP) (Q:MQ->MP->Prop) (E:MQ->MP->Prop),C i j->Q (.int (g i j) s.toks) {s with toks:=s.toks+1}->wpAny (model X.prog X.w) X.A (f (.int i t) (.int j u)) Q E s):
  fQ X f (rI C λi j=>.int (g i j)):=by
 intro M6 s σ H x y v u Q I rx ry h;obtain⟨i,j,rfl,rfl,hc,q⟩:=h;obtain⟨t,rfl⟩:=rx;obtain⟨t',rfl⟩:=ry;exact rule i j t t' s _ _ hc ⟨.int (g i j),H,I.tok _,⟨_,rfl⟩,q⟩
theorem HC {f:MQ->MQ->Sem MQ} {g:Int->Int->Int}
  (rule:∀ (i j:Int) (t u:Tok) (s:MP) (Q:MQ->MP->Prop) (E:MQ->MP->Prop),Q (.int (g i j) s.toks) {s with toks:=s.toks+1}->wpAny (model X.prog X.w) X.A (f (.int i t) (.int j u)) Q E s):
  fQ X f (Ex λi j=>.int (g i j)):=by
 intro M6 s σ H x y v u Q I rx ry h;obtain⟨i,j,rfl,rfl,q⟩:=h;obtain⟨t,rfl⟩:=rx;obtain⟨t',rfl⟩:=ry;exact rule i j t t' s _ _ ⟨.int (g i j),H,I.tok _,⟨_,rfl⟩,q⟩
theorem FC {f:MQ->MQ->Sem MQ} {g:Int->Int->M1}
  (rule:∀ (i j:Int) (t u:Tok) (s:MP) (Q:MQ->MP->Prop) (E:MQ->MP->Prop),Q (.bool (g i j)) s->wpAny (model X.prog X.w) X.A (f (.int i t) (.int j u)) Q E s):
  fQ X f (Ex λi j=>.bl (g i j)):=by
 intro M6 s σ H x y v u Q I rx ry h;obtain⟨i,j,rfl,rfl,q⟩:=h;obtain⟨t,rfl⟩:=rx;obtain⟨t',rfl⟩:=ry;exact rule i j t t' s _ _ ⟨.bl (g i j),H,I,rfl,q⟩
def G8 (i j:Int):Prop:=0<=j/\j<=1000000/\i.natAbs < 2 ^ 64
theorem Fm:fQ X (binaryOp .Add) (Ex λi j=>.int (i+j)):=HC λ_ _ _ _ _ _ _ q=>add_int q
theorem Gq:fQ X (binaryOp .Sub) (Ex λi j=>.int (i - j)):=HC λ_ _ _ _ _ _ _ q=>sub_int q
theorem Dh:fQ X (binaryOp .Mod) (rI (λ_ j=>j≠0) λi j=>.int (i.fmod j)):=JC λ_ _ _ _ _ _ _ hc q=>mod_int' hc q
theorem Fy:fQ X (binaryOp .Pow) (rI G8 λi j=>.int (i ^ j.toNat)):=JC λ_ _ _ _ _ _ _ hc q=>pow_int_small hc.1 hc.2.1 hc.2.2 q
theorem KY {f:MQ->Sem MQ} {g:Int->Int}
  (rule:∀ (i:Int) (t:Tok) (s:MP) (Q:MQ->MP->Prop) (E:MQ->MP->Prop),Q (.int (g i) s.toks) {s with toks:=s.toks+1}->wpAny (model X.prog X.w) X.A (f (.int i t)) Q E s):
  Jm X f (rU λi=>.int (g i)):=by
 intro M6 s σ H x v Q I rx h;obtain⟨i,rfl,q⟩:=h;obtain⟨t,rfl⟩:=rx;exact rule i t s _ _ ⟨.int (g i),H,I.tok _,⟨_,rfl⟩,q⟩
theorem Fu:Jm X (unaryOp .USub) (rU λi=>.int (-i)):=KY λ_ _ _ _ _ q=>neg_int q
end
def Fx:V->V->M1
 | .non,.non=>true | .non,.int _=>true | .int _,.non=>true | .non,.bl _=>true | .bl _,.non=>true | .non,.str _=>true | .str _,.non=>true
 | .int _,.int _=>true | .bl _,.bl _=>true | .str _,.str _=>true | .byt _,.byt _=>true
 | .int _,.str _=>true | .str _,.int _=>true | .bl _,.str _=>true | .str _,.bl _=>true
 | _,_=>false
def Lg:R2:=λx y H Q=>Fx x y=true/\Q (.bl (decide (x=y))) H
def KS:R2:=λx y H Q=>Fx x y=true/\Q (.bl (!decide (x=y))) H
theorem xt {i j:Int}:decide (V.int i=V.int j)=(i == j):=by
 rw [Bool.eq_iff_iff];simp
theorem Ce {i j:M1}:decide (V.bl i=V.bl j)=(i == j):=by
 rw [Bool.eq_iff_iff];simp
theorem xC {i j:Str}:decide (V.str i=V.str j)=(i == j):=by
 rw [Bool.eq_iff_iff];simp
theorem xz {i j:MZ UInt8}:decide (V.byt i=V.byt j)=(i.toList == j.toList):=by
 rw [Bool.eq_iff_iff];cases i;cases j;simp
section
variable {X:Cx} {a b c:MT} {ta tb tc:TE} {pos:Pos}
theorem bh {M6:List (MR×M5)} {σ:St} {H:Hp} {s:MP} {Q:VK} {k k':M1} (I:aD X M6 σ H s) (q:Q (.bl k) H) (e:k=k'):EP X M6 σ Q (.bool k') s:=by
 subst e;exact⟨.bl k,H,I,rfl,q⟩
theorem Jd:fQ X (compareOp .Eq) Lg:=by
 intro M6 s σ H x y v u Q I rx ry h;obtain⟨hs,q⟩:=h;cases x with
 | non=>
  cases rx;cases y with
  | non=>cases ry; exact PySem.EqNone.eq_none_none (bh I q (by simp))
  | bl j=>cases ry; exact PySem.EqNone.eq_none_bool (bh I q (by simp))
  | int j=>obtain⟨t',rfl⟩:=ry; exact PySem.EqNone.eq_none_int (bh I q (by simp))
  | str j=>obtain⟨t',rfl⟩:=ry; exact PySem.EqNone.eq_none_str (bh I q (by simp))
  | _=>exact absurd (show false=true from hs) LH
 | bl i=>
  cases rx;cases y with
  | non=>cases ry; exact PySem.EqNone.eq_bool_none (bh I q (by simp))
  | bl j=>cases ry; exact eq_bool (bh I q Ce)
  | str j=>obtain⟨t',rfl⟩:=ry; exact PySem.EqMixed.eq_bool_str (bh I q (by simp))
  | _=>exact absurd (show false=true from hs) LH
 | int i=>
  obtain⟨t,rfl⟩:=rx;cases y with
  | non=>cases ry; exact PySem.EqNone.eq_int_none (bh I q (by simp))
  | int j=>obtain⟨t',rfl⟩:=ry; exact eq_int (bh I q xt)
  | str j=>obtain⟨t',rfl⟩:=ry; exact PySem.EqMixed.eq_int_str (bh I q (by simp))
  | _=>exact absurd (show false=true from hs) LH
 | str i=>
  obtain⟨t,rfl⟩:=rx;cases y with
  | non=>cases ry; exact PySem.EqNone.eq_str_none (bh I q (by simp))
  | bl j=>cases ry; exact PySem.EqMixed.eq_str_bool (bh I q (by simp))
  | int j=>obtain⟨t',rfl⟩:=ry; exact PySem.EqMixed.eq_str_int (bh I q (by simp))
  | str j=>obtain⟨t',rfl⟩:=ry; exact eq_str (bh I q xC)
  | _=>exact absurd (show false=true from hs) LH
 | byt i=>
  obtain⟨t,rfl⟩:=rx;cases y with
  | byt j=>obtain⟨t',rfl⟩:=ry; exact PySem.W.eq_bytes (bh I q xz)
  | _=>exact absurd (show false=true from hs) LH
 | _=>cases y <;> exact absurd (show false=true from hs) LH
theorem HJ:fQ X (compareOp .NotEq) KS:=by
 intro M6 s σ H x y v u Q I rx ry h;obtain⟨hs,q⟩:=h;cases x with
 | non=>
  cases rx;cases y with
  | non=>cases ry; exact PySem.EqNone.ne_none_none (bh I q (by simp))
  | bl j=>cases ry; exact PySem.EqNone.ne_none_bool (bh I q (by simp))
  | int j=>obtain⟨t',rfl⟩:=ry; exact PySem.EqNone.ne_none_int (bh I q (by simp))
  | str j=>obtain⟨t',rfl⟩:=ry; exact PySem.EqNone.ne_none_str (bh I q (by simp))
  | _=>exact absurd (show false=true from hs) LH
 | bl i=>
  cases rx;cases y with
  | non=>cases ry; exact PySem.EqNone.ne_bool_none (bh I q (by simp))
  | bl j=>cases ry; exact ne_bool (bh I q (congrArg not Ce))
  | str j=>obtain⟨t',rfl⟩:=ry; exact PySem.EqMixed.ne_bool_str (bh I q (by simp))
  | _=>exact absurd (show false=true from hs) LH
 | int i=>
  obtain⟨t,rfl⟩:=rx;cases y with
  | non=>cases ry; exact PySem.EqNone.ne_int_none (bh I q (by simp))
  | int j=>obtain⟨t',rfl⟩:=ry; exact ne_int (bh I q (congrArg not xt))
  | str j=>obtain⟨t',rfl⟩:=ry; exact PySem.EqMixed.ne_int_str (bh I q (by simp))
  | _=>exact absurd (show false=true from hs) LH
 | str i=>
  obtain⟨t,rfl⟩:=rx;cases y with
  | non=>cases ry; exact PySem.EqNone.ne_str_none (bh I q (by simp))
  | bl j=>cases ry; exact PySem.EqMixed.ne_str_bool (bh I q (by simp))
  | int j=>obtain⟨t',rfl⟩:=ry; exact PySem.EqMixed.ne_str_int (bh I q (by simp))
  | str j=>obtain⟨t',rfl⟩:=ry; exact ne_str (bh I q (congrArg not xC))
  | _=>exact absurd (show false=true from hs) LH
 | byt i=>
  obtain⟨t,rfl⟩:=rx;cases y with
  | byt j=>obtain⟨t',rfl⟩:=ry; exact PySem.W.ne_bytes (bh I q (congrArg not xz))
  | _=>exact absurd (show false=true from hs) LH
 | _=>cases y <;> exact absurd (show false=true from hs) LH
theorem HZ:fQ X (compareOp .Lt) (Ex λi j=>.bl (decide (i < j))):=FC λ_ _ _ _ _ _ _ q=>lt_int q
theorem IG:fQ X (compareOp .Gt) (Ex λi j=>.bl (decide (j < i))):=FC λ_ _ _ _ _ _ _ q=>gt_int q
theorem Ii:fQ X (compareOp .GtE) (Ex λi j=>.bl (decide (j<=i))):=FC λ_ _ _ _ _ _ _ q=>ge_int q
theorem Gy:fQ X (compareOp .Is) (λx y H Q=>y=.non/\Q (.bl (decide (x=.non))) H):=by
 intro M6 s σ H x y v u Q I rx ry h;obtain⟨rfl,q⟩:=h;cases ry;refine is_none_gen (bh I q ?_);cases x <;> first
  | (cases rx; rfl)
  | (obtain ⟨t,rfl⟩:=rx; rfl)
theorem CY:fQ X (compareOp .IsNot) (λx y H Q=>y=.non/\Q (.bl (!decide (x=.non))) H):=by
 intro M6 s σ H x y v u Q I rx ry h;obtain⟨rfl,q⟩:=h;cases ry;refine isnot_none_gen (bh I q ?_);cases x <;> first
  | (cases rx; rfl)
  | (obtain ⟨t,rfl⟩:=rx; rfl)
theorem aA (b:MT) {op:CmpOp} (h:op≠.In:=by decide) (h2:op≠.NotIn:=by decide):behindInMarks op b=false:=by
 have e1:(op == CmpOp.In)=false:=by cases op <;> first | rfl | exact absurd rfl h
 have e2:(op == CmpOp.NotIn)=false:=by cases op <;> first | rfl | exact absurd rfl h2
 cases b <;> simp [behindInMarks,e1,e2]
theorem DD {op:CmpOp} {r:R2} (ho:fQ X (compareOp op) r) (ha:PE X a ta) (hb:PE X b tb) (hm:behindInMarks op b=false):PE X (.Compare a [op] [b] pos) (HK r ta tb):=by
 intro M6 s σ H Q I h;exact wpAny_Compare1 (Gg ha hb I h λv u s2 x y H2 I2 rx ry q=>ho M6 s2 σ H2 x y v u Q I2 rx ry q) hm
def Ea (t:TE):TT:=fun σ H Q=>t σ H λx H'=>∃ k,x=.bl k/\Q k H'
theorem Dx {op:CmpOp} {r:R2} (ho:fQ X (compareOp op) r) (ha:PE X a ta) (hb:PE X b tb) (hm:behindInMarks op b=false):PT X (.Compare a [op] [b] pos) (Ea (HK r ta tb)):=by
 intro M6 s σ H Q I h;refine wpAny_isTrue_Compare1 (cR (ha M6 s σ H _ I h) λv s1 ⟨x,H1,I1,r1,q1⟩=>cR (hb M6 s1 σ H1 _ I1 q1) λu s2 ⟨y,H2,I2,r2,q2⟩=>
  cR (ho M6 s2 σ H2 x y v u _ I2 r1 r2 q2) λc s3 ⟨z,H3,I3,r3,k,e,q3⟩=>?_) hm
 subst e;cases r3;exact wpAny_truthy_bool ⟨H3,I3,q3⟩
theorem sT:(sizeLine:Nat) < 2 ^ 63:=by rw [sizeLine_eq]; decide
theorem vL:fQ X (binaryOp .Add) (λx y H Q=>∃ i j,x=.str i/\y=.str j/\i.length+j.length<=sizeLine/\Q (.str (i++j)) H):=by
 intro M6 s σ H x y v u Q I rx ry h;obtain⟨i,j,rfl,rfl,hz,q⟩:=h;obtain⟨t,rfl⟩:=rx;obtain⟨t',rfl⟩:=ry;exact add_str (λt' tk=>⟨.str (i++j),H,I.tok _,⟨_,rfl⟩,q⟩) hz
theorem gQ {x:V} {us:List MQ} (r:aV [x] us):∃ u,us=[u]/\aP x u:=by
 cases r with
 | cons r1 r2=>cases r2; exact⟨_,rfl,r1⟩
theorem uO {x y:V} {us:List MQ} (r:aV [x,y] us):∃ u w',us=[u,w']/\aP x u/\aP y w':=by
 cases r with
 | cons r1 r2=>
  cases r2 with
  | cons r3 r4=>cases r4; exact⟨_,_,rfl,r1,r3⟩
theorem BD:bW X (.builtin "abs") (λxs H Q=>∃ i,xs=[.int i]/\Q (.int (if i < 0 then -i else i)) H):=by
 intro M6 s σ H xs us Q I r h;obtain⟨i,rfl,q⟩:=h;obtain⟨u,rfl,t,rfl⟩:=gQ r;exact call_abs_int λu tk=>⟨.int (if i < 0 then -i else i),H,I.tok _,⟨_,rfl⟩,q⟩
theorem ym (hc:X.calm=true):bW X (.builtin "max") (λxs H Q=>∃ i j,xs=[.int i,.int j]/\Q (.int (if j > i then j else i)) H):=by
 intro M6 s σ H xs us Q I r h;obtain⟨i,j,rfl,q⟩:=h;obtain⟨u,w',rfl,⟨t,rfl⟩,⟨t',rfl⟩⟩:=uO r;refine max_two_ints (I.ok.hd hc) λh' tk k=>⟨_,H,I.kept k,?_,q⟩
 by_cases hj:j > i
 ·rw [if_pos hj,if_pos hj]; exact⟨_,rfl⟩
 ·rw [if_neg hj,if_neg hj]; exact⟨_,rfl⟩
theorem yo (hc:X.calm=true):bW X (.builtin "min") (λxs H Q=>∃ i j,xs=[.int i,.int j]/\Q (.int (if j < i then j else i)) H):=by
 intro M6 s σ H xs us Q I r h;obtain⟨i,j,rfl,q⟩:=h;obtain⟨u,w',rfl,⟨t,rfl⟩,⟨t',rfl⟩⟩:=uO r;refine min_two_ints (I.ok.hd hc) λh' tk k=>⟨_,H,I.kept k,?_,q⟩
 by_cases hj:j < i
 ·rw [if_pos hj,if_pos hj]; exact⟨_,rfl⟩
 ·rw [if_neg hj,if_neg hj]; exact⟨_,rfl⟩
theorem rR:bW X (.type "int") (λxs H Q=>(∃ i,xs=[.int i]/\Q (.int i) H)\/∃ k,xs=[.bl k]/\Q (.int (if k then 1 else 0)) H):=by
 intro M6 s σ H xs us Q I r h;rcases h with ⟨i,rfl,q⟩ | ⟨k,rfl,q⟩
 ·obtain⟨u,rfl,t,rfl⟩:=gQ r;exact call_int_int ⟨.int i,H,I,⟨_,rfl⟩,q⟩
 ·obtain⟨u,rfl,r1⟩:=gQ r;cases r1;exact call_int_bool ⟨.int (if k then 1 else 0),H,I.tok _,⟨_,rfl⟩,q⟩
end
structure cI (k:Nat) (A:MV):Prop where
 hd:A.handled=none
 dp:A.depth+3*k+5 < recursionLimit
 un:A.units+16*k+200 < cLine
theorem cI.mono {j k:Nat} {A:MV} (r:cI k A) (h:j<=k:=by first|decide|omega):cI j A:=⟨r.hd,by have:=r.dp; omega,by have:=r.un; omega⟩
theorem cI.deeper {k:Nat} {A:MV} (r:cI (k+1) A) (env:Env):cI k (A.deeper env):=
 ⟨r.hd,by have:=r.dp; show A.depth+1+3*k+5 < _; omega,by have:=r.un; show A.units+3+16*k+200 < _; omega⟩
theorem cI.depth {k:Nat} {A:MV} (r:cI k A):A.depth < recursionLimit:=by have:=r.dp; omega
theorem cI.units {k:Nat} {A:MV} (r:cI k A):A.units+64 < cLine:=by have:=r.un; omega
def J3:TA:=λ_ H Q=>Q [] H
def Im (ta:TE) (tr:TA):TA:=fun σ H Q=>ta σ H λx H1=>tr σ H1 λxs H2=>Q (x::xs) H2
section
variable {X:Cx} {e:MT} {es:List MT} {te:TE} {t:TA} {pos:Pos}
theorem pO:PA X [] J3:=λ_ _ _ _ H Q I h=>Calls.spliced_nil ⟨[],H,I,.nil,h⟩
theorem mO (ha:PE X e te) (hr:PA X es t) (hs:starEach (e::es) X.env=(false,eval e X.env)::starEach es X.env:=by rfl):PA X (e::es) (Im te t):=by
 intro pos M6 s σ H Q I h;rw [hs]
 show wpAny _ _ (spliced ((false,eval e X.env)::backTo pos (starEach es X.env))) _ _ s
 refine Calls.spliced_cons (cR (ha M6 s σ H _ I h) λu s1 z9=>?_)
 obtain⟨x,H1,I1,r1,q1⟩:=z9;exact cR (hr pos M6 s1 σ H1 _ I1 q1) λus s2 z9=>by obtain⟨xs,H2,I2,r2,q2⟩:=z9; exact⟨x::xs,H2,I2,.cons r1 r2,q2⟩
def JW (t:TA):TE:=fun σ H Q=>t σ H λxs H1=>xs.length<=sizeLine/\∀ p,H1 p=none->Q (.ref p) (cF H1 p (.tup xs))
def Ko (t:TA):TE:=fun σ H Q=>t σ H λxs H1=>xs.length<=sizeLine/\∀ p,H1 p=none->Q (.ref p) (cF H1 p (.lst xs))
theorem GO {x1} (h:PA X es t):PE X (.Tuple es x1 pos) (JW t):=by
 intro M6 s σ H Q I hq;refine wpAny_Tuple_spliced (cR (h pos M6 s σ H _ I hq) λus s1 ⟨xs,H1,I1,r,z,q⟩=>⟨by rw [<- r.length]; exact z,?_⟩)
 have hf:H1 s1.heap.objs.size=none:=I1.hok.fresh (LD _);refine⟨.ref s1.heap.objs.size,cF H1 s1.heap.objs.size (.tup xs),I1.laid (t':=s1.toks) (λb u e=>Ly _ e) (LD _) ?_,rfl,q _ hf⟩
 exact⟨z,us,r,⟨_,LA _ rfl,rfl,_,rfl⟩⟩
theorem Gd (h:PA X es t):PE X (.List es pos) (Ko t):=by
 intro M6 s σ H Q I hq;refine wpAny_List_spliced (cR (h pos M6 s σ H _ I hq) λus s1 ⟨xs,H1,I1,r,z,q⟩=>⟨by rw [<- r.length]; exact z,?_⟩)
 have hf:H1 s1.heap.objs.size=none:=I1.hok.fresh (LD _);refine⟨.ref s1.heap.objs.size,cF H1 s1.heap.objs.size (.lst xs),I1.laid (t':=s1.toks) (λb u e=>Ly _ e) (LD _) ?_,rfl,q _ hf⟩
 exact⟨z,us,0,r,LA _ rfl⟩
end
abbrev Sp:=List V->Hp->VK->XK->Prop
abbrev Cm:=List Env->Hp->MP->XK->MQ->MP->Prop
structure CV (P:MU) (w:MW) (K:PySem.W.Frag) (mg:Str->MS MQ) (base:MX) (A:MV) (outer:List Env) (s:MP) (H:Hp):Prop where
 frames:A.frames=some outer
 mod:Mod K mg base
 bs:∀ b o,base.get? b=some o->s.heap.get? b=some o/\H b=none
 bsz:base.objs.size<=s.heap.objs.size
 funs:s.heap.FunFrames base outer
 frf:∀ b∈rj outer,H b=none
 hok:n9 P w H s.heap
 bare:AllBare s.gens
def CE (outer:List Env) (P:MU) (w:MW) (H:Hp) (s:MP) (Q:VK) (u:MQ) (s':MP):Prop:=
 ∃ v H',s'.os=s.os/\AllBare s'.gens/\Un (rj outer) [] H H' s.heap s'.heap/\n9 P w H' s'.heap/\aP v u/\Q v H'
def CR (CX:Cm) (outer:List Env) (P:MU) (w:MW) (H:Hp) (s:MP) (Q:VK) (E:XK) (r:Result) (s':MP):Prop:=
 match r with
 | .ok (.ret u)=>CE outer P w H s Q u s'
 | .ok _=>False
 | .error e=>CX outer H s E e s'
structure aT (P:MU) (w:MW) (K:PySem.W.Frag) (mg:Str->MS MQ) (base:MX) (CX:Cm) (k:Nat) (f:MR) (fd:FuncData) (ps:List Str) (sp:Sp):Prop where
 len:∀ vs H Q E,sp vs H Q E->vs.length=ps.length
 run:∀ (A:MV) (outer:List Env) (s:MP) (H:Hp) (args:Args) (us:List MQ) (vs:List V) (Q:VK) (E:XK),cI k A->CV P w K mg base A outer s H->BindsTo s fd args (ps.zip us)->aV vs us->sp vs H Q E->
  codeAny (model P w) A (.call (.ref f) args) (CR CX outer P w H s Q E) s
section
variable {X:Cx} {M6:List (MR×M5)} {σ:St} {H:Hp} {s s':MP}
theorem aD.env0 (I:aD X M6 σ H s):CV X.prog X.w X.K X.mg X.base X.A X.stack s H:=
 ⟨I.ok.frames,I.ok.mod,I.bs,Mi I.ok.bsz I.sz,I.stack,I.stkFree,I.hok,I.bare⟩
theorem aD.after {Q:VK} {u:MQ} (I:aD X M6 σ H s) (h:CE X.stack X.prog X.w H s Q u s'):EP X M6 σ Q u s':=by
 obtain⟨v,H',os,bare,un,hok,r,q⟩:=h;obtain⟨hh,g,d,t,os'⟩:=s';obtain rfl:os'=s.os:=os;exact⟨v,H',I.call (h':=hh) (g':=g) (d':=d) (t':=t) (ch:=[]) un hok bare (λb z=>absurd z (by simp)),r,q⟩
end
def IM (sp:Sp) (dvs:List V) (E:XK) (t:TA):TE:=fun σ H Q=>t σ H λvs H1=>sp (vs++dvs) H1 Q E
def pI (K:PySem.W.Frag) (fd:FuncData) (ps:List Str) (ds:List MQ):Prop:=
 ∀ (s:MP) (us:List MQ),K.In s.heap->(us++ds).length=ps.length->BindsTo s fd ⟨us,[]⟩ (ps.zip (us++ds))
theorem pI.all {K:PySem.W.Frag} {fd:FuncData} {ps:List Str} (h:∀ us:List MQ,us.length=ps.length->bindArgs fd ⟨us,[]⟩=pure (ps.zip us)):pI K fd ps []:=λs us _ hl=>by
 rw [L0] at hl ⊢;exact .of_eq (h us hl)
def wx (CX:Cm) (X:Cx) (E:XK):Prop:=∀ (M6:List (MR×M5)) (σ:St) (H:Hp) (s:MP) (e:MQ) (s':MP),aD X M6 σ H s->CX X.stack H s E e s'->X.xe e s'
section
variable {X:Cx} {CX:Cm} {k:Nat} {f C:MR} {fd:FuncData} {ps:List Str} {sp:Sp} {dvs:List V} {ds:List MQ} {E:XK} {x m:Str} {p pos apos:Pos} {e o:MT} {es:List MT} {ta:TE} {t:TA}
theorem GF {M6:List (MR×M5)} {σ:St} {H:Hp} {s:MP} {Q:VK} {us:List MQ} {vs:List V} (F:aT X.prog X.w X.K X.mg X.base CX k f fd ps sp) (hr:cI k X.A) (hb:pI X.K fd ps ds) (hd:aV dvs ds) (hx:wx CX X E)
  (I:aD X M6 σ H s) (r:aV vs us) (h:sp (vs++dvs) H Q E):wpAny (model X.prog X.w) X.A (call (.ref f) us) (EP X M6 σ Q) X.xe s:=by
 have r2:aV (vs++dvs) (us++ds):=r.append hd;have hl:(us++ds).length=ps.length:=by rw [<- r2.length]; exact F.len _ _ _ _ h
 refine wpAny_call (codeAny_mono (F.run X.A X.stack s H ⟨us,[]⟩ (us++ds) (vs++dvs) Q E hr I.env0 (hb s us I.kIn hl) r2 h) λr s' hq=>?_)
 cases r with
 | error e=>exact hx M6 σ H s e s' I hq
 | ok fl=>
  cases fl with
  | ret u=>exact I.after hq
  | next=>exact False.elim hq
  | brk=>exact False.elim hq
  | cont=>exact False.elim hq
theorem Ds (F:aT X.prog X.w X.K X.mg X.base CX k f fd ps sp) (hr:cI k X.A) (hg:Gl X x) (hm:X.mg x=some (.ref f)) (hk:PySem.W.keepIn X.K (.ref f)=true) (hb:pI X.K fd ps ds) (hd:aV dvs ds) (hx:wx CX X E)
  (ha:PA X (e::es) t) (hdb:(x == ("__debug__":Str))=false:=by decide) (he:starEach (e::es) X.env=(false,eval e X.env)::starEach es X.env:=by rfl) (hpl:(backTo pos (starEach es X.env)).any (·.1)=false:=by rfl):
  PE X (.Call (.Name x p) (e::es) [] pos) (IM sp dvs E t):=by
 intro M6 s σ H Q I h;refine wpAny_Call_Name_kw (xR I hg hm ?_ hdb);refine PySem.W.callWith_K (h₀:=X.base) I.ok.mod.kin hk (cR (ha pos M6 s σ H _ I h) λus s1 ⟨vs,H1,I1,r,q⟩=>⟨I1.kIn,?_⟩) he hpl
 exact GF F hr hb hd hx I1 r q
end
structure au (N P:List Str) (sc:Scope):Prop where
 kind:sc.kind=.function
 co:sc.isCoroutine=false
 gen:sc.isGenerator=false
 nd:N.Nodup
 pre:N.take P.length=P
 par:∀ x∈P,sc.names.lookup x=some .local\/sc.names.lookup x=some .cell
 nofree:∀ y∈sc.names,y.2≠.free
theorem dX {N P:List Str} {sc:Scope} (a:sc.kind=.function:=by rfl) (b:sc.isCoroutine=false:=by rfl) (c:sc.isGenerator=false:=by rfl) (d:N.Nodup:=by decide +kernel) (e:N.take P.length=P:=by rfl) (f:∀ x∈P,sc.names.lookup x=some .local\/sc.names.lookup x=some .cell:=by decide +kernel) (g:∀ y∈sc.names,y.2≠.free:=by decide +kernel):au N P sc:=⟨a,b,c,d,e,f,g⟩
theorem re {kindOf:Str->MS NameKind} {x:Str}:∀ {binds:List (Str×MQ)} {m:Str->MS MQ},(∀ v,(x,v)∉binds)->bindL kindOf binds m x=m x
 | [],_,_=>rfl
 | (n,v)::r,m,h=>by
  unfold bindL;rw [re λw hw=>h w (LM _ hw)]
  split
  ·have:x≠n:=by rintro rfl; exact h v LL
   simp [this]
  ·rfl
theorem rB {kindOf:Str->MS NameKind} {x:Str}:∀ {binds:List (Str×MQ)} {m:Str->MS MQ},(∀ v,(x,v)∉binds)->bindC kindOf binds m x=m x
 | [],_,_=>rfl
 | (n,v)::r,m,h=>by
  unfold bindC;rw [rB λw hw=>h w (LM _ hw)]
  split
  ·rfl
  ·have:x≠n:=by rintro rfl; exact h v LL
   simp [this]
theorem rn {kindOf:Str->MS NameKind} {x:Str} {v:MQ}:∀ {P:List Str} {vs:List MQ} {i:Nat} {m:Str->MS MQ},P.Nodup->P[i]?=some x->vs[i]?=some v->kindOf x=some .local->
  bindL kindOf (P.zip vs) m x=some v
 | [],_,_,_,_,h,_,_=>by simp at h
 | _::_,[],_,_,_,_,h,_=>by simp at h
 | p::P,w::vs,0,m,nd,h1,h2,hk=>by
  simp at h1 h2; subst h1; subst h2
  show bindL kindOf ((p,w)::P.zip vs) m p=_
  unfold bindL;rw [re λv hv=>(Mn.mp nd).1 (List.of_mem_zip hv).1,if_pos hk]
  simp
 | p::P,w::vs,i+1,m,nd,h1,h2,hk=>by
  show bindL kindOf ((p,w)::P.zip vs) m x=_
  unfold bindL;exact rn (i:=i) (Mn.mp nd).2 (by simpa using h1) (by simpa using h2) hk
theorem q_ {kindOf:Str->MS NameKind} {x:Str} {v:MQ}:∀ {P:List Str} {vs:List MQ} {i:Nat} {m:Str->MS MQ},P.Nodup->P[i]?=some x->vs[i]?=some v->kindOf x≠some .local->
  bindC kindOf (P.zip vs) m x=some v
 | [],_,_,_,_,h,_,_=>by simp at h
 | _::_,[],_,_,_,_,h,_=>by simp at h
 | p::P,w::vs,0,m,nd,h1,h2,hk=>by
  simp at h1 h2; subst h1; subst h2
  show bindC kindOf ((p,w)::P.zip vs) m p=_
  unfold bindC;rw [rB λv hv=>(Mn.mp nd).1 (List.of_mem_zip hv).1,if_neg hk]
  simp
 | p::P,w::vs,i+1,m,nd,h1,h2,hk=>by
  show bindC kindOf ((p,w)::P.zip vs) m x=_
  unfold bindC;exact q_ (i:=i) (Mn.mp nd).2 (by simpa using h1) (by simpa using h2) hk
def start (N:List Str) (vs:List V):St:=vs.map some++List.replicate (N.length - vs.length) none
def u5 (CX:Cm) (P:MU) (w:MW) (K:PySem.W.Frag) (mg:Str->MS MQ) (base:MX) (N:List Str) (M7:Str) (scope:Scope) (f:MR) (cd:MQ) (A:MV) (outer:List Env) (s:MP) (H:Hp) (E:XK):Cx where
 prog:=P
 w:=w
 K:=K
 mg:=mg
 base:=base
 A:=A.deeper (envOfC M7 scope s.heap.objs.size f cd)
 N:=N
 s₀:=s
 H₀:=H
 env:=envOfC M7 scope s.heap.objs.size f cd
 outer:=outer
 stack:=envOfC M7 scope s.heap.objs.size f cd::outer
 ex:=[]
 calm:=true
 fn:=λ_=>true
 pn:=[]
 xe:=λe s'=>wpAny (model P w) (A.deeper (envOfC M7 scope s.heap.objs.size f cd)) (leaving (envOfC M7 scope s.heap.objs.size f cd) e) (λ_ s''=>CX outer H s E e s'') (λe' s''=>CX outer H s E e' s'') s'
theorem uP {sc:Scope} {n:Nat} {x:Str} (h:sc.names.lookup x=some .cell):∃ c,(cellsFrom n sc.names []).lookup x=some c:=by
 have q:=PySem.W.cellsFrom_some sc.names n [] (.inl h);exact ML.mp q
theorem yx {CX:Cm} {P:MU} {w:MW} {K:PySem.W.Frag} {mg:Str->MS MQ} {base:MX} {N ps:List Str} {M7:Str} {scope:Scope} {f:MR} {cd:MQ} {A:MV} {outer:List Env} {s s1:MP} {H:Hp} {E:XK} {us:List MQ} {vs:List V}
  (S:au N ps scope) (hd:A.handled=none) (e0:CV P w K mg base A outer s H) (hl:vs.length=ps.length) (r:aV vs us)
  (x:InCallC s s.heap.objs.size (bindL (envOfC M7 scope s.heap.objs.size f cd).kindOf (ps.zip us) λ_=>none) (cellsFrom (s.heap.objs.size+1) scope.names []) (bindC (envOfC M7 scope s.heap.objs.size f cd).kindOf (ps.zip us) λ_=>none) s1):
  aD (u5 CX P w K mg base N M7 scope f cd A outer s H E) [] (start N vs) H s1:=by
 have hpl:ps.length<=N.length:=by have:=congrArg List.length S.pre; rw [List.length_take] at this; omega
 obtain⟨h1,tk,rfl,hk⟩:=x.done;have noA:∀ b:MR,b∉(u5 CX P w K mg base N M7 scope f cd A outer s H E).ex:=λb z=>absurd (show b∈([]:List MR) from z) (by simp)
 refine⟨⟨e0.mod,S.kind,rfl,rfl,LD _,λy z c h1 h2=>?_,λy hy=>?_,λy c _ h=>?_,λ_=>hd,Around.frames_deeper e0.frames,.inr ⟨rfl,rfl⟩,λb z=>absurd z (noA b),e0.bs,e0.bsz,λb _ _=>noA b,λb z=>absurd z (noA b),e0.funs,e0.frf⟩,
  rfl,e0.bare,Un.kept hk,⟨_,x.toInCall.ns,λi y v h1 h2 h3=>?_⟩,λy c h=>⟨_,x.cell y c h⟩,e0.hok.fresh (LD _),λy c h=>?_,λp hp=>absurd (show p∈([]:List (MR×M5)) from hp) (by simp),e0.hok.kept hk,?_⟩
 ·exact name_of_addr x.apart (Ml h1) (Ml h2)
 ·have hy:scope.names.lookup y=some .cell\/scope.names.lookup y=some .free:=hy;rcases hy with hy | hy
  ·exact uP hy
  ·exact absurd rfl (S.nofree _ (Ml hy))
 ·exact Nat.le_of_lt (x.above y c (Ml h))
 ·have hi:i < vs.length:=by
   unfold start at h2
   by_cases hi:i < vs.length
   ·exact hi
   ·rw [List.getElem?_append_right (by simpa using hi)] at h2
    rw [List.getElem?_replicate] at h2
    split at h2 <;> cases h2
  have ha:vs[i]?=some v:=by
   unfold start at h2;rw [List.getElem?_append_left (by simpa using hi),L8] at h2
   cases e:vs[i]? with
   | none=>rw [e] at h2; cases h2
   | some a=>rw [e] at h2; cases h2; rfl
  obtain⟨u,hu,rv⟩:=r.get ha;have hp:ps[i]?=some y:=by
   rw [<- S.pre,List.getElem?_take_of_lt (by omega)]; exact h1
  have ndP:ps.Nodup:=by rw [<- S.pre]; exact S.nd.sublist (List.take_sublist _ _)
  refine⟨u,rv,?_⟩;rcases S.par y (List.mem_of_getElem? hp) with k | k
  ·exact .inl ⟨k,rn ndP hp hu k⟩
  ·obtain⟨c,e⟩:=uP (n:=s.heap.objs.size+1) k;refine .inr ⟨.inl k,c,e,?_⟩;have q:=x.cell y c e;rw [q_ ndP hp hu (by show scope.names.lookup y≠_; rw [k]; decide)] at q
   exact q
 ·exact e0.hok.fresh (Nat.le_of_lt (x.above y c (Ml h)))
 ·unfold start
  show _=N.length
  rw [LY,LG,List.length_replicate];omega
theorem IQ {CX:Cm} {P:MU} {w:MW} {K:PySem.W.Frag} {mg:Str->MS MQ} {base:MX} {k:Nat} {f:MR} {name M7:Str} {params:Arguments} {body:List MY} {scope:Scope} {dV kV doc pm cdv ct oc:MQ} {an od:MS MR}
  {osl:MZ (MS MQ)} {N ps:List Str} {sp:Sp} (lk:K.lookup f=some ⟨oc,od,.func (PySem.W.fnOf name M7 params body scope dV kV doc pm an cdv ct),osl⟩) (hcd:PySem.W.codeIn K cdv M7=true) (S:au N ps scope)
  (len:∀ vs H Q E,sp vs H Q E->vs.length=ps.length)
  (hbody:∀ (A:MV) (outer:List Env) (s:MP) (H:Hp) (vs:List V) (Q:VK) (E:XK),cI k (A.deeper (envOfC M7 scope s.heap.objs.size f cdv))->sp vs H Q E->
   ∃ t,q9 (u5 CX P w K mg base N M7 scope f cdv A outer s H E) body t/\t {nx:=λ_ H'=>Q .non H',rt:=Q} (start N vs) H):
  aT P w K mg base CX (k+1) f (PySem.W.fnOf name M7 params body scope dV kV doc pm an cdv ct) ps sp:=by
 refine⟨len,λA outer s H args us vs Q E hr e0 hb r hsp=>?_⟩
 have hl:=len _ _ _ _ hsp;have KX:K.In s.heap:=e0.mod.kin.keeps λb o e=>(e0.bs b o e).1
 have lim:s.heap.NoLimit:=e0.mod.nolimit.keeps λb o e=>(e0.bs b o e).1
 have hkind:∀ y∈ps.zip us,scope.names.lookup y.1=some .local\/(scope.names.lookup y.1=some .cell/\((cellsFrom (s.heap.objs.size+1) scope.names []).lookup y.1).isSome=true):=λ⟨n,v⟩ hy=>by
  rcases S.par n (List.of_mem_zip hy).1 with q | q
  ·exact .inl q
  ·exact .inr ⟨q,PySem.W.cellsFrom_some _ _ _ (.inl q)⟩
 refine codeAny_call_function hr.depth (KX _ _ lk) rfl S.co S.gen rfl (PySem.W.codeRec_of KX hcd) (hb _ _ _ _ ?_);refine wpAny_newFunctionEnv_cells S.kind hkind λenv he s1 x=>?_
 subst he;refine⟨lim.keeps x.toInCall.keep,codeAny_func ?_⟩;obtain⟨t,ht,hq⟩:=hbody A outer s H vs Q E (hr.deeper _) hsp;have I:aD (u5 CX P w K mg base N M7 scope f cdv A outer s H E) [] (start N vs) H s1:=yx S hr.hd e0 hl r x;refine Mg (ht [] s1 (start N vs) H _ I hq) (λfl s' hs=>?_) λe s' hs=>hs
 have fin:∀ {σ':St} {H':Hp} {v:V} {u:MQ},aD (u5 CX P w K mg base N M7 scope f cdv A outer s H E) [] σ' H' s'->aP v u->Q v H'->CE outer P w H s Q u s':=
  λ{σ' H' v u} J rv q=>⟨v,H',J.os,J.bare,J.base,J.hok,rv,q⟩
 cases fl with
 | ret u=>
  obtain⟨v,σ',H',J,rv,q⟩:=hs;exact fin J rv q
 | next=>
  obtain⟨σ',H',J,q⟩:=hs;exact fin (v:=V.non) (u:=Value.none) J rfl q
 | brk=>
  obtain⟨_,_,_,q⟩:=hs;exact False.elim q
 | cont=>
  obtain⟨_,_,_,q⟩:=hs;exact False.elim q
section
variable {X:Cx} {x:Str} {p pos:Pos} {e:MT} {es:List MT} {t:TA} {id T:M3} {r:List V->Hp->VK->Prop}
def Kv (r:List V->Hp->VK->Prop) (t:TA):TE:=fun σ H Q=>t σ H λvs H1=>r vs H1 Q
theorem uT (hc:bW X (.builtin id) r) (hg:Gl X x) (hm:X.mg x=none) (hv:bootBuiltins x=some (.builtin id)) (ha:PA X (e::es) t) (hn:x≠"__name__":=by decide) (hdb:(x == ("__debug__":Str))=false:=by decide)
  (he:starEach (e::es) X.env=(false,eval e X.env)::starEach es X.env:=by rfl) (hpl:(backTo pos (starEach es X.env)).any (·.1)=false:=by rfl):PE X (.Call (.Name x p) (e::es) [] pos) (Kv r t):=by
 intro M6 s σ H Q I h;refine wpAny_Call_Name_kw (lB I hg hm hv ?_ hn hdb);exact PyProof.Rows.callWith_builtin1 (cR (ha pos M6 s σ H _ I h) λus s1 z9=>by obtain⟨vs,H1,I1,r1,q1⟩:=z9; exact hc M6 s1 σ H1 vs us Q I1 r1 q1) he hpl
theorem nG (hc:bW X (.type T) r) (hg:Gl X x) (hm:X.mg x=none) (hv:bootBuiltins x=some (.type T)) (ha:PA X (e::es) t) (hn:x≠"__name__":=by decide) (hdb:(x == ("__debug__":Str))=false:=by decide)
  (he:starEach (e::es) X.env=(false,eval e X.env)::starEach es X.env:=by rfl) (hpl:(backTo pos (starEach es X.env)).any (·.1)=false:=by rfl):PE X (.Call (.Name x p) (e::es) [] pos) (Kv r t):=by
 intro M6 s σ H Q I h;refine wpAny_Call_Name_kw (lB I hg hm hv ?_ hn hdb);exact PyProof.Rows.callWith_type1 (cR (ha pos M6 s σ H _ I h) λus s1 z9=>by obtain⟨vs,H1,I1,r1,q1⟩:=z9; exact hc M6 s1 σ H1 vs us Q I1 r1 q1) he hpl
end
end L2
namespace HT
open PySem PyProof.Rows
section
variable {prog:MU} {w:MW} {A:MV} {E:MQ->MP->Prop} {s:MP}
theorem CM {t b:MR} {vs ws:List MQ} {Q:MQ->MP->Prop} (ht:IsTup s.heap t vs.toArray) (hb:IsTup s.heap b ws.toArray) (hv:vs≠[])
  (h1:ws=[]->Q (.ref t) s) (h2:ws≠[]->Q (.ref s.heap.objs.size) {s with heap:=s.heap.push {cls:=.type "tuple",data:=.seq (vs++ws).toArray}})
  (hsz:vs.length+ws.length<=sizeLine):wpAny (model prog w) A (binaryOp .Add (.ref t) (.ref b)) Q E s:=by
 obtain⟨⟨cls,dd,data,sl⟩,ho,hc,n,hd⟩:=id ht;obtain⟨⟨cls2,dd2,data2,sl2⟩,ho2,hc2,n2,hd2⟩:=id hb;simp only at hc hd hc2 hd2
 subst hc hd hc2 hd2;have e:vs.toArray++ws.toArray=(vs++ws).toArray:=by simp
 by_cases hw:ws=[]
 ·exact concat_meets ⟨_,ho,rfl⟩ ⟨_,ho2,rfl⟩ noFill_tuple_add seq_tuple_add PySem.F.slot_tuple_add PySem.F.entry_tuple_add (PySem.F.args_tuple_add_2 _ _)
   (tuple_addW1 t b vs.toArray ws.toArray n n2 dd dd2 sl sl2 (by simpa using hv) (by simp [hw])) ⟨ho,ho2,h1 hw⟩
 ·refine concat_meets ⟨_,ho,rfl⟩ ⟨_,ho2,rfl⟩ noFill_tuple_add seq_tuple_add PySem.F.slot_tuple_add PySem.F.entry_tuple_add (PySem.F.args_tuple_add_2 _ _)
   (tuple_addW2 t b vs.toArray ws.toArray n n2 dd dd2 sl sl2 (by simpa using hv) (by simpa using hw) (by rw [LI,LI]; exact hsz)) ⟨ho,ho2,?_⟩
  rw [e];exact h2 hw
def dD (n d:Nat):MS Int->Nat
 | none=>d
 | some v=>if v < 0 then(v+(n:Int)).toNat else min v.toNat n
theorem Gv (n d:Nat) (hd:d<=n) (o:MS Int):dD n d o<=n:=by
 cases o with
 | none=>exact hd
 | some v=>
  show(if v < 0 then(v+(n:Int)).toNat else min v.toNat n)<=n
  by_cases hv:v < 0
  ·rw [if_pos hv]; omega
  ·rw [if_neg hv]; exact Nat.min_le_right _ _
theorem wZ (v:Int) (n d:Nat):(if v < 0 then max (v+(n:Int)) 0 else min v (n:Int))=((dD n d (some v):Nat):Int):=by
 show(if v < 0 then max (v+(n:Int)) 0 else min v (n:Int))=(((if v < 0 then(v+(n:Int)).toNat else min v.toNat n):Nat):Int)
 by_cases hv:v < 0
 ·simp only [if_pos hv]; omega
 ·simp only [if_neg hv]; omega
theorem vX (lo hi:MS Int) (n:Nat):Builtin.Slice.sliceAdjust lo hi 1 (n:Int)=(((dD n 0 lo:Nat):Int),((dD n n hi:Nat):Int)):=by
 have h1:¬ ((1:Int) < 0):=by omega
 unfold Builtin.Slice.sliceAdjust;simp only [h1,if_false];refine LX ?_ ?_
 ·cases lo with
  | none=>rfl
  | some v=>exact wZ v n 0
 ·cases hi with
  | none=>rfl
  | some v=>exact wZ v n n
theorem vN (i j:Nat):Builtin.Slice.slicePlaces (i:Int) (j:Int) 1=j - i:=by
 unfold Builtin.Slice.slicePlaces;have h1:(1:Int) > 0:=by omega
 simp only [h1,if_true,Int.ediv_one]
 split <;> omega
theorem pk {v:MQ} {o:MS Int} {Q:MS Int->MP->Prop} (p:IsPart v o) (h:Q o s):wpAny (model prog w) A (Builtin.Slice.slicePartIndex v) Q E s:=by
 cases p with
 | none=>exact slicePart_none h
 | int i t=>exact slicePart_int h
theorem ny {sl:MR} {vl vu:MQ} {lo hi:MS Int} {n:Nat} {Q:Int×Int×Nat->MP->Prop} (hs:s.heap.IsSliceOf sl vl vu .none) (pl:IsPart vl lo) (pu:IsPart vu hi)
  (h:Q (((dD n 0 lo:Nat):Int),1,dD n n hi - dD n 0 lo) s):wpAny (model prog w) A (Builtin.Slice.sliceApplied (.ref sl) (pure (n:Int))) Q E s:=by
 obtain⟨os,hos,hcs,hds⟩:=id hs;unfold Builtin.Slice.sliceApplied Builtin.Slice.sliceFields;refine gt (gt (wpAny_field hos hds (x:=vl) rfl (gt (wpAny_field hos hds (x:=vu) rfl (gt (wpAny_field hos hds (x:=.none) rfl (Lz ?_)))))));refine gt (slicePart_none ?_)
 show wpAny _ _ (if ((1:Int) == 0)=true then _ else _) _ _ s
 rw [if_neg (by decide)]
 refine gt (pk pl (gt (pk pu (gt (Lz ?_)))))
 show wpAny _ _ (match Builtin.Slice.sliceAdjust lo hi 1 (n:Int) with | (lo,hi)=>pure (lo,(1:Int),Builtin.Slice.slicePlaces lo hi 1)) _ _ s
 rw [vX lo hi n]
 show wpAny _ _ (pure (((dD n 0 lo:Nat):Int),(1:Int),Builtin.Slice.slicePlaces ((dD n 0 lo:Nat):Int) ((dD n n hi:Nat):Int) 1)) _ _ s
 rw [vN];exact Lz h
theorem Bo (xs:MZ MQ) (i k:Nat):((List.range k).filterMap fun(m:Nat)=>xs[((i:Int)+(m:Int)*1).toNat]?).toArray=((xs.toList.drop i).take k).toArray:=by
 have e:(λ(m:Nat)=>xs[((i:Int)+(m:Int)*1).toNat]?)=λm=>xs[i+m]?:=by
  funext m
  have:((i:Int)+(m:Int)*1).toNat=i+m:=by omega
  rw [this]
 rw [e];have:=pick_run xs i k;rw [List.filterMap_map] at this;have e2:((λx=>xs[x]?) ∘ λx=>i+x)=λm=>xs[i+m]?:=rfl
 rw [e2] at this;rw [this]
theorem lU {t sl:MR} {items:MZ MQ} {vl vu:MQ} {lo hi:MS Int} {Q:MQ->MP->Prop} (ht:IsTup s.heap t items) (hs:s.heap.IsSliceOf sl vl vu .none) (pl:IsPart vl lo) (pu:IsPart vu hi)
  (hw:¬ (dD items.size 0 lo=0/\dD items.size items.size hi=items.size))
  (h:Q (.ref s.heap.objs.size) {s with heap:=s.heap.push {cls:=.type "tuple",data:=.seq ((items.toList.drop (dD items.size 0 lo)).take (dD items.size items.size hi - dD items.size 0 lo)).toArray}})
  (hsz:items.size<=sizeLine):wpAny (model prog w) A (getItem (.ref t) (.ref sl)) Q E s:=by
 have htake:sizeOk (.seq ((items.toList.drop (dD items.size 0 lo)).take (dD items.size items.size hi - dD items.size 0 lo)).toArray):=by
  show((items.toList.drop (dD items.size 0 lo)).take (dD items.size items.size hi - dD items.size 0 lo)).toArray.size<=sizeLine
  rw [LI,List.length_take,List.length_drop,MF];omega
 have hj:dD items.size items.size hi<=items.size:=Gv _ _ (LD _) hi;obtain⟨os,hos,hcs,hds⟩:=id hs;have hTs:s.TypeIs (.ref sl) "slice":=⟨os,hos,hcs⟩
 unfold getItem
 try with_reducible refine L5 ?_
 first | refine gt (Lz ?_) | skip
 refine gt (wpAny_sequenceKey ht.typeIs (by decide) ?_)
 refine gt (wpAny_callSpecial?_slot (name:=Str.ofString "__getitem__") ht.typeIs PyProof.Rows.slot_tuple_getitem
  (wpAny_call_entry PyProof.Rows.slot_tuple_getitem ht.typeIs entry_tuple_getitem ?_ (args_tuple_getitem _ _)))
 show wpAny _ _ (Builtin.Tuple.tupleItemsOf (.ref t) >>= _) _ _ s
 refine gt (tupleItemsOf_ ht ?_);refine gt (wpAny_typeOf hTs ?_);rw [if_pos (by decide)]
 refine gt (ny hs pl pu ?_);have hno:¬ ((((dD items.size 0 lo:Nat):Int) == 0 && (1:Int) == 1 && (dD items.size items.size hi - dD items.size 0 lo) == items.size)=true):=by
  intro q;rw [Mj,Mj] at q;have q1:((dD items.size 0 lo:Nat):Int)=0:=eq_of_beq q.1.1;have q2:dD items.size items.size hi - dD items.size 0 lo=items.size:=eq_of_beq q.2;exact hw ⟨by omega,by omega⟩
 show wpAny _ _ (if (((dD items.size 0 lo:Nat):Int) == 0 && (1:Int) == 1 && (dD items.size items.size hi - dD items.size 0 lo) == items.size)=true then _ else _) _ _ s
 rw [if_neg hno,Bo]
 first
  | exact gt (m:=Builtin.Tuple.tupleExact _) (L7 (Lz ⟨_,rfl,Lz h⟩) htake)
  | exact gt (m:=Builtin.Tuple.tupleExact _) (L7 (gt (Lz (Lz ⟨_,rfl,Lz h⟩))) htake)
  | exact gt (gt (m:=Builtin.Tuple.tupleExact _) (L7 (Lz (Lz ⟨_,rfl,Lz h⟩)) htake))
  | exact gt (gt (m:=Builtin.Tuple.tupleExact _) (L7 (Lz ⟨_,rfl,Lz h⟩) htake))
end
end HT
namespace L2
open PySem PySem.Spec PyProof.Rows
abbrev TO:=St->Hp->(MS Int->Hp->Prop)->Prop
def PO (X:Cx) (e:MS MT) (t:TO):Prop:=
 ∀ (M6:List (MR×M5)) (s:MP) (σ:St) (H:Hp) (Q:MS Int->Hp->Prop),aD X M6 σ H s->t σ H Q->
  wpAny (model X.prog X.w) X.A (evalPart e X.env) (λu s'=>∃ o H',aD X M6 σ H' s'/\IsPart u o/\Q o H') X.xe s
def C2:TO:=λ_ H Q=>Q none H
def IF (t:TE):TO:=fun σ H Q=>t σ H λx H1=>∃ i,x=.int i/\Q (some i) H1
section
variable {X:Cx} {e:MT} {te:TE} {lo hi:MS MT} {tl th:TO} {pos p2:Pos}
theorem CA:PO X none C2:=by
 intro M6 s σ H Q I h;rw [evalPart_none];exact Lz ⟨none,H,I,.none,h⟩
theorem Du (h:PE X e te):PO X (some e) (IF te):=by
 intro M6 s σ H Q I hw;rw [evalPart_some];refine cR (h M6 s σ H _ I hw) λu s1 z9=>?_
 obtain⟨x,H1,I1,r1,q1⟩:=z9;obtain⟨i,rfl,q⟩:=q1;obtain⟨t,rfl⟩:=r1;exact⟨some i,H1,I1,.int i t,q⟩
def Eo (X:Cx) (r:V->MS Int->MS Int->Hp->VK->Prop):Prop:=
 ∀ (M6:List (MR×M5)) (s:MP) (σ:St) (H:Hp) (x:V) (v vl vu:MQ) (lo hi:MS Int) (sl:MR) (Q:VK),aD X M6 σ H s->aP x v->s.heap.IsSliceOf sl vl vu .none->IsPart vl lo->IsPart vu hi->r x lo hi H Q->
  ∃ T id,typeLookup (.type T) "__getitem__"=pure (some (.builtin id))/\s.TypeIs v T/\wpAny (model X.prog X.w) X.A (getItem v (.ref sl)) (EP X M6 σ Q) X.xe s
theorem Eo.or {r r':V->MS Int->MS Int->Hp->VK->Prop} (h:Eo X r) (h':Eo X r'):Eo X (λx lo hi H Q=>r x lo hi H Q\/r' x lo hi H Q):=by
 intro M6 s σ H x v vl vu lo hi sl Q I rx hs pl pu q;rcases q with q | q
 ·exact h M6 s σ H x v vl vu lo hi sl Q I rx hs pl pu q
 ·exact h' M6 s σ H x v vl vu lo hi sl Q I rx hs pl pu q
def Lm (r:V->MS Int->MS Int->Hp->VK->Prop) (te:TE) (tl th:TO):TE:=fun σ H Q=>te σ H λx H1=>tl σ H1 λl H2=>th σ H2 λu H3=>r x l u H3 Q
theorem z8 {r:V->MS Int->MS Int->Hp->VK->Prop} (hr:Eo X r) (he:PE X e te) (hl:PO X lo tl) (hu:PO X hi th):PE X (.Subscript e (.Slice lo hi none p2) pos) (Lm r te tl th):=by
 intro M6 s σ H Q I h;refine Subscript_ (cR (he M6 s σ H _ I h) λv s1 z9=>?_)
 obtain⟨x,H1,I1,r1,q1⟩:=z9;refine wpAny_Slice (cR (hl M6 s1 σ H1 _ I1 q1) λvl s2 ⟨l,H2,I2,pl,q2⟩=>cR (hu M6 s2 σ H2 _ I2 q2) λvu s3 z9=>?_)
 obtain⟨u,H3,I3,pu,q3⟩:=z9;rw [evalPart_none];refine Lz ?_;have I4:aD X M6 σ H3 {s3 with heap:=s3.heap.push {cls:=.type "slice",data:=.fields #[vl,vu,.none]}}:=I3.kept (t':=s3.toks) λb ob q=>Ly _ q
 obtain⟨T,id,hT,ht,hg⟩:=hr M6 {s3 with heap:=s3.heap.push {cls:=.type "slice",data:=.fields #[vl,vu,.none]}} σ H3 x v vl vu l u s3.heap.objs.size Q I4 r1 (Heap.IsSliceOf.new ..) pl pu q3
 show wpAny (model X.prog X.w) X.A (subscriptTail e (.Slice lo hi none p2) v (.ref s3.heap.objs.size)) (EP X M6 σ Q) X.xe {s3 with heap:=s3.heap.push {cls:=.type "slice",data:=.fields #[vl,vu,.none]}}
 exact tail_any (ops:=[.ref s3.heap.objs.size,v]) ht hT hg (by with_unfolding_all rfl)
def qz (xs:List V) (lo hi:MS Int):List V:=(xs.drop (HT.dD xs.length 0 lo)).take (HT.dD xs.length xs.length hi - HT.dD xs.length 0 lo)
theorem nY (xs:List V) (lo hi:MS Int):(qz xs lo hi).length<=xs.length:=by
 unfold qz;rw [List.length_take,List.length_drop];omega
def J0 (K:PySem.W.Frag):V->MS Int->MS Int->Hp->VK->Prop:=λx lo hi H Q=>∃ a xs,x=.ref a/\ja K H a xs/\
 ¬ (HT.dD xs.length 0 lo=0/\HT.dD xs.length xs.length hi=xs.length)/\∀ p,H p=none->Q (.ref p) (cF H p (.tup (qz xs lo hi)))
theorem Ge:Eo X (J0 X.K):=by
 intro M6 s σ H x v vl vu lo hi sl Q I rx hs pl pu h;obtain⟨a,xs,rfl,hx,hw,q⟩:=h;cases rx;obtain⟨its,r,ht,hz⟩:=I.tuple hx;have hlen:its.toArray.size=xs.length:=by rw [LI]; exact r.length.symm
 refine⟨"tuple",_,PyProof.Rows.slot_tuple_getitem.lookup,ht.typeIs,?_⟩
 refine HT.lU ht hs pl pu (by rw [hlen]; exact hw) ?_ (by rw [hlen]; exact hz)
 rw [hlen];refine⟨.ref s.heap.objs.size,_,I.laid (t':=s.toks) (o:=.tup (qz xs lo hi)) (λb ob q=>Ly _ q) (LD _) ?_,rfl,q _ (I.hok.fresh (LD _))⟩
 exact⟨Mi (nY xs lo hi) hz,_,(r.drop (HT.dD xs.length 0 lo)).take (HT.dD xs.length xs.length hi - HT.dD xs.length 0 lo),IsTup.new _ _⟩
def Je (K:PySem.W.Frag):R2:=λx y H Q=>∃ a b xs ys,x=.ref a/\y=.ref b/\ja K H a xs/\ja K H b ys/\xs≠[]/\xs.length+ys.length<=sizeLine/\
 (ys=[]->Q (.ref a) H)/\(ys≠[]->∀ p,H p=none->Q (.ref p) (cF H p (.tup (xs++ys))))
theorem aV.nil_iff {xs:List V} {us:List MQ} (r:aV xs us):us=[]↔xs=[]:=by
 cases r with
 | nil=>simp
 | cons _ _=>simp
theorem wS:fQ X (binaryOp .Add) (Je X.K):=by
 intro M6 s σ H x y v u Q I rx ry h;obtain⟨a,b,xs,ys,rfl,rfl,ha,hb,hx,hz,q1,q2⟩:=h;cases rx;cases ry;obtain⟨its,r1,p1,_⟩:=I.tuple ha;obtain⟨its2,r2,p2,_⟩:=I.tuple hb;refine HT.CM p1 p2 (λz=>hx (r1.nil_iff.mp z)) (λz=>⟨.ref a,H,I,rfl,q1 (r2.nil_iff.mp z)⟩) (λz=>?_) (by rw [<- r1.length,<- r2.length]; exact hz)
 refine⟨.ref s.heap.objs.size,_,I.laid (t':=s.toks) (o:=.tup (xs++ys)) (λb ob q=>Ly _ q) (LD _) ?_,rfl,q2 (λw=>z (r2.nil_iff.mpr w)) _ (I.hok.fresh (LD _))⟩
 exact⟨by rw [LY]; exact hz,_,r1.append r2,IsTup.new _ _⟩
end
def BM (n:Nat) (i:Int):MS Nat:=if 0<=i then(if i < n then some i.toNat else none) else if -(n:Int)<=i then some (i+n).toNat else none
def atI {α:Type} (xs:List α) (i:Int):MS α:=(BM xs.length i).bind λj=>xs[j]?
theorem xJ {n:Nat} {i:Int} {j:Nat} (h:BM n i=some j):seqIndex? i n=some j/\j < n/\-(n:Int)<=i/\i < n:=by
 unfold BM at h
 by_cases h0:0<=i
 ·rw [if_pos h0] at h
  by_cases h1:i < n
  ·rw [if_pos h1] at h;have e:i.toNat=j:=Ma h;exact⟨by rw [seqIndex_of h0 h1,e],by omega,by omega,h1⟩
  ·rw [if_neg h1] at h; cases h
 ·rw [if_neg h0] at h
  by_cases h1:-(n:Int)<=i
  ·rw [if_pos h1] at h;have e:(i+n).toNat=j:=Ma h;exact⟨by rw [seqIndex_neg (by omega) h1,e],by omega,h1,by omega⟩
  ·rw [if_neg h1] at h; cases h
theorem xi {α:Type} {xs:List α} {i:Int} {v:α} (h:atI xs i=some v):∃ j,seqIndex? i xs.length=some j/\xs[j]?=some v/\j < xs.length/\-(xs.length:Int)<=i/\i < xs.length:=by
 unfold atI at h;cases e:BM xs.length i with
 | none=>rw [e] at h; cases h
 | some j=>
  rw [e] at h;obtain⟨h1,h2,h3,h4⟩:=xJ e;exact⟨j,h1,h,h2,h3,h4⟩
theorem jn {α:Type} {xs:List α} {j:Nat} {v:α} (h:xs[j]?=some v):atI xs (j:Int)=some v:=by
 have hj:j < xs.length:=(Mf.mp h).1;have e:BM xs.length (j:Int)=some j:=by
  unfold BM;rw [if_pos (by omega),if_pos (by omega)]; simp
 unfold atI; rw [e]; exact h
def wT (b:MT):Prop:=∀ o i,subscripted b false o i=operate [o,i] (getItem o i)
def y_ (X:Cx) (r:R2):Prop:=
 ∀ (value slice:MT) (M6:List (MR×M5)) (s:MP) (σ:St) (H:Hp) (x y:V) (v u:MQ) (Q:VK),aD X M6 σ H s->aP x v->aP y u->r x y H Q->
  subscripted slice false v u=operate [v,u] (getItem v u)->wpAny (model X.prog X.w) X.A (subscriptTail value slice v u) (EP X M6 σ Q) X.xe s
def K7 (X:Cx) (id:M3) (r:V->List V->Hp->VK->Prop):Prop:=
 ∀ (M6:List (MR×M5)) (s:MP) (σ:St) (H:Hp) (x:V) (xs:List V) (v:MQ) (us:List MQ) (Q:VK),aD X M6 σ H s->aP x v->aV xs us->r x xs H Q->
  wpAny (model X.prog X.w) X.A (call (.builtin id) (v::us)) (EP X M6 σ Q) X.xe s
section
variable {X:Cx} {a b:MT} {ta tb:TE} {pos:Pos}
theorem HW {r:R2} (hr:y_ X r) (ha:PE X a ta) (hb:PE X b tb) (hs:wT b):PE X (.Subscript a b pos) (HK r ta tb):=by
 intro M6 s σ H Q I h;exact Subscript_ (Gg ha hb I h λv u s2 x y H2 I2 rx ry q=>hr a b M6 s2 σ H2 x y v u Q I2 rx ry q (hs _ _))
def Ks (K:PySem.W.Frag):R2:=λx y H Q=>∃ p xs i v,x=.ref p/\y=.int i/\ic K H p xs/\atI xs i=some v/\Q v H
def Ka (K:PySem.W.Frag):R2:=λx y H Q=>∃ p xs i v,x=.ref p/\y=.int i/\ja K H p xs/\atI xs i=some v/\Q v H
theorem xN:y_ X (Ks X.K):=by
 intro value slice M6 s σ H x y v u Q I rx ry h hs;obtain⟨p,xs,i,z,rfl,rfl,hq,he,q⟩:=h;cases rx;obtain⟨t,rfl⟩:=ry;obtain⟨its,r,pl,hz⟩:=I.list hq;obtain⟨j,h1,h2,h3,h4,h5⟩:=xi he;obtain⟨w,ew,rw'⟩:=r.get h2;have hl:=r.length;have hn:=sT;have fin:EP X M6 σ Q w s:=⟨z,H,I,rw',q⟩
 by_cases h0:0<=i
 ·have hj:i.toNat=j:=by
   rw [seqIndex_of h0 h5] at h1;exact Ma h1
  exact item_listR pl.isList h0 (by omega) (by rw [hj]; simpa using ew) fin hs
 ·have hj:(i+(its.toArray.size:Int)).toNat=j:=by
   rw [seqIndex_neg (by omega) h4] at h1
   rw [LI,<- hl];exact Ma h1
  exact subscriptTail_builtinR (x:=w) pl.isList.typeIs slot_list_getitem.lookup
   (wpAny_getItem_list_neg (Q:=λr s'=>r=w/\EP X M6 σ Q r s') pl.isList (by omega) (by rw [LI] <;> omega) (by omega) (by rw [hj]; simpa using ew) ⟨rfl,fin⟩) hs
theorem G5:y_ X (Ka X.K):=by
 intro value slice M6 s σ H x y v u Q I rx ry h hs;obtain⟨p,xs,i,z,rfl,rfl,hq,he,q⟩:=h;cases rx;obtain⟨t,rfl⟩:=ry;obtain⟨its,r,pl,hz⟩:=I.tuple hq;obtain⟨j,h1,h2,h3,h4,h5⟩:=xi he;obtain⟨w,ew,rw'⟩:=r.get h2;have hl:=r.length;have hn:=sT;have fin:EP X M6 σ Q w s:=⟨z,H,I,rw',q⟩;exact subscriptTail_builtinR (x:=w) pl.typeIs slot_tuple_getitem.lookup
  (getItem_tuple (j:=j) (Q:=λr s'=>r=w/\EP X M6 σ Q r s') pl (by omega) (by omega) (by rw [LI,<- hl]; exact h1) (by simpa using ew) ⟨rfl,fin⟩) hs
theorem wy (its:List MQ) (n j:Nat) (u:MQ):Obj.mapSeq (·.setIfInBounds j u) {cls:=.type "list",data:=.seq its.toArray n}={cls:=.type "list",data:=.seq (its.set j u).toArray n}:=by
 simp [Obj.mapSeq]
theorem aD.lst {M6:List (MR×M5)} {σ:St} {H:Hp} {s:MP} {p:MR} {xs:List V} (I:aD X M6 σ H s) (h:H p=some (.lst xs)):
  ∃ (its:List MQ) (n:Nat),aV xs its/\s.heap.get? p=some {cls:=.type "list",data:=.seq its.toArray n}/\xs.length<=sizeLine:=by
 obtain⟨z,its,n,r,e⟩:=I.hok p _ h;exact⟨its,n,r,e,z⟩
theorem aD.lstUpd {M6:List (MR×M5)} {σ:St} {H:Hp} {s:MP} {p:MR} {xs ys:List V} {its its':List MQ} {n n':Nat} {f:M5->M5} (I:aD X M6 σ H s) (h:H p=some (.lst xs))
  (ho:s.heap.get? p=some {cls:=.type "list",data:=.seq its.toArray n}) (hf:f {cls:=.type "list",data:=.seq its.toArray n}={cls:=.type "list",data:=.seq its'.toArray n'}) (r:aV ys its') (hz:ys.length<=sizeLine) (t:Nat):
  aD X M6 σ (cF H p (.lst ys)) {s with heap:=s.heap.update p f,toks:=t}:=by
 have e:(s.heap.update p f).get? p=some {cls:=.type "list",data:=.seq its'.toArray n'}:=by
  rw [Mm f ho (by rw [hf] <;> rfl),hf]
 refine I.write (x:=p) (e:=p) (by rw [h]; trivial) (.inl rfl) (λb u hb q=>(L_ _ _ (Ne.symm hb)).trans q) ⟨_,e⟩ ?_
 exact⟨hz,its',n',r,e⟩
def IK:V->V->V->Hp->(Hp->Prop)->Prop:=λo i v H Q=>∃ p xs k j,o=.ref p/\i=.int k/\H p=some (.lst xs)/\BM xs.length k=some j/\Q (cF H p (.lst (xs.set j v)))
theorem zp:GU X IK:=by
 intro M6 s σ H o i v ov iv u Q I ro ri rv h;obtain⟨p,xs,k,j,rfl,rfl,hp,hj,q⟩:=h;cases ro;obtain⟨t,rfl⟩:=ri;obtain⟨its,n,r,ho,hz⟩:=I.lst hp;obtain⟨h1,h2,h3,h4⟩:=xJ hj;have hl:=r.length;have hn:=sT;have I':aD X M6 σ (cF H p (.lst (xs.set j v))) {s with heap:=s.heap.update p (Obj.mapSeq (·.setIfInBounds j u))}:=
  I.lstUpd hp ho (wy its n j u) (r.set rv j) (by rw [List.length_set]; exact hz) s.toks
 by_cases h0:0<=k
 ·have hk:k.toNat=j:=by
   rw [seqIndex_of h0 h4] at h1;exact Ma h1
  exact PySem.W.ki_setAt ho h0 (by omega) (by rw [LI,<- hl]; exact h4) (by rw [hk]; exact⟨_,I',q⟩)
 ·have hk:(k+(its.toArray.size:Int)).toNat=j:=by
   rw [seqIndex_neg (by omega) h3] at h1
   rw [LI,<- hl];exact Ma h1
  exact PySem.W.ki_setBack ho (by omega) (by rw [LI,<- hl]; exact h3) (by omega) (by rw [hk]; exact⟨_,I',q⟩)
theorem tV (lo hi:MS Int) (n:Nat):(sliceBounds lo hi none n).1=((HT.dD n 0 lo:Nat):Int)/\(sliceBounds lo hi none n).2.1=((HT.dD n n hi:Nat):Int)/\(sliceBounds lo hi none n).2.2=1:=by
 refine⟨?_,?_,rfl⟩
 ·cases lo with
  | none=>simp [sliceBounds,HT.dD]
  | some i=>
   simp only [sliceBounds,HT.dD,Option.getD_none,show(1:Int) > 0 by decide,if_true]
   by_cases h:i < 0
   ·simp only [h,if_true] <;> omega
   ·simp only [h,if_false] <;> omega
 ·cases hi with
  | none=>simp [sliceBounds,HT.dD]
  | some i=>
   simp only [sliceBounds,HT.dD,Option.getD_none,show(1:Int) > 0 by decide,if_true]
   by_cases h:i < 0
   ·simp only [h,if_true] <;> omega
   ·simp only [h,if_false] <;> omega
theorem qD (its:List MQ) (lo hi:MS Int):slicePick its.toArray lo hi none=((its.drop (HT.dD its.length 0 lo)).take (HT.dD its.length its.length hi - HT.dD its.length 0 lo)).toArray:=by
 obtain⟨h1,h2,h3⟩:=tV lo hi its.toArray.size;unfold slicePick;rw [h1,h2,h3];simp only [sliceRange_one,pick_run,LI] <;> rfl
def JN (K:PySem.W.Frag):V->MS Int->MS Int->Hp->VK->Prop:=λx lo hi H Q=>∃ a xs,x=.ref a/\ic K H a xs/\∀ p,H p=none->Q (.ref p) (cF H p (.lst (qz xs lo hi)))
theorem DC:Eo X (JN X.K):=by
 intro M6 s σ H x v vl vu lo hi sl Q I rx hs pl pu h;obtain⟨a,xs,rfl,hx,q⟩:=h;cases rx;obtain⟨its,r,ht,hz⟩:=I.list hx;have hlen:=r.length;refine⟨"list",_,slot_list_getitem.lookup,ht.isList.typeIs,?_⟩
 refine wpAny_getItem_list_slice ht.isList hs pl pu .none (by simp) ?_ (by rw [LI] <;> omega)
 rw [qD,<- hlen];refine⟨.ref s.heap.objs.size,_,I.laid (t':=s.toks) (o:=.lst (qz xs lo hi)) (λb ob q=>Ly _ q) (LD _) ?_,rfl,q _ (I.hok.fresh (LD _))⟩
 exact⟨Mi (nY xs lo hi) hz,_,0,(r.drop (HT.dD xs.length 0 lo)).take (HT.dD xs.length xs.length hi - HT.dD xs.length 0 lo),LA _ rfl⟩
theorem jy:bW X (.builtin "len") (λxs H Q=>∃ p ys,xs=[.ref p]/\(ic X.K H p ys\/ja X.K H p ys)/\Q (.int ys.length) H):=by
 intro M6 s σ H xs us Q I r h;obtain⟨p,ys,rfl,hq,q⟩:=h;obtain⟨u,rfl,rx⟩:=gQ r;cases rx;have hn:=sT;rcases hq with hq | hq
 ·obtain⟨its,r',pl,hz⟩:=I.list hq;have hlen:=r'.length;exact Calls.call_len_list pl.isList (by simp only [LI] <;> omega) ⟨.int ys.length,H,I.tok _,⟨s.toks+1,by rw [LI,hlen]⟩,q⟩
 ·obtain⟨its,r',pl,hz⟩:=I.tuple hq;have hlen:=r'.length;exact len_tuple pl (by simp only [LI] <;> omega) ⟨.int ys.length,H,I.tok _,⟨s.toks+1,by rw [LI,hlen]⟩,q⟩
theorem k7:bW X (.type "tuple") (λxs H Q=>∃ p ys,xs=[.ref p]/\((ic X.K H p ys/\∀ l,H l=none->Q (.ref l) (cF H l (.tup ys)))\/(ja X.K H p ys/\Q (.ref p) H))):=by
 intro M6 s σ H xs us Q I r h;obtain⟨p,ys,rfl,h⟩:=h;obtain⟨u,rfl,rx⟩:=gQ r;cases rx;rcases h with ⟨hq,q⟩ | ⟨hq,q⟩
 ·obtain⟨its,r',pl,hz⟩:=I.list hq;have hlen:=r'.length;refine call_tuple_list pl.isList (λh' kp=>?_) (by simp only [LI] <;> omega)
  have I1:aD X M6 σ H {s with heap:=h'}:=I.kept (t':=s.toks) kp
  have I2:aD X M6 σ (cF H h'.objs.size (.tup ys)) {s with heap:=h'.push {cls:=.type "tuple",data:=.seq its.toArray}}:=
   I1.laid (t':=s.toks) (λb o e=>Ly _ e) (LD _) (show dY X.prog X.w _ _ _ (.tup ys) from⟨hz,its,r',IsTup.new _ _⟩)
  exact⟨.ref h'.objs.size,_,I2,rfl,q _ (I1.hok.fresh (LD _))⟩
 ·obtain⟨its,r',pl,hz⟩:=I.tuple hq;exact call_tuple_same pl ⟨.ref p,H,I,rfl,q⟩
def KN (K:PySem.W.Frag) (T:M3) (x:V) (H:Hp):Prop:=match x with
 | .str _=>T="str"
 | .int _=>T="int"
 | .ref p=>(T="list"/\∃ xs,ic K H p xs)\/(T="tuple"/\∃ o,K.lookup p=some o/\o.cls=.type "tuple"/\o.dict=none)\/
   (T="dict"/\((∃ kvs,H p=some (.dK kvs))\/∃ kvs,H p=some (.dT kvs)))\/(T="set"/\∃ S n,H p=some (.set S n))
 | _=>False
theorem Fs {M6:List (MR×M5)} {σ:St} {H:Hp} {s:MP} {T:M3} {x:V} {v:MQ} (I:aD X M6 σ H s) (r:aP x v) (ty:KN X.K T x H):
  s.TypeIs v T/\∀ a,v=.ref a->∃ ob,s.heap.get? a=some ob/\ob.dict=none:=by
 cases x with
 | str z=>
  obtain⟨t,rfl⟩:=r;cases (show T="str" from ty)
  exact⟨typeIs_str s z t,λ_ e=>nomatch e⟩
 | int i=>
  obtain⟨t,rfl⟩:=r;cases (show T="int" from ty)
  exact⟨typeIs_int s i t,λ_ e=>nomatch e⟩
 | ref p=>
  cases r;rcases ty with ⟨rfl,xs,hq⟩ | ⟨rfl,o,hk,hc,hd⟩ | ⟨rfl,hk⟩ | ⟨rfl,S,n,hk⟩
  ·obtain⟨its,_,pl,_⟩:=I.list hq;refine⟨pl.isList.typeIs,λa e=>?_⟩
   cases e;obtain⟨o,n,e,c,hd,_⟩:=pl;exact⟨o,e,hd⟩
  ·refine⟨⟨o,I.kIn p o hk,hc⟩,λa e=>?_⟩
   cases e;exact⟨o,I.kIn _ o hk,hd⟩
  ·have z:∃ o,s.heap.get? p=some o/\o.ExactDict:=by
    rcases hk with ⟨kvs,hk⟩ | ⟨kvs,hk⟩
    ·obtain⟨_,_,_,_,o,_,_,e,ex,_⟩:=I.hok p _ hk;exact⟨o,e,ex⟩
    ·obtain⟨_,_,_,_,o,_,_,e,ex,_⟩:=I.hok p _ hk;exact⟨o,e,ex⟩
   obtain⟨o,e,ex⟩:=z;refine⟨⟨o,e,ex.1⟩,λa e2=>?_⟩
   cases e2;exact⟨o,e,ex.2.1⟩
  ·obtain⟨o,_,_,_,e,ex,_⟩:=I.hok p _ hk;refine⟨⟨o,e,ex.1⟩,λa e2=>?_⟩
   cases e2;exact⟨o,e,ex.2.1⟩
 | _=>exact False.elim ty
def Ll (K:PySem.W.Frag) (T:M3) (r:V->List V->Hp->VK->Prop) (to:TE) (t:TA):TE:=fun σ H Q=>to σ H λx H1=>KN K T x H1/\t σ H1 λxs H2=>r x xs H2 Q
variable {o e:MT} {es:List MT} {to:TE} {t:TA} {name:Str} {apos cpos:Pos} {T id:M3} {r:V->List V->Hp->VK->Prop}
theorem Ib (pa:PlainAttrs T) (slot:Slot T name id) (hty:typeOf (.builtin id)=pure (.type "method_descriptor")) (hm:K7 X id r) (ho:PE X o to) (ha:PA X (e::es) t)
  (hbase:attributeBase o name X.env (eval o X.env)=eval o X.env:=by rfl)
  (hfew:((backTo cpos (starEach (e::es) X.env)).all (λx=>!x.1) && (backToKw cpos (keywordEach [] X.env)).all (λx=>x.1.isSome)
   && decide ((e::es).length+([]:List Keyword).length+(if ([]:List Keyword).isEmpty then 0 else 1) < 30))=true:=by rfl)
  (hline:(apos.endLine == cpos.line)=true:=by rfl) (hs:starEach (e::es) X.env=(false,eval e X.env)::starEach es X.env:=by rfl) (hplain:(backTo cpos (starEach es X.env)).any (·.1)=false:=by rfl):
  PE X (.Call (.Attribute o name apos) (e::es) [] cpos) (Ll X.K T r to t):=by
 intro M6 s σ H Q I h;refine wpAny_Call_method_late hbase hfew hline rfl (cR (ho M6 s σ H _ I h) λv s1 z9=>?_)
 obtain⟨x,H1,I1,r1,ty,q1⟩:=z9;obtain⟨h1,h2⟩:=Fs I1 r1 ty;refine⟨T,id,pa,slot,hty,h1,h2,?_⟩;have hA:=ha cpos M6 s1 σ H1 _ I1 q1;rw [hs] at hA ⊢;refine Calls.callWith_builtin (by show(false || (backTo cpos (starEach es X.env)).any (·.1))=false; rw [hplain] <;> rfl) (Calls.evalArgs_plain ?_)
 exact cR hA λus s2 z9=>by obtain⟨vs,H2,I2,r2,q2⟩:=z9; exact hm M6 s2 σ H2 x vs v us Q I2 r1 r2 q2
end
def K2 (X:Cx) (id:M3) (r:V->List V->Hp->VK->Prop):Prop:=
 ∀ (M6:List (MR×M5)) (s:MP) (σ:St) (H:Hp) (x:V) (xs:List V) (v:MQ) (us:List MQ) (Q:VK),aD X M6 σ H s->aP x v->aV xs us->r x xs H Q->
  wpAny (model X.prog X.w) X.A (call (.builtin id) (v::us)) (EP X M6 σ Q) X.xe s
theorem aV.one:∀ {x:V} {us:List MQ},aV [x] us->∃ u,us=[u]/\aP x u
 | _,_,.cons r .nil=>⟨_,rfl,r⟩
section
variable {X:Cx} {M6:List (MR×M5)} {σ:St} {H:Hp} {s:MP} {l b:MR} {xs ys zs:List V}
theorem aD.lset {its its':List MQ} {n:Nat} {f:MZ MQ->MZ MQ} {t':Nat} (I:aD X M6 σ H s) (hH:H l=some (.lst xs))
  (e:s.heap.get? l=some {cls:=.type "list",data:=.seq its.toArray n}) (hf:f its.toArray=its'.toArray) (hv:aV ys its') (hz:ys.length<=sizeLine):
  aD X M6 σ (cF H l (.lst ys)) {s with heap:=s.heap.update l (Obj.mapSeq f),toks:=t'}:=by
 have q:=PySem.IsL.update e f;rw [hf] at q;refine I.write (x:=l) (e:=l) (by rw [hH]; exact trivial) (.inl rfl) (λb' u hb hu=>(L_ s.heap (Obj.mapSeq f) (Ne.symm hb)).trans hu) ⟨_,q⟩ ?_
 exact⟨hz,its',_,hv,q⟩
theorem aD.lnew {its:List MQ} {t':Nat} (I:aD X M6 σ H s) (hv:aV ys its) (hz:ys.length<=sizeLine):
  aD X M6 σ (cF H s.heap.objs.size (.lst ys)) {s with heap:=s.heap.push {cls:=.type "list",data:=.seq its.toArray},toks:=t'}:=
 I.laid (λ_ _ q=>Ly _ q) (LD _) ⟨hz,its,0,hv,LA _ rfl⟩
theorem aD.fresh (I:aD X M6 σ H s):H s.heap.objs.size=none:=I.hok.fresh (LD _)
theorem aD.lstM (I:aD X M6 σ H s) (hH:H l=some (.lst xs)):xs.length<=sizeLine/\∃ (its:List MQ) (n:Nat),aV xs its/\xs.length=its.length/\s.heap.get? l=some {cls:=.type "list",data:=.seq its.toArray n}:=by
 obtain⟨z,its,n,r,e⟩:=I.hok l _ hH;exact⟨z,its,n,r,r.length,e⟩
end
section
variable {X:Cx}
def Cw:V->List V->Hp->VK->Prop:=λx vs H Q=>∃ l xs y,x=.ref l/\vs=[y]/\H l=some (.lst xs)/\xs.length < sizeLine/\Q .non (cF H l (.lst (xs++[y])))
theorem rf:K2 X "list.append" Cw:=by
 intro M6 s σ H x vs v us Q I rx rv h;obtain⟨l,xs,y,rfl,rfl,hH,hz,q⟩:=h;cases rx;obtain⟨u,rfl,ru⟩:=rv.one;obtain⟨z,its,n,r,hl,e⟩:=I.lstM hH;refine call_meets F.slot_list_append ⟨_,e,rfl⟩ F.entry_list_append (F.args_list_append_2 _ _) (PySem.list_append l its.toArray n u (by rw [LI]; omega)) ⟨e,?_⟩
 refine⟨.non,_,I.lset (its':=its++[u]) hH e (by simp) (r.append (.cons ru .nil)) ?_,rfl,q⟩
 rw [LY,List.length_singleton];omega
def Kz:R2:=λx y H Q=>∃ l b xs zs,x=.ref l/\y=.ref b/\H l=some (.lst xs)/\H b=some (.lst zs)/\xs.length+zs.length<=sizeLine/\∀ p,H p=none->Q (.ref p) (cF H p (.lst (xs++zs)))
theorem G4:fQ X (binaryOp .Add) Kz:=by
 intro M6 s σ H x y v u Q I rx ry h;obtain⟨l,b,xs,zs,rfl,rfl,hH,hB,hz,q⟩:=h;cases rx;cases ry;obtain⟨z,its,n,r,hl,e⟩:=I.lstM hH;obtain⟨z2,its2,n2,r2,hl2,e2⟩:=I.lstM hB;refine PySem.P.add_list e e2 ?_ (by rw [LI,LI]; omega)
 have ea:its.toArray++its2.toArray=(its++its2).toArray:=by simp
 rw [ea];exact⟨.ref _,_,I.lnew (t':=s.toks) (r.append r2) (by rw [LY]; omega),rfl,q _ I.fresh⟩
end
section
variable {X:Cx} {M6:List (MR×M5)} {σ:St} {H:Hp} {s:MP} {a:MR} {y v:V} {u r:MQ} {o:MS V} {A:MV} {E:MQ->MP->Prop}
theorem aD.big (I:aD X M6 σ H s):sysModules < s.heap.objs.size:=by
 have h:mainGlobals < s.heap.objs.size:=(I.mod.glob.keeps I.bk).lt;exact Nat.lt_trans (by decide) h
theorem xj {h':MX} {t':Nat} {ob:HO} (I:aD X M6 σ H s) (mu:Jc (H a)) (hs:Heap.SameBut a s.heap h') (he:∃ q,h'.get? a=some q) (new:dY X.prog X.w (cF H a ob) h' a ob):
  aD X M6 σ (cF H a ob) {s with heap:=h',toks:=t'}:=
 I.write (x:=a) (e:=a) mu (.inl rfl) (λb q hb z=>(hs.2 b hb).trans z) he new
end
def E2 (i:MT):Prop:=∀ ov iv,subscripted i false ov iv=operate [ov,iv] (getItem ov iv)
theorem C9 {prog:MU} {w:MW} {A:MV} {E:MQ->MP->Prop} {s:MP} {env:Env} {value slice:MT} {pos:Pos} {T id:M3} {Q:MQ->MP->Prop}
  (hl:typeLookup (.type T) "__getitem__"=pure (some (.builtin id))) (hs:E2 slice)
  (h:wpAny (model prog w) A (eval value env) (λo s₁=>wpAny (model prog w) A (eval slice env) (λi s₂=>s₂.TypeIs o T/\wpAny (model prog w) A (getItem o i) Q E s₂) E s₁) E s):
  wpAny (model prog w) A (eval (.Subscript value slice pos) env) Q E s:=by
 refine Subscript_ (Mg h (λo s₁ h₁=>Mg h₁ (λi s₂ h₂=>?_) λ_ _ x=>x) λ_ _ x=>x)
 obtain⟨hT,h₂⟩:=h₂;unfold subscriptTail;refine gt ?_;rw [getitemInPython_of_ne hT.not_modules];refine gt (wpAny_specialOf hT hl ?_);have fin:wpAny (model prog w) A (subscripted slice false o i) (λr s₃=>wpAny (model prog w) A (letTemporaryGo value o r >>= λ_=>pure r) Q E s₃) E s₂:=by
  rw [hs o i];exact wpAny_operating (Mg h₂ (λr s₃ h₃=>gt (wpAny_letTemporaryGo (Lz h₃))) λ_ _ x=>x)
 first
  | exact Lz (gt fin)
  | exact gt (Lz (gt fin))
  | exact gt fin
abbrev VV:List (V×V)->List (MQ×MQ)->Prop:=Paired λp q=>aP p.1 q.1/\aP p.2 q.2
structure M2 (X:Cx) (o:MT) (m:Str) (apos:Pos) (e f:MT) (cpos:Pos):Prop where
 base:attributeBase o m X.env (eval o X.env)=eval o X.env
 few:((backTo cpos (starEach [e,f] X.env)).all (λx=>!x.1) && (backToKw cpos (keywordEach [] X.env)).all (λx=>x.1.isSome)
  && decide (([e,f]:List MT).length+([]:List Keyword).length+(if ([]:List Keyword).isEmpty then 0 else 1) < 30))=true
 line:(apos.endLine == cpos.line)=true
 trees:backTo cpos (starEach [e,f] X.env)=[(false,eval e X.env),(false,eval f X.env)]
def ce (H:Hp) (a:MR):Prop:=(∃ kvs,Rd H a (.dK kvs))\/∃ kvs,Rd H a (.dT kvs)
end L2
namespace Att
open PySem PySem.W PySem.Calls PyProof.Rows
theorem ou {P:Params} {h:MX}:∀ (ns:List Int) (vs:List MQ),WellAll P h vs (ns.map WData.int)->IntsAre vs ns:=by
 intro ns
 induction ns with
 | nil=>
  intro vs w;rw [List.map_nil] at w;cases w;exact .nil
 | cons n ns ih=>
  intro vs w;rw [LP] at w;cases w with
  | cons a b=>
   cases a;exact .cons _ _ (ih _ b)
theorem yt {l:OpenLaw} {n:Nat} (hn:l.most=some n) {P:Params} {h:MX} {args:List WData} {vals:List MQ}
  (hpre:l.row.toRowW.claim.pre args=true) (hwl:WellAll P h vals args):
  ∃ a vs ns,vals=[Value.ref a]/\args=[WData.list (ns.map WData.int)]/\h.get? a=some {cls:=.type "list",data:=.seq vs.toArray}/\IntsAre vs ns/\ns.length<=n:=by
 have hsh:WShape.hasAll [] args [.list .int]=true:=(pre_splitW hpre).1;have hc:l.pre.holds [] {args:=args}=true:=(pre_splitW hpre).2;obtain⟨d,r,rfl,h1,h2⟩:=hasAllW_cons hsh;obtain rfl:=hasAllW_nil h2;obtain⟨xs,rfl,h3⟩:=hasW_list h1;obtain⟨ns,rfl⟩:=items_int h3;have hlen:ns.length<=n:=by
  unfold OpenLaw.pre at hc;have h4:(WTm.not (.lt (.lit (.int (n:Int))) (.len (.arg 0)))).holds [] {args:=[.list (ns.map .int)]}=true:=by
   have h4:=(holds_andW hc).1;rw [hn] at h4;exact h4
  have h5:=condW_of h4 (w_not (w_lt w_lit (w_len_list (w_arg rfl))));rw [LG] at h5;refine Nat.le_of_not_lt λq=>?_
  have q':(n:Int) < ((ns.length:Nat):Int):=by omega
  first
   | (rw [decide_eq_true q'] at h5; exact absurd h5 (by decide))
   | (simp at h5; omega)
 cases hwl with
 | cons w1 w2=>
  cases w2;cases w1 with
  | list ho hall=>exact⟨_,_,ns,rfl,rfl,ho,ou ns _ hall,hlen⟩
theorem yY (l:OpenLaw) (args:List WData):l.row.toRowW.claim.post args (.bool true) args=true:=
 postW_of (r:=l.row.toRowW) (X:=(true == true))
  (show WShape.has [] (.bool true) .bool=true by first | rfl | decide | simp [WShape.has,WShape.arms,WShape.armsAll])
  (show (WTm.eq .res (.lit (.bool true))).value [] {args:=args,res:=some (.bool true),after:=args}=some (.bool (true == true)) from w_eq_bool (w_res rfl) w_lit) rfl
theorem attach_call {l:OpenLaw} {n:Nat} {q:MU} {loose:List Str} {XP:(Str->MS MQ)->MX->Prop} {YP:MW->MX->Prop} {d:DefRec}
  (hn:l.most=some n) (hdf:d.params.defaults=[])
  (call:∀ (w:MW) (s₀ s₁:MP) (mg mb:Str->MS MQ) (fa:MR) (o:M5) (pm cd doc:MQ) (a:MR) (vs:List MQ) (ns:List Int),
   Ground q loose [] XP w s₀ mg mb s₁.heap->YP w s₁.heap->
   s₁.heap.get? fa=some o->o.data=.func (docDef d.name d.params d.body d.scope pm cd doc)->s₁.heap.CodeRec cd d.name->mg d.name=some (.ref fa)->
   s₁.heap.get? a=some {cls:=.type "list",data:=.seq vs.toArray}->IntsAre vs ns->ns.length<=n->s₁.gens=#[]->
   codeAny (model l.prog w) callerA (.call (.ref fa) ⟨[.ref a],[]⟩) (λr s'=>r=.ok (.ret (.bool true))/\OldK s₁.heap s'.heap/\s'.os=s₁.os/\AllBare s'.gens) s₁):
  WalkO q loose XP YP l.row.toRowW d [] (λf vs=>PySem.call f vs):=by
 intro w s₀ s₁ mg mb G Y fa o pm cd doc dV kV ho hd hcd hD hmg hg args vals as hpre hlay hrd hwl hlo;obtain rfl:dV=.none:=Dflts.none hD hdf;obtain rfl:kV=.none:=Dflts.noKw hD;obtain⟨a,vs,ns,rfl,rfl,hobj,hints,hlen⟩:=yt hn hpre hwl;refine enter_call (codeAny_mono (call w s₀ s₁ mg mb fa o pm cd doc a vs ns G Y ho (fd_plain hd) hcd hmg hobj hints hlen hg) λr s' hq=>?_)
 obtain⟨rfl,h2,h3,h4⟩:=hq;exact⟨.inl ⟨.bool true,.bool true,[],rfl,λ_=>rfl,.bool true,yY l _,λ_=>⟨List.Pairwise.nil,λ_ hm=>(nomatch hm)⟩⟩,h2,h3,h4⟩
section
variable {prog:MU} {w:MW} {A:MV} {E:MQ->MP->Prop} {s:MP} {K:Frag}
def JZ (h:MX) (L d:MR):List (MR×M5):=(List.range h.objs.size).filterMap λa=>if a=L\/a=d then none else(h.get? a).map λo=>(a,o)
end
end Att
namespace L2
open PySem PySem.Spec PyProof.Rows
theorem rO:∀ {vs:List MQ} {ns:List Int},IntsAre vs ns->aV (ns.map V.int) vs
 | _,_,.nil=>.nil
 | _,_,.cons n t h=>.cons ⟨t,rfl⟩ (rO h)
abbrev Lv {K:PySem.W.Frag} {h:MX} (_:K.In h):PySem.W.Frag:=K
def eR (s:MY):Arguments:=match s with
 | .FunctionDef _ a _ _ _ _ _ _ _ _=>a
 | _=>{posonlyargs:=[],args:=[],vararg:=none,kwonlyargs:=[],kw_defaults:=[],kwarg:=none,defaults:=[]}
def dh (s:MY):List MY:=match s with
 | .FunctionDef _ _ b _ _ _ _ _ _ _=>b
 | _=>[]
def ap (s:MY):Scope:=match s with
 | .FunctionDef _ _ _ _ _ _ sc _ _ _=>sc
 | _=>{kind:=.function,names:=[],isGenerator:=false,isCoroutine:=false}
abbrev c8:Cm:=λ_ _ _ _ _ _=>False
abbrev E0:XK:=λ_ _ _=>False
theorem IX {X:Cx}:wx c8 X E0:=λ_ _ _ _ _ _ _ h=>h.elim
structure yP (K:PySem.W.Frag) (x M7:Str) (st:MY) (f:MR) (fd:FuncData):Prop where
 ex:∃ (oc:MQ) (od:MS MR) (kV doc pm:MQ) (an:MS MR) (cdv ct:MQ) (osl:MZ (MS MQ)),
  fd=PySem.W.fnOf x M7 (eR st) (dh st) (ap st) .none kV doc pm an cdv ct/\K.lookup f=some ⟨oc,od,.func fd,osl⟩/\PySem.W.codeIn K cdv M7=true
 kp:PySem.W.keepIn K (.ref f)=true
section
variable {P:MU} {w:MW} {K:PySem.W.Frag} {mg:Str->MS MQ} {base:MX}
theorem yP.ok {x M7:Str} {st:MY} {f:MR} {fd:FuncData} {N ps:List Str} {k:Nat} {sp:Sp} (F:yP K x M7 st f fd) (S:au N ps (ap st)) (len:∀ vs H Q E,sp vs H Q E->vs.length=ps.length)
  (hbody:∀ (cdv:MQ) (A:MV) (outer:List Env) (s:MP) (H:Hp) (vs:List V) (Q:VK) (E:XK),cI k (A.deeper (envOfC M7 (ap st) s.heap.objs.size f cdv))->sp vs H Q E->
   ∃ t,q9 (u5 c8 P w K mg base N M7 (ap st) f cdv A outer s H E).nox (dh st) t/\t {nx:=λ_ H'=>Q .non H',rt:=Q} (start N vs) H):aT P w K mg base c8 (k+1) f fd ps sp:=by
 obtain⟨oc,od,kV,doc,pm,an,cdv,ct,osl,rfl,lk,hcd⟩:=F.ex;refine IQ lk hcd S len λA outer s H vs Q E hr hsp=>?_
 obtain⟨t,h,q⟩:=hbody cdv A outer s H vs Q E hr hsp;exact⟨t,h.nox,q⟩
theorem yP.binds {x M7:Str} {st:MY} {f:MR} {fd:FuncData} {ps:List Str} (F:yP K x M7 st f fd)
  (h:∀ (kV doc pm:MQ) (an:MS MR) (cdv ct:MQ) (us:List MQ),us.length=ps.length->bindArgs (PySem.W.fnOf x M7 (eR st) (dh st) (ap st) .none kV doc pm an cdv ct) ⟨us,[]⟩=pure (ps.zip us)):pI K fd ps []:=by
 obtain⟨oc,od,kV,doc,pm,an,cdv,ct,osl,rfl,lk,hcd⟩:=F.ex;exact .all (h kV doc pm an cdv ct)
theorem zA {x M7:Str} {st:MY} {f:MR} {oc:MQ} {od an:MS MR} {osl:MZ (MS MQ)} {kV doc pm cdv ct:MQ} (l:K.lookup f=some ⟨oc,od,.func (PySem.W.fnOf x M7 (eR st) (dh st) (ap st) .none kV doc pm an cdv ct),osl⟩)
  (c:PySem.W.codeIn K cdv M7=true) (k:PySem.W.keepIn K (.ref f)=true):yP K x M7 st f (PySem.W.fnOf x M7 (eR st) (dh st) (ap st) .none kV doc pm an cdv ct):=⟨⟨oc,od,kV,doc,pm,an,cdv,ct,osl,rfl,l,c⟩,k⟩
end
theorem BH {A B:Prop} (h:B):if false=true then A else B:=by
 rw [if_neg LH];exact h
theorem Fe {A B:Prop} (h:A):if true=true then A else B:=by
 rw [if_pos rfl];exact h
end L2
namespace HM
theorem uf (a b:Int):Int.gcd b (a.fmod b)=Int.gcd a b:=by
 have h:=Int.gcd_sub_mul_right_right b a (a.fdiv b);rw [Int.fmod_def,Int.mul_comm b,h,Int.gcd_comm]
theorem xK (a b:Int) (h:b≠0):(a.fmod b).natAbs < b.natAbs:=by
 rcases Int.lt_or_gt_of_ne h with hb | hb
 ·have e:a.fmod b=-((-a).fmod (-b)):=by rw [Int.neg_fmod_neg,Int.neg_neg]
  have h1:=Mr (-a) (show 0 < -b by omega)
  have h2:=MI (-a) (show 0 < -b by omega)
  omega
 ·have h1:=Mr a hb;have h2:=MI a hb;omega
theorem vi (a:Int):((Int.gcd a 0:Nat):Int)=if a < 0 then -a else a:=by
 rw [Int.gcd_zero_right]
 split <;> omega
def ze (t b:Int):Int:=if b < 0 then -((Int.gcd t b:Nat):Int) else((Int.gcd t b:Nat):Int)
theorem zu {t b:Int} (h:b≠0):ze t b≠0:=by
 have h1:Int.gcd t b≠0:=λe=>h (Int.gcd_eq_zero_iff.mp e).2
 unfold ze
 split <;> omega
theorem so {t b:Int} (h:b≠0):t.fdiv (ze t b)=(Rat.divInt t b).num:=by
 have hg:((Int.gcd t b:Nat):Int) ∣ t:=Int.gcd_dvd_left t b;rw [Rat.num_divInt,Int.gcd_comm b t];unfold ze;rcases Int.lt_or_gt_of_ne h with hb | hb
 ·rw [if_pos hb,Int.sign_eq_neg_one_of_neg hb,Int.fdiv_eq_ediv_of_dvd (Int.neg_dvd.mpr hg),Int.ediv_neg,Int.neg_mul,Int.one_mul,Int.neg_ediv_of_dvd hg]
 ·rw [if_neg (by omega),Int.sign_eq_one_of_pos hb,Int.fdiv_eq_ediv_of_dvd hg,Int.one_mul]
theorem sV {t b:Int} (h:b≠0):b.fdiv (ze t b)=((Rat.divInt t b).den:Int):=by
 have hg:((Int.gcd t b:Nat):Int) ∣ b:=Int.gcd_dvd_right t b;rw [Rat.den_divInt,Int.gcd_comm b t,if_neg h];unfold ze;rcases Int.lt_or_gt_of_ne h with hb | hb
 ·rw [if_pos hb,Int.fdiv_eq_ediv_of_dvd (Int.neg_dvd.mpr hg),Int.ediv_neg,Int.natCast_ediv];rw [show ((b.natAbs:Nat):Int)=-b by omega,Int.neg_ediv_of_dvd hg]
 ·rw [if_neg (by omega),Int.fdiv_eq_ediv_of_dvd hg,Int.natCast_ediv]
  rw [show ((b.natAbs:Nat):Int)=b by omega]
theorem jo (a b:Rat):Rat.divInt (a.num*b.den+b.num*a.den) (a.den*b.den)=a+b:=by
 rw [Rat.add_def',Rat.mkRat_eq_div,Me]; simp [Rat.intCast_natCast]
theorem vK (a b:Rat):Rat.divInt (a.num*b.den - b.num*a.den) (a.den*b.den)=a - b:=by
 rw [Rat.sub_def',Rat.mkRat_eq_div,Me]; simp [Rat.intCast_natCast]
theorem c6 (a b:Rat):Rat.divInt (a.num*b.num) (a.den*b.den)=a*b:=by
 rw [Rat.mul_def',Rat.mkRat_eq_div,Me]; simp [Rat.intCast_natCast]
theorem B' (a b:Rat):Rat.divInt (a.num*b.den) (a.den*b.num)=a / b:=by
 rw [Rat.div_def,<- Rat.num_divInt_den b,Rat.inv_divInt]
 conv=>rhs; rw [<- Rat.num_divInt_den a]
 rw [Rat.divInt_mul_divInt,Rat.num_divInt_den]
def Bt (n:Nat) (x:Int):Prop:=x.natAbs < 2 ^ n
theorem vW {m n:Nat} (h:m<=n):2 ^ m<=2 ^ n:=Nat.pow_le_pow_right (by decide) h
theorem Bt.mono {m n:Nat} {x:Int} (h:Bt m x) (hm:m<=n:=by first|decide|omega):Bt n x:=LN h (vW hm)
theorem Bt.mul {m n:Nat} {x y:Int} (hx:Bt m x) (hy:Bt n y):Bt (m+n) (x*y):=by
 unfold Bt at*
 rw [MC,Nat.pow_add];exact Nat.mul_lt_mul'' hx hy
theorem Bt.add {m n:Nat} {x y:Int} (hx:Bt m x) (hy:Bt n y):Bt (max m n+1) (x+y):=by
 have h1:=hx.mono (Nat.le_max_left m n);have h2:=hy.mono (Nat.le_max_right m n);unfold Bt at*
 have:=Int.natAbs_add_le x y;rw [Nat.pow_succ];omega
theorem Bt.neg {m:Nat} {x:Int} (hx:Bt m x):Bt m (-x):=by unfold Bt at *; omega
theorem Bt.sub {m n:Nat} {x y:Int} (hx:Bt m x) (hy:Bt n y):Bt (max m n+1) (x - y):=by
 rw [Int.sub_eq_add_neg]; exact hx.add hy.neg
theorem Bt.le {m:Nat} {x y:Int} (hx:Bt m x) (h:y.natAbs<=x.natAbs):Bt m y:=Nat.lt_of_le_of_lt h hx
structure Sz (n:Nat) (q:Rat):Prop where
 num:Bt n q.num
 den:Bt n q.den
theorem Sz.mono {m n:Nat} {q:Rat} (h:Sz m q) (hm:m<=n:=by first|decide|omega):Sz n q:=⟨h.num.mono hm,h.den.mono hm⟩
theorem aN:∀ a b:Int,(a.fdiv b).natAbs<=a.natAbs
 | .ofNat 0,b=>by
  have e:Int.fdiv (.ofNat 0) b=0:=Int.zero_fdiv b;rw [e]; exact Mw _
 | .ofNat (k+1),.ofNat j=>Nat.div_le_self (k+1) j
 | .ofNat (k+1),.negSucc j=>Nat.succ_le_succ (Nat.div_le_self k (j+1))
 | .negSucc _,.ofNat 0=>Mw _
 | .negSucc k,.ofNat (j+1)=>Nat.succ_le_succ (Nat.div_le_self k (j+1))
 | .negSucc k,.negSucc j=>Nat.div_le_self (k+1) (j+1)
theorem Sz.divInt {n:Nat} {t b:Int} (ht:Bt n t) (hb:Bt n b) (h:b≠0):Sz n (Rat.divInt t b):=
 ⟨by rw [<- so h]; exact ht.le (aN _ _),by rw [<- sV h]; exact hb.le (aN _ _)⟩
theorem iQ (q:Rat):(q.den:Int)≠0:=by have:=q.den_nz; omega
theorem az (p q:Rat):(p.den:Int)*q.den≠0:=Int.mul_ne_zero (iQ p) (iQ q)
theorem Sz.add {m n:Nat} {a b:Rat} (ha:Sz m a) (hb:Sz n b):Sz (m+n+1) (a+b):=by
 rw [<- jo];refine .divInt ?_ ?_ (az a b)
 ·exact((ha.num.mul hb.den).add (hb.num.mul ha.den)).mono
 ·exact(ha.den.mul hb.den).mono
theorem Sz.sub {m n:Nat} {a b:Rat} (ha:Sz m a) (hb:Sz n b):Sz (m+n+1) (a - b):=by
 rw [<- vK];refine .divInt ?_ ?_ (az a b)
 ·exact((ha.num.mul hb.den).sub (hb.num.mul ha.den)).mono
 ·exact(ha.den.mul hb.den).mono
theorem Sz.mul {m n:Nat} {a b:Rat} (ha:Sz m a) (hb:Sz n b):Sz (m+n) (a*b):=by
 rw [<- c6];exact .divInt (ha.num.mul hb.num) (ha.den.mul hb.den) (az a b)
theorem vI {q:Rat} (h:q≠0):q.num≠0:=λe=>h (MM.mp e)
theorem Sz.div {m n:Nat} {a b:Rat} (ha:Sz m a) (hb:Sz n b) (h:b≠0):Sz (m+n) (a / b):=by
 rw [<- B'];exact .divInt (ha.num.mul hb.den) (ha.den.mul hb.num) (Int.mul_ne_zero (iQ a) (vI h))
theorem Sz.neg {m:Nat} {a:Rat} (ha:Sz m a):Sz m (-a):=⟨by rw [Rat.neg_num]; exact ha.num.neg,by rw [Rat.neg_den]; exact ha.den⟩
theorem EA (a:Int) {b:Int} (h:0 < b):a.fdiv b=a / b:=Int.fdiv_eq_ediv_of_nonneg a (by omega)
abbrev vk (a:Int):Int:=if a < 0 then -a else a
theorem xu (a:Int):0<=vk a:=by unfold vk; split <;> omega
theorem fG (r:Rat):0<=r*r:=by
 rcases Rat.le_total (a:=0) (b:=r) with h | h
 ·exact Rat.mul_nonneg h h
 ·have:0<=-r:=by grind
  have:=Rat.mul_nonneg this this;grind
theorem iq (w:Rat):(w.num:Rat)=w*(w.den:Rat):=by
 have h:=Rat.num_divInt_den w;rw [Me,Rat.intCast_natCast] at h;have hd:(w.den:Rat)≠0:=by
  have:=w.den_nz;exact λe=>this (by exact_mod_cast e)
 grind
theorem wm (w:Rat):(w.den:Rat)≠0:=by
 have:=w.den_nz;exact λe=>this (by exact_mod_cast e)
def ab (b:Rat):Rat:=if b < 0 then -b else b
def ss (b:Rat):Rat:=b*ab b
def sg (p q:Rat):Rat:=if q < 0 then -p else p
def KP (q:Rat):Int:=if 0 < q then 1 else if q < 0 then -1 else 0
def Lw (a b u:Rat):Int:=if 0 < a*a - b*b*u then KP a else KP b
def Hy (b d:Rat):Rat:=if b=0 then d else b
theorem Sz.zero:Sz 1 0:=⟨by show(0:Int).natAbs < 2 ^ 1; decide,by show((1:Nat):Int).natAbs < 2 ^ 1; decide⟩
end HM
namespace L2
open PySem PySem.Spec PyProof.Rows
theorem sF (elt target iter:MT) (scope:Scope) (pos:Pos) (it acc:MQ) (env:Env):
  compTurn (.ListComp elt [⟨target,iter,[],0⟩] scope pos) 0 it acc env=(standAt iter.pos >>= λ_=>pyNext it >>= λr=>match r with
   | none=>pure (.done .next)
   | some v=>letOwnedTupleGo target it v >>= λ_=>assign target env v >>= λ_=>
    (eval elt env >>= λx=>call (.builtin "list.append") [acc,x] >>= λ_=>pure ()) >>= λ_=>
     again (.compLoop (.ListComp elt [⟨target,iter,[],0⟩] scope pos) 0 it acc env)):=by rfl
section
variable {prog:MU} {w:MW} {A:MV} {R:Result->MP->Prop} {s:MP}
abbrev qC:MQ->MP->Prop:=λ_ _=>False
theorem AE {α:Type} {M:Model} {A:MV} {t:Sem α} {Q:α->MP->Prop} {E:MQ->MP->Prop} {s:MP} (h:wpAny M A t Q qC s):wpAny M A t Q E s:=Mg h (λ_ _ q=>q) λ_ _ z=>z.elim
theorem mN {elt target iter:MT} {scope:Scope} {pos:Pos} {it acc:MQ} {env:Env} (I:Nat->MP->Prop)
  (turn:∀ n s,I n s->wpAny (model prog w) A (pyNext it) (λr s1=>match r with
   | none=>R (.ok .next) s1
   | some v=>wpAny (model prog w) A (letOwnedTupleGo target it v) (λ_ s2=>wpAny (model prog w) A (assign target env v) (λ_ s3=>wpAny (model prog w) A (eval elt env) (λx s4=>
     wpAny (model prog w) A (call (.builtin "list.append") [acc,x]) (λ_ s5=>∃ m,m < n/\I m s5) qC s4) qC s3) qC s2) qC s1) qC s)
  (n:Nat) (h:I n s):codeAny (model prog w) A (.compLoop (.ListComp elt [⟨target,iter,[],0⟩] scope pos) 0 it acc env) R s:=by
 refine codeAny_loop rfl I (λn s hI=>?_) n h
 show wpAny _ _ ((compTurn (.ListComp elt [⟨target,iter,[],0⟩] scope pos) 0 it acc env).onRaise (λx=>do noteFrame x env; theTreesLotGoes x)) _ _ s
 refine wpAny_noted ?_;rw [sF];refine gt (wpAny_standAt (gt (AE (Mg (turn n s hI) (λr s1 h1=>?_) λ_ _ z=>z))))
 cases r with
 | none=>exact Lz h1
 | some v=>
  exact gt (AE (cR h1 λ_ s2 h2=>gt (AE (cR h2 λ_ s3 h3=>gt (gt (AE (cR h3 λx s4 h4=>gt (AE (cR h4 λ_ s5 h5=>Lz (Lz ⟨rfl,h5⟩))))))))))
theorem ox {M:Model} {A:MV} {E:MQ->MP->Prop} {c:MT} {env:Env} {Q:M1->MP->Prop} {s:MP} (h:wpAny M A (PySem.isTrue c env (eval c env)) Q E s):
  wpAny M A (forIn [c] true λc r=>if r=true then do let ok <- PySem.isTrue c env (eval c env); pure (ForInStep.yield ok) else pure (ForInStep.yield r)) Q E s:=by
 rw [List.forIn_cons];refine gt ?_;rw [if_pos rfl];refine gt (cR h λok s1 q=>Lz ?_)
 show wpAny M A (forIn [] ok _) Q E s1
 rw [List.forIn_nil];exact Lz q
theorem mU {elt target iter c:MT} {scope:Scope} {pos:Pos} {it acc:MQ} {env:Env} (I:Nat->MP->Prop)
  (turn:∀ n s,I n s->wpAny (model prog w) A (pyNext it) (λr s1=>match r with
   | none=>R (.ok .next) s1
   | some v=>wpAny (model prog w) A (letOwnedTupleGo target it v) (λ_ s2=>wpAny (model prog w) A (assign target env v) (λ_ s3=>wpAny (model prog w) A (isTrue c env (eval c env)) (λb s3'=>
     if b=true then wpAny (model prog w) A (eval elt env) (λx s4=>wpAny (model prog w) A (call (.builtin "list.append") [acc,x]) (λ_ s5=>∃ m,m < n/\I m s5) qC s4) qC s3'
     else ∃ m,m < n/\I m s3') qC s3) qC s2) qC s1) qC s)
  (n:Nat) (h:I n s):codeAny (model prog w) A (.compLoop (.ListComp elt [⟨target,iter,[c],0⟩] scope pos) 0 it acc env) R s:=by
 refine codeAny_loop rfl I (λn s hI=>?_) n h
 show wpAny _ _ ((compTurn (.ListComp elt [⟨target,iter,[c],0⟩] scope pos) 0 it acc env).onRaise (λx=>do noteFrame x env; theTreesLotGoes x)) _ _ s
 refine wpAny_noted ?_;rw [compTurn_list];refine gt (wpAny_standAt (gt (AE (Mg (turn n s hI) (λr s1 h1=>?_) λ_ _ z=>z))))
 cases r with
 | none=>exact Lz h1
 | some v=>
  refine gt (AE (cR h1 λ_ s2 h2=>gt (AE (cR h2 λ_ s3 h3=>gt (ox (AE (cR h3 λb s3' h3'=>?_)))))))
  cases b with
  | true=>
   rw [if_pos rfl] at h3' ⊢;exact gt (gt (AE (cR h3' λx s4 h4=>gt (AE (cR h4 λ_ s5 h5=>Lz (Lz ⟨rfl,h5⟩))))))
  | false=>
   rw [if_neg LH] at h3' ⊢;exact Lz ⟨rfl,h3'⟩
end
def fI (X:Cx) (scope:Scope) (cl:List (Str×MR)) (N:List Str) (s0:MP) (H0:Hp) (ex:List MR) (C:MR):Cx where
 prog:=X.prog
 w:=X.w
 K:=X.K
 mg:=X.mg
 base:=X.base
 A:=X.A
 N:=N
 s₀:=s0
 H₀:=H0
 env:=compEnvC scope cl C X.env
 outer:=X.stack
 stack:=X.stack
 ex:=ex
 fn:=λ_=>false
 calm:=X.calm
 pn:=[]
 xe:=qC
structure cZ (X:Cx) (scope:Scope) (cl:List (Str×MR)) (N:List Str) (cap:List (MS Nat)):Prop where
 kind:scope.kind=.function
 clos:closureFor scope X.env=pure cl
 nocell:(scope.names.all λy=>y.2 != NameKind.cell)=true
 names:(scope.names.all λy=>y.2 != NameKind.local || scope.names.lookup y.1 == some NameKind.local)=true
 sub:∀ p∈cl,X.env.cells.lookup p.1=some p.2
 has:((relabel scope X.env).names.all λy=>(y.2 != NameKind.cell && y.2 != NameKind.free) || (cl.lookup y.1).isSome)=true
 len:cap.length=N.length
 caps:∀ (i j:Nat) (x:Str),cap[i]?=some (some j)->N[i]?=some x->X.N[j]?=some x/\(X.env.scope.names.lookup x=some .cell\/X.env.scope.names.lookup x=some .free)/\((relabel scope X.env).names.lookup x=some .cell\/(relabel scope X.env).names.lookup x=some .free)
def kU (cap:List (MS Nat)) (σ:St):St:=cap.map λo=>match o with
 | some j=>(σ[j]?).join
 | none=>none
theorem yk {cap:List (MS Nat)} {σ:St} {i:Nat} {v:V} (h:(kU cap σ)[i]?=some (some v)):∃ j,cap[i]?=some (some j)/\σ[j]?=some (some v):=by
 unfold kU at h;rw [L8] at h;cases e:cap[i]? with
 | none=>rw [e] at h; cases h
 | some o=>
  rw [e] at h;cases o with
  | none=>cases h
  | some j=>
   refine⟨j,rfl,?_⟩;have h:(σ[j]?).join=some v:=Ma h;cases e2:σ[j]? with
   | none=>rw [e2] at h; cases h
   | some q=>rw [e2] at h; exact congrArg some h
theorem fC {X:Cx} {cl:List (Str×MR)} (h:∀ p∈cl,X.env.cells.lookup p.1=some p.2) {x:Str} {c:MR} (e:cl.lookup x=some c):X.env.cells.lookup x=some c:=h (x,c) (Ml e)
theorem BO {X:Cx} {scope:Scope} {cl:List (Str×MR)} {N:List Str} {cap:List (MS Nat)} (Sc:cZ X scope cl N cap) {M6:List (MR×M5)} {σ:St} {H:Hp} {s:MP} {fp:List MR} (I:aD X M6 σ H s)
  (hf:∀ b∈fp,kS X M6 H b) (ho:∀ b∈fp,∃ o,s.heap.get? b=some o) {h1 h1':MX} {m:Str->MS MQ} {tk:Nat} {ob:M5}
  (hD:s.heap.push {cls:=.type "list",data:=.seq ([]:List MQ).toArray}=h1') (hns:h1.Ns h1'.objs.size m) (hsb:Heap.SameBut h1'.objs.size (h1'.push ob) h1):
  aD (fI X scope cl N {s with heap:=h1'} (cF H s.heap.objs.size (.lst [])) fp h1'.objs.size) [] (kU cap σ) (cF H s.heap.objs.size (.lst [])) {s with heap:=h1,toks:=tk}/\
   Un (rj X.stack) fp H (cF H s.heap.objs.size (.lst [])) s.heap h1':=by
 have hC:h1'.objs.size=s.heap.objs.size+1:=by rw [<- hD,Heap.size_push]
 have k1:∀ b o,s.heap.get? b=some o->h1'.get? b=some o:=λb o e=>by rw [<- hD]; exact Ly _ e
 have k2:∀ b o,h1'.get? b=some o->h1.get? b=some o:=λb o e=>(hsb.2 b (LK (LC e))).trans (Ly _ e)
 have hHn:H s.heap.objs.size=none:=I.hok.fresh (LD _);have neD:∀ b o,s.heap.get? b=some o->b≠s.heap.objs.size:=λb o e=>LK (LC e)
 have un1:Un (rj X.stack) fp H (cF H s.heap.objs.size (.lst [])) s.heap h1':=Un.laid k1 (LD _) hHn;have new:dY X.prog X.w (cF H s.heap.objs.size (.lst [])) h1' s.heap.objs.size (.lst []):=⟨Mw _,[],0,.nil,by rw [<- hD]; exact LA _ rfl⟩
 have hok1:n9 X.prog X.w (cF H s.heap.objs.size (.lst [])) h1':=I.hok.laid k1 (LD _) new;have fsub:∀ b∈fp,b∉rj X.stack:=λb hb z=>by
  obtain⟨_,f1,f2,_⟩:=hf b hb;rcases LJ.mp (I.stkSub b z) with e | e
  ·exact f1 e
  ·exact f2 e
 have cellK:∀ x c,cl.lookup x=some c->∃ v,s.heap.IsCell c v:=λx c e=>I.cell x c (fC Sc.sub e)
 refine⟨⟨⟨I.ok.mod,?_,I.ok.glob,I.ok.blt,LD _,λx y c e1 e2=>I.ok.inj x y c (fC Sc.sub e1) (fC Sc.sub e2),λx hx=>?_,λx c z=>(by cases z),I.ok.hd,I.ok.frames,.inl rfl,λb hb=>⟨?_,λx c e=>?_⟩,λb o e=>⟨?_,?_⟩,?_,λb o e hb=>?_,fsub,?_,λb hb=>?_⟩,
  rfl,I.bare,Un.kept k2,⟨m,hns,λi x v e1 e2 e3=>?_⟩,λx c e=>?_,?_,λx c e=>?_,λp hp=>absurd hp (by simp [fI]),hok1.kept k2,?_⟩,un1⟩
 ·exact Sc.kind
 ·have hx:(relabel scope X.env).names.lookup x=some .cell\/(relabel scope X.env).names.lookup x=some .free:=hx;have ha:=MA.mp Sc.has
  show ∃ c,cl.lookup x=some c
  rcases hx with hx | hx
  ·have:=ha _ (Ml hx);exact ML.mp (by simpa using this)
  ·have:=ha _ (Ml hx);exact ML.mp (by simpa using this)
 ·obtain⟨o,e⟩:=ho b hb;have:=LC e
  show b≠h1'.objs.size
  rw [hC];exact LK (Nat.lt_succ_of_lt this)
 ·exact(hf b hb).2.2.2.2.1 x c (fC Sc.sub e)
 ·exact k1 b o (I.bk b o e)
 ·show cF H s.heap.objs.size (.lst []) b=none
  rw [aO (neD b o (I.bk b o e))];exact(I.bs b o e).2
 ·show X.base.objs.size<=h1'.objs.size
  rw [hC];exact Nat.le_succ_of_le (Mi I.ok.bsz I.sz)
 ·obtain⟨_,_,_,f3,_⟩:=hf b hb;rcases f3 with f3 | f3
  ·exact I.ok.noex b o e f3
  ·have q1:=LC e;have q2:=I.ok.bsz;exact absurd (LN q1 (Mi q2 f3)) (Mz _)
 ·exact I.stack.of_keeps λb o e _=>⟨o,k1 b o e,rfl⟩
 ·show cF H s.heap.objs.size (.lst []) b=none
  obtain⟨_,o,e,_⟩:=I.stack.mem hb;rw [aO (neD b o e)];exact I.stkFree b hb
 ·obtain⟨j,c1,c2⟩:=yk e2;obtain⟨d1,d2,d3⟩:=Sc.caps i j x c1 e1;obtain⟨m0,_,l0⟩:=I.loc;obtain⟨u,ru,lk⟩:=l0 j x v d1 c2 (d2.elim (λz=>.inr (.inl z)) λz=>.inr (.inr z))
  refine⟨u,ru,.inr ⟨d3,?_⟩⟩;rcases lk with ⟨z,_⟩ | ⟨_,c,z1,z2⟩
  ·have z:X.env.scope.names.lookup x=some .local:=z;rcases d2 with q | q <;> (rw [q] at z; cases z)
  ·have ha:=MA.mp Sc.has;have hs:∃ c',cl.lookup x=some c':=by
    rcases d3 with q | q
    ·exact ML.mp (by simpa using ha _ (Ml q))
    ·exact ML.mp (by simpa using ha _ (Ml q))
   obtain⟨c',q⟩:=hs;have q2:=fC Sc.sub q;rw [z1] at q2;cases q2;obtain⟨o,e,d⟩:=z2;exact⟨c,q,o,k2 _ _ (k1 _ _ e),d⟩
 ·obtain⟨v,o,e1,d⟩:=cellK x c e;exact⟨v,o,k2 _ _ (k1 _ _ e1),d⟩
 ·show cF H s.heap.objs.size (.lst []) h1'.objs.size=none
  rw [hC,aO (Nat.succ_ne_self _)];exact I.hok.fresh (Nat.le_succ _)
 ·obtain⟨v,o,e1,d⟩:=cellK x c e
  show cF H s.heap.objs.size (.lst []) c=none
  rw [aO (neD c o e1)];exact I.freeC x c (fC Sc.sub e)
 ·show(kU cap σ).length=N.length
  unfold kU;rw [LG];exact Sc.len
def B9 (cap:List (MS Nat)) (wi:TI) (g:TG) (te:TE):TE:=fun σ H Q=>wi σ H λJ H1=>∀ D,H1 D=none->∃ W:Nat->Nat->St->Hp->Prop,(∃ m,W 0 m (kU cap σ) (cF H1 D (.lst [])))/\∀ i m σ' H',W i m σ' H'->
 (J.stop i H'/\Q (.ref D) H')\/(J.go i H'/\∃ N:St->Hp->Prop,(∀ σ2 H2,N σ2 H2->∃ m',m' < m/\W (i+1) m' σ2 H2)/\∀ x H2,J.yld i H' x H2->g x σ' H2 fun σ3 H3=>te σ3 H3 λv H4=>∃ ys,H4 D=some (.lst ys)/\ys.length < sizeLine/\N σ3 (cF H4 D (.lst (ys++[v]))))
def tG (cap:List (MS Nat)) (wi:TI) (g:TG) (tc:TT) (te:TE):TE:=fun σ H Q=>wi σ H λJ H1=>∀ D,H1 D=none->∃ W:Nat->Nat->St->Hp->Prop,(∃ m,W 0 m (kU cap σ) (cF H1 D (.lst [])))/\∀ i m σ' H',W i m σ' H'->
 (J.stop i H'/\Q (.ref D) H')\/(J.go i H'/\∃ N:St->Hp->Prop,(∀ σ2 H2,N σ2 H2->∃ m',m' < m/\W (i+1) m' σ2 H2)/\∀ x H2,J.yld i H' x H2->g x σ' H2 fun σ3 H3=>tc σ3 H3 λb H3'=>if b=true then te σ3 H3' λv H4=>∃ ys,H4 D=some (.lst ys)/\ys.length < sizeLine/\N σ3 (cF H4 D (.lst (ys++[v]))) else N σ3 H3')
def Gx (cap:List (MS Nat)) (wi:TI) (g:TG) (bt:MR->(St->Hp->Prop)->St->Hp->Prop) (σ:St) (H:Hp) (Q:MR->Hp->Prop):Prop:=wi σ H λJ H1=>∀ D,H1 D=none->∃ W:Nat->Nat->St->Hp->Prop,(∃ m,W 0 m (kU cap σ) (cF H1 D (.lst [])))/\∀ i m σ' H',W i m σ' H'->
 (J.stop i H'/\Q D H')\/(J.go i H'/\∃ N:St->Hp->Prop,(∀ σ2 H2,N σ2 H2->∃ m',m' < m/\W (i+1) m' σ2 H2)/\∀ x H2,J.yld i H' x H2->g x σ' H2 (bt D N))
abbrev JD (te:TE) (D:MR) (Nn:St->Hp->Prop) (σ:St) (H:Hp):Prop:=te σ H λv H4=>∃ ys,H4 D=some (.lst ys)/\ys.length < sizeLine/\Nn σ (cF H4 D (.lst (ys++[v])))
abbrev JO (tc:TT) (te:TE) (D:MR) (Nn:St->Hp->Prop) (σ:St) (H:Hp):Prop:=tc σ H λb H'=>if b=true then JD te D Nn σ H' else Nn σ H'
abbrev JE (X:Cx) (elt:MT) (env:Env) (a:MQ) (K:MP->Prop) (s:MP):Prop:=wpAny (model X.prog X.w) X.A (eval elt env) (λx s4=>wpAny (model X.prog X.w) X.A (call (.builtin "list.append") [a,x]) (λ_ s5=>K s5) qC s4) qC s
abbrev Kw (X:Cx) (c elt:MT) (env:Env) (a:MQ) (K:MP->Prop) (s:MP):Prop:=wpAny (model X.prog X.w) X.A (isTrue c env (eval c env)) (λb s3=>if b=true then JE X elt env a K s3 else K s3) qC s
section
variable {X:Cx} {elt tg iter c:MT} {scope:Scope} {cl:List (Str×MR)} {N:List Str} {cap:List (MS Nat)} {pos:Pos} {wi:TI} {g:TG} {te:TE} {tc:TT}
theorem uu (Sc:cZ X scope cl N cap) {M6:List (MR×M5)} {σ σ3:St} {H2 H3:Hp} {s2 s4:MP} {fp:List MR} {h1':MX} {C:MR} (I2:aD X M6 σ H2 s2) (f2:∀ b∈fp,kS X M6 H2 b) {H1:Hp}
  (un3:Un (rj X.stack) fp H2 H1 s2.heap h1') (I4:aD (fI X scope cl N {s2 with heap:=h1'} H1 fp C) [] σ3 H3 s4) {h':MX} (hC:s2.heap.objs.size<=C) (sb:Heap.SameBut C s4.heap h'):aD X M6 σ H3 {s4 with heap:=h'}:=by
 have u:Un (rj X.stack) fp H2 H3 s2.heap s4.heap:=un3.trans I4.base;have ne:∀ b o,s2.heap.get? b=some o->b≠C:=λb o e=>LK (LN (LC e) hC)
 have u':Un (rj X.stack) fp H2 H3 s2.heap h':=⟨λb o e n hb hx=>(sb.2 b (ne b o e)).trans (u.keep b o e n hb hx),λb o e n hb hx=>by
   obtain⟨sl,q⟩:=u.slot b o e n hb hx;exact⟨sl,(sb.2 b (ne b o e)).trans q⟩,u.free,λb o e hx=>by
   obtain⟨o',q⟩:=u.there b o e hx;exact⟨o',(sb.2 b (ne b o e)).trans q⟩,u.tups,u.frzs,u.tbls⟩
 have hok:n9 X.prog X.w H3 h':=λb ob e=>by
  refine(I4.hok b ob e).stay (λc w' hc q=>(sb.2 c ?_).trans q) (λ_ q=>q) λ_ _ q=>q
  rintro rfl;have hfree:H3 c=none:=I4.free;rcases hc with rfl | hc
  ·rw [hfree] at e; cases e
  ·rw [hfree] at hc; cases hc
 refine I2.call' (s':={s4 with heap:=h'}) (ch:=fp) I4.os u' hok I4.bare λb hb=>?_
 obtain⟨_,f1,_,f3,f4,f5⟩:=f2 b hb;exact⟨f3,f1,f4,f5⟩
theorem se {s0:MP} {H0:Hp} {C:MR} {fp:List MR} {σ:St} {H:Hp} {s:MP} (I:aD (fI X scope cl N s0 H0 fp C) [] σ H s) (hn:∀ b∈fp,H b=none):∀ b∈fp,kS (fI X scope cl N s0 H0 fp C) [] H b:=λb hb=>
 ⟨hn b hb,(I.ok.exf b hb).1,I.ok.exfs b hb,.inl hb,(I.ok.exf b hb).2,λp hp=>absurd hp (by simp [fI])⟩
theorem tW {ifs:List MT} {U:MS (MQ->Sem Unit)} {Qp:MQ->MP->Prop} {QD:MR->Hp->Prop} {bt:MR->(St->Hp->Prop)->St->Hp->Prop} {bw:Env->MQ->(MP->Prop)->MP->Prop} {M6:List (MR×M5)} {s:MP} {σ:St} {H:Hp}
  (hc:X.calm=true) (Sc:cZ X scope cl N cap) (hi:PI X tg iter wi) (hg:∀ s0 H0 ex C,PG (fI X scope cl N s0 H0 ex C) tg g) (hs:∀ x,foldedSetIterable iter X.env x=pure x) (I:aD X M6 σ H s) (h:Gx cap wi g bt σ H QD)
  (hloop:∀ {it acc:MQ} {env:Env} {R:Result->MP->Prop} {s:MP} (J:Nat->MP->Prop),(∀ n s,J n s->wpAny (model X.prog X.w) X.A (pyNext it) (λr s1=>match r with
   | none=>R (.ok .next) s1
   | some v=>wpAny (model X.prog X.w) X.A (letOwnedTupleGo tg it v) (λ_ s2=>wpAny (model X.prog X.w) X.A (assign tg env v) (λ_ s3=>bw env acc (λs5=>∃ m,m < n/\J m s5) s3) qC s2) qC s1) qC s)->∀ n,J n s->codeAny (model X.prog X.w) X.A (.compLoop (.ListComp elt [⟨tg,iter,ifs,0⟩] scope pos) 0 it acc env) R s)
  (hb:∀ s0 H0 ex C pins' s6 σ6 H6 D Nn K,aD (fI X scope cl N s0 H0 ex C) pins' σ6 H6 s6->bt D Nn σ6 H6->(∀ s8 H8,aD (fI X scope cl N s0 H0 ex C) pins' σ6 H8 s8->Nn σ6 H8->K s8)->bw (compEnvC scope cl C X.env) (.ref D) K s6)
  (hd:∀ {σ3:St} {H1 H2 H3:Hp} {s2 s4:MP} {fp:List MR} {h1':MX} {C D:MR},aD X M6 σ H2 s2->(∀ b∈fp,kS X M6 H2 b)->Un (rj X.stack) fp H2 H1 s2.heap h1'->aD (fI X scope cl N {s2 with heap:=h1'} H1 fp C) [] σ3 H3 s4->s2.heap.objs.size<=C->QD D H3->compPost (model X.prog X.w) X.A X.xe U Qp (.ref D) C (.ok .next) s4):
  wpAny (model X.prog X.w) X.A (comprehension (.ListComp elt [⟨tg,iter,ifs,0⟩] scope pos) scope X.env (firstIterPos [⟨tg,iter,ifs,0⟩] pos) (newList []) false (firstIter [⟨tg,iter,ifs,0⟩] X.env) U) Qp X.xe s:=by
 have hcell:∀ y∈scope.names,y.2≠.cell:=λy hy=>by simpa using MA.mp Sc.nocell y hy
 have hnames:∀ y∈scope.names,y.2=.local->scope.names.lookup y.1=some .local:=λy hy e=>by
  have:=MA.mp Sc.names y hy;rw [e] at this
  simpa using this
 refine wpAny_comprehension_free rfl hs Sc.clos Sc.kind hnames (cR (hi M6 s σ H _ I h) λv s1 h1=>cR h1 λitv s2 h2=>?_)
 obtain⟨it,fp,tn,J,H2,e,I2,T,st2,f2,hW⟩:=h2;subst e;refine L7 (wpAny_newFunctionEnv hcell (by intro y hy; simp at hy) (λh1 hns hsb=>?_) Sc.kind)
 obtain⟨W,⟨m0,w0⟩,turn⟩:=hW s2.heap.objs.size I2.fresh;dsimp only at hns hsb ⊢
 generalize hD:s2.heap.push {cls:=.type "list",dict:=none,data:=.seq ([]:List MQ).toArray}=h1' at hns hsb ⊢
 obtain⟨I3,un3⟩:=BO (tk:=s2.toks+([]:List (Str×MQ)).length) Sc I2 f2 (λb hb=>let ⟨o,e,_⟩:=T.obj 0 _ st2 b hb; ⟨o,e⟩) hD hns hsb
 have hC:s2.heap.objs.size<=h1'.objs.size:=by rw [<- hD,Heap.size_push]; exact Nat.le_succ _
 have k1:∀ b o,s2.heap.get? b=some o->h1.get? b=some o:=λb o e=>by
  have e1:h1'.get? b=some o:=by rw [<- hD]; exact Ly _ e
  exact(hsb.2 b (LK (LC e1))).trans (Ly _ e1)
 have st3:tn 0 h1:=T.keep 0 _ _ st2 λb _ o e=>k1 b o e
 have fr3:∀ b∈fp,(cF H2 s2.heap.objs.size (.lst [])) b=none:=λb hb=>by
  obtain⟨o,e,_⟩:=T.obj 0 _ st2 b hb;rw [aO (LK (LC e))];exact(f2 b hb).1
 have loop:∀ s3:MP,s3={s2 with heap:=h1,toks:=s2.toks+([]:List (Str×MQ)).length}->
   codeAny (model X.prog X.w) X.A (.compLoop (.ListComp elt [⟨tg,iter,ifs,0⟩] scope pos) 0 (.ref it) (.ref s2.heap.objs.size) (compEnvC scope cl h1'.objs.size X.env))
    (compPost (model X.prog X.w) X.A X.xe U Qp (.ref s2.heap.objs.size) h1'.objs.size) s3:=by
  rintro s3 rfl;refine hloop (λn s'=>∃ i σ' H',aD (fI X scope cl N {s2 with heap:=h1'} (cF H2 s2.heap.objs.size (.lst [])) fp h1'.objs.size) [] σ' H' s'/\tn i s'.heap/\(∀ b∈fp,H' b=none)/\W i n σ' H') ?_ m0 ⟨0,_,_,I3,st3,fr3,w0⟩
  rintro n s3 ⟨i,σ3,H3,I3,st3,fr3,w3⟩;rcases turn i n σ3 H3 w3 with ⟨stop,qn⟩ | ⟨go,Nn,hN,step⟩
  ·refine cR (T.done (fI X scope cl N {s2 with heap:=h1'} (cF H2 s2.heap.objs.size (.lst [])) fp h1'.objs.size) rfl rfl rfl hc i [] s3 σ3 H3 qC I3 (se I3 fr3) st3 stop) λr s4 z9=>?_
   obtain⟨hr,I4⟩:=z9;subst hr;exact hd I2 f2 un3 I4 hC qn
  ·refine cR (T.item (fI X scope cl N {s2 with heap:=h1'} (cF H2 s2.heap.objs.size (.lst [])) fp h1'.objs.size) rfl rfl rfl hc i [] s3 σ3 H3 qC I3 (se I3 fr3) st3 go) λr s4 z9=>?_
   obtain⟨u,hr,h4⟩:=z9;subst hr;refine cR h4 λ_ s5 z9=>?_
   obtain⟨x,H5,I5,r5,y5,st5,fr5⟩:=z9;have I5':=I5.pinned (se I5 fr5) (T.obj _ _ st5);refine cR (hg _ _ _ _ _ s5 σ3 H5 x u _ I5' r5 (step x H5 y5)) λ_ s6 z9=>?_
   obtain⟨σ6,H6,I6,q6⟩:=z9;refine hb _ _ _ _ _ _ _ _ _ Nn _ I6 q6 λs8 H8 I8 n8=>?_
   obtain⟨m',hm,w8⟩:=hN σ6 H8 n8;refine⟨m',hm,i+1,σ6,H8,I8.unpinned,T.keep _ _ _ st5 λb hb o e=>(I8.pin (b,o) (LO _ (LO _ (jL hb e)))).1,λb hb=>?_,w8⟩
   obtain⟨o,e,d⟩:=T.obj _ _ st5 b hb;exact(I8.pin (b,o) (LO _ (LO _ (jL hb e)))).2.1
 exact codeAny_compStart_list (loop _ rfl) (T.self _ 0 _ _ _ st3 (loop _ rfl))
theorem vJ (he:∀ s0 H0 ex C,PE (fI X scope cl N s0 H0 ex C) elt te) (s0 H0 ex C pins' s6 σ6 H6 D) (Nn:St->Hp->Prop) (K:MP->Prop) (I6:aD (fI X scope cl N s0 H0 ex C) pins' σ6 H6 s6) (q6:JD te D Nn σ6 H6) (ag:∀ s8 H8,aD (fI X scope cl N s0 H0 ex C) pins' σ6 H8 s8->Nn σ6 H8->K s8):JE X elt (compEnvC scope cl C X.env) (.ref D) K s6:=by
 refine cR (he _ _ _ _ _ s6 σ6 H6 _ I6 q6) λuv s7 z9=>?_
 obtain⟨v,H7,I7,r7,ys,hy,hl,q7⟩:=z9;refine cR (rf (X:=fI X scope cl N s0 H0 ex C) _ s7 σ6 H7 (.ref D) [v] (.ref D) [uv] (λ_ H8=>Nn σ6 H8) I7 rfl (.cons r7 .nil) ⟨_,ys,v,rfl,rfl,hy,hl,q7⟩) λ_ s8 z9=>?_
 obtain⟨_,H8,I8,_,n8⟩:=z9;exact ag s8 H8 I8 n8
theorem zO (hcnd:∀ s0 H0 ex C,PT (fI X scope cl N s0 H0 ex C) c tc) (he:∀ s0 H0 ex C,PE (fI X scope cl N s0 H0 ex C) elt te) (s0 H0 ex C pins' s6 σ6 H6 D) (Nn:St->Hp->Prop) (K:MP->Prop) (I6:aD (fI X scope cl N s0 H0 ex C) pins' σ6 H6 s6) (q6:JO tc te D Nn σ6 H6) (ag:∀ s8 H8,aD (fI X scope cl N s0 H0 ex C) pins' σ6 H8 s8->Nn σ6 H8->K s8):Kw X c elt (compEnvC scope cl C X.env) (.ref D) K s6:=by
 refine cR (hcnd _ _ _ _ _ s6 σ6 H6 _ I6 q6) λb s6' z9=>?_
 obtain⟨H6',I6',q6'⟩:=z9
 cases b with
 | true=>exact vJ he _ _ _ _ _ _ _ _ _ _ _ I6' q6' ag
 | false=>exact ag _ _ I6' q6'
theorem Ao (Sc:cZ X scope cl N cap) {M6:List (MR×M5)} {σ σ3:St} {Q:V->Hp->Prop} {H1 H2 H3:Hp} {s2 s4:MP} {fp:List MR} {h1':MX} {C D:MR} (I2:aD X M6 σ H2 s2) (f2:∀ b∈fp,kS X M6 H2 b) (un3:Un (rj X.stack) fp H2 H1 s2.heap h1') (I4:aD (fI X scope cl N {s2 with heap:=h1'} H1 fp C) [] σ3 H3 s4) (hC:s2.heap.objs.size<=C) (qn:Q (.ref D) H3):compPost (model X.prog X.w) X.A X.xe none (EP X M6 σ Q) (.ref D) C (.ok .next) s4:=by
 obtain⟨m,hm,_⟩:=I4.loc;exact⟨m,hm,λh' sb=>⟨.ref _,H3,uu Sc I2 f2 un3 I4 hC sb,rfl,qn⟩⟩
theorem tQ (hc:X.calm=true) (Sc:cZ X scope cl N cap) (hi:PI X tg iter wi) (hg:∀ s0 H0 ex C,PG (fI X scope cl N s0 H0 ex C) tg g) (he:∀ s0 H0 ex C,PE (fI X scope cl N s0 H0 ex C) elt te)
  (hs:∀ x,foldedSetIterable iter X.env x=pure x:=by intro _; rfl):PE X (.ListComp elt [⟨tg,iter,[],0⟩] scope pos) (B9 cap wi g te):=λM6 s σ H Q I h=>
 tW hc Sc hi hg hs I (bt:=JD te) (bw:=JE X elt) (QD:=λD=>Q (.ref D)) h mN (vJ he) (Ao Sc)
theorem rX (hc:X.calm=true) (Sc:cZ X scope cl N cap) (hi:PI X tg iter wi) (hg:∀ s0 H0 ex C,PG (fI X scope cl N s0 H0 ex C) tg g) (hcnd:∀ s0 H0 ex C,PT (fI X scope cl N s0 H0 ex C) c tc) (he:∀ s0 H0 ex C,PE (fI X scope cl N s0 H0 ex C) elt te)
  (hs:∀ x,foldedSetIterable iter X.env x=pure x:=by intro _; rfl):PE X (.ListComp elt [⟨tg,iter,[c],0⟩] scope pos) (tG cap wi g tc te):=λM6 s σ H Q I h=>
 tW hc Sc hi hg hs I (bt:=JO tc te) (bw:=Kw X c elt) (QD:=λD=>Q (.ref D)) h mU (zO hcnd he) (Ao Sc)
end
end L2
namespace DL
open PySem PySem.Spec PyProof.Rows L2
abbrev Fg:=PySem.W.Frag
inductive Ty where
 | non | bool | int | str | tup | lst | dic | verr
def Ty.name:Ty->M3
 | .non=>"NoneType" | .bool=>"bool" | .int=>"int" | .str=>"str" | .tup=>"tuple" | .lst=>"list" | .dic=>"dict" | .verr=>"ValueError"
inductive D where
 | non | bl (b:M1) | int (i:Int) | str (x:Str) | tup (ds:List D) | rl (ds:List D) | ref (a:MR) | ty (n:Ty)
def Hm (K:Fg) (H:Hp) (a:MR) (xs:List V):Prop:=
 (∃ o,H a=some (.frz o (.lst xs)))\/∃ (o:M5) (its:MZ MQ) (n:Nat),K.lookup a=some o/\o.cls=.type "list"/\o.dict=none/\o.data=.seq its n/\its.size<=sizeLine/\aV xs its.toList
theorem Hm.sq {K:Fg} {H:Hp} {a:MR} {xs:List V} (h:Hm K H a xs):ic K H a xs:=by
 rcases h with h | h
 ·exact .inl (.inr h)
 ·exact .inr h
mutual
def ce (K:Fg) (H:Hp):D->V->Prop
 | .non,v=>v=.non
 | .bl b,v=>v=.bl b
 | .int i,v=>v=.int i
 | .str x,v=>v=.str x
 | .tup ds,v=>∃ a xs,v=.ref a/\ja K H a xs/\IsDs K H ds xs
 | .rl ds,v=>∃ a xs,v=.ref a/\Hm K H a xs/\IsDs K H ds xs
 | .ref a,v=>v=.ref a
 | .ty n,v=>v=.ty n.name
def IsDs (K:Fg) (H:Hp):List D->List V->Prop
 | [],vs=>vs=[]
 | d::ds,vs=>∃ v r,vs=v::r/\ce K H d v/\IsDs K H ds r
end
def JH:HO->Prop
 | .tup _=>True
 | .frz _ _=>True
 | _=>False
def Kp (H H':Hp):Prop:=∀ a o,H a=some o->JH o->H' a=some o
theorem Kp.refl (H:Hp):Kp H H:=λ_ _ h _=>h
theorem Kp.trans {H H1 H2:Hp} (a:Kp H H1) (b:Kp H1 H2):Kp H H2:=λc o h i=>b c o (a c o h i) i
theorem Kp.tup {K:Fg} {H H':Hp} {a:MR} {xs:List V} (k:Kp H H') (h:ja K H a xs):ja K H' a xs:=by
 rcases h with (h | ⟨o,h⟩) | h
 ·exact .inl (.inl (k _ _ h trivial))
 ·exact .inl (.inr ⟨o,k _ _ h trivial⟩)
 ·exact .inr h
theorem Kp.fro {K:Fg} {H H':Hp} {a:MR} {xs:List V} (k:Kp H H') (h:Hm K H a xs):Hm K H' a xs:=by
 rcases h with ⟨o,h⟩ | h
 ·exact .inl ⟨o,k _ _ h trivial⟩
 ·exact .inr h
theorem Kp.new {H:Hp} {p:MR} {o:HO} (h:H p=none):Kp H (cF H p o):=λb u e _=>by rw [aO (cc e h)]; exact e
theorem Kp.mut {H:Hp} {p:MR} {o u:HO} (h:H p=some u) (n:¬ JH u):Kp H (cF H p o):=λb z e i=>by
 rw [aO (λq=>by subst q; rw [h] at e; cases e; exact n i)]; exact e
mutual
theorem ce.kp {K:Fg} {H H':Hp} (k:Kp H H'):∀ {d:D} {v:V},ce K H d v->ce K H' d v
 | .non,_,h=>by unfold ce at *; exact h
 | .bl _,_,h=>by unfold ce at *; exact h
 | .int _,_,h=>by unfold ce at *; exact h
 | .str _,_,h=>by unfold ce at *; exact h
 | .ref _,_,h=>by unfold ce at *; exact h
 | .ty _,_,h=>by unfold ce at *; exact h
 | .tup ds,_,h=>by
  unfold ce at*
  obtain⟨a,xs,e,t,r⟩:=h;exact⟨a,xs,e,k.tup t,IsDs.kp k r⟩
 | .rl ds,_,h=>by
  unfold ce at*
  obtain⟨a,xs,e,t,r⟩:=h;exact⟨a,xs,e,k.fro t,IsDs.kp k r⟩
theorem IsDs.kp {K:Fg} {H H':Hp} (k:Kp H H'):∀ {ds:List D} {vs:List V},IsDs K H ds vs->IsDs K H' ds vs
 | [],_,h=>by unfold IsDs at *; exact h
 | d::ds,_,h=>by
  unfold IsDs at*
  obtain⟨v,r,e,h1,h2⟩:=h;exact⟨v,r,e,ce.kp k h1,IsDs.kp k h2⟩
end
section
variable {K:Fg} {H:Hp}
theorem isInt {i:Int} {v:V}:ce K H (.int i) v↔v=.int i:=by unfold ce; exact Iff.rfl
theorem cg {b:M1} {v:V}:ce K H (.bl b) v↔v=.bl b:=by unfold ce; exact Iff.rfl
theorem i8 {b:Str} {v:V}:ce K H (.str b) v↔v=.str b:=by unfold ce; exact Iff.rfl
theorem di {v:V}:ce K H .non v↔v=.non:=by unfold ce; exact Iff.rfl
theorem aS {a:MR} {v:V}:ce K H (.ref a) v↔v=.ref a:=by unfold ce; exact Iff.rfl
theorem G6 {a:Ty} {v:V}:ce K H (.ty a) v↔v=.ty a.name:=by unfold ce; exact Iff.rfl
theorem bY {ds:List D} {v:V}:ce K H (.tup ds) v↔∃ a xs,v=.ref a/\ja K H a xs/\IsDs K H ds xs:=by unfold ce; exact Iff.rfl
theorem uG {ds:List D} {v:V}:ce K H (.rl ds) v↔∃ a xs,v=.ref a/\Hm K H a xs/\IsDs K H ds xs:=by unfold ce; exact Iff.rfl
theorem ib {vs:List V}:IsDs K H [] vs↔vs=[]:=by unfold IsDs; exact Iff.rfl
theorem cE {d:D} {ds:List D} {vs:List V}:IsDs K H (d::ds) vs↔∃ v r,vs=v::r/\ce K H d v/\IsDs K H ds r:=by
 constructor
 ·intro h; unfold IsDs at h; exact h
 ·intro h; unfold IsDs; exact h
theorem IsDs.nil:IsDs K H [] []:=ib.mpr rfl
theorem IsDs.cons {d:D} {ds:List D} {v:V} {vs:List V} (h1:ce K H d v) (h2:IsDs K H ds vs):IsDs K H (d::ds) (v::vs):=cE.mpr ⟨v,vs,rfl,h1,h2⟩
theorem IsDs.length:∀ {ds:List D} {vs:List V},IsDs K H ds vs->ds.length=vs.length
 | [],_,h=>by rw [ib.mp h]; rfl
 | d::ds,_,h=>by
  obtain⟨v,r,rfl,_,h2⟩:=cE.mp h;rw [LQ,LQ,IsDs.length h2]
theorem IsDs.get:∀ {ds:List D} {vs:List V} {i:Nat} {d:D},IsDs K H ds vs->ds[i]?=some d->∃ v,vs[i]?=some v/\ce K H d v
 | [],_,_,_,_,e=>by simp at e
 | c::ds,_,0,d,h,e=>by
  obtain⟨v,r,rfl,h1,h2⟩:=cE.mp h;simp at e;subst e;exact⟨v,rfl,h1⟩
 | c::ds,_,i+1,d,h,e=>by
  obtain⟨v,r,rfl,h1,h2⟩:=cE.mp h;obtain⟨u,q1,q2⟩:=IsDs.get (i:=i) (d:=d) h2 (by simpa using e)
  exact⟨u,by simpa using q1,q2⟩
theorem IsDs.set:∀ {ds:List D} {vs:List V} {d:D} {v:V} (i:Nat),IsDs K H ds vs->ce K H d v->IsDs K H (ds.set i d) (vs.set i v)
 | [],_,_,_,_,h,_=>by rw [ib.mp h]; exact IsDs.nil
 | c::ds,_,d,v,0,h,hd=>by
  obtain⟨u,r,rfl,h1,h2⟩:=cE.mp h;exact IsDs.cons hd h2
 | c::ds,_,d,v,i+1,h,hd=>by
  obtain⟨u,r,rfl,h1,h2⟩:=cE.mp h;exact IsDs.cons h1 (IsDs.set i h2 hd)
theorem IsDs.append:∀ {ds es:List D} {vs us:List V},IsDs K H ds vs->IsDs K H es us->IsDs K H (ds++es) (vs++us)
 | [],_,_,_,h,h'=>by rw [ib.mp h]; exact h'
 | c::ds,_,_,_,h,h'=>by
  obtain⟨u,r,rfl,h1,h2⟩:=cE.mp h;exact IsDs.cons h1 (IsDs.append h2 h')
theorem IsDs.drop:∀ {ds:List D} {vs:List V} (n:Nat),IsDs K H ds vs->IsDs K H (ds.drop n) (vs.drop n)
 | _,_,0,h=>h
 | [],_,n+1,h=>by rw [ib.mp h]; exact IsDs.nil
 | c::ds,_,n+1,h=>by
  obtain⟨u,r,rfl,h1,h2⟩:=cE.mp h;exact IsDs.drop n h2
theorem IsDs.take:∀ {ds:List D} {vs:List V} (n:Nat),IsDs K H ds vs->IsDs K H (ds.take n) (vs.take n)
 | _,_,0,h=>by simpa using IsDs.nil
 | [],_,n+1,h=>by rw [ib.mp h]; exact IsDs.nil
 | c::ds,_,n+1,h=>by
  obtain⟨u,r,rfl,h1,h2⟩:=cE.mp h;exact IsDs.cons h1 (IsDs.take n h2)
end
def jU (ks:List Int):Int:=reduceHash (Builtin.Tuple.tupleHashOf (ks.map hashInt))
def eT (x:List Int×MR×MQ):M4:=⟨jU x.1,.ref x.2.1,x.2.2⟩
def jY (es:MZ M4) (ep:Nat):M5:={cls:=.type "dict",dict:=none,data:=.dict es ep,slots:=#[]}
def jZ (a:MR) (xs:List (List Int×MR×MQ)) (ep:Nat):MX->Prop:=λh=>(a == sysModules)=false/\xs.length<=sizeLine/\(xs.map (·.1)).Nodup/\h.get? a=some (jY (xs.map eT).toArray ep)
inductive EU where
 | dT (kvs:List (List Int×D)) (ep:Nat)
 | dK (kvs:List (tw×D))
abbrev kL (K:Fg) (H:Hp):List (List Int×D)->List (List Int×MR×MQ)->Prop:=Paired λp q=>p.1=q.1/\ja K H q.2.1 (p.1.map V.int)/\∃ v,aP v q.2.2/\ce K H p.2 v
def pf (K:Fg) (H:Hp) (a:MR):EU->Prop
 | .dT kvs ep=>∃ xs,H a=some (.ext (jZ a xs ep))/\kL K H kvs xs
 | .dK kvs=>∃ ys,H a=some (.dK ys)/\Paired (λ(p:tw×D) (q:tw×V)=>p.1=q.1/\ce K H p.2 q.2) kvs ys
theorem kL.kp {K:Fg} {H H':Hp} {kvs:List (List Int×D)} {xs:List (List Int×MR×MQ)} (r:kL K H kvs xs) (k:Kp H H'):kL K H' kvs xs:=
 Paired.mapP r λ_ _ z9=>by obtain⟨a,b,v,c,d⟩:=z9; exact⟨a,k.tup b,v,c,d.kp k⟩
theorem pf.there {K:Fg} {H:Hp} {a:MR} {g:EU} (h:pf K H a g):∃ o,H a=some o/\¬ JH o:=by
 cases g with
 | dT kvs ep=>obtain⟨xs,e,_⟩:=h; exact⟨_,e,λz=>z⟩
 | dK kvs=>obtain⟨xs,e,_⟩:=h; exact⟨_,e,λz=>z⟩
theorem pf.step {K:Fg} {H H':Hp} {a:MR} {g:EU} (h:pf K H a g) (k:Kp H H') (s:H' a=H a):pf K H' a g:=by
 cases g with
 | dT kvs ep=>obtain⟨xs,e,r⟩:=h; exact⟨xs,s.trans e,r.kp k⟩
 | dK kvs=>obtain⟨xs,e,r⟩:=h; exact⟨xs,s.trans e,Paired.mapP r λ_ _ z=>⟨z.1,z.2.kp k⟩⟩
inductive DO where
 | lst (ds:List D)
 | dic
 | exc (C:MR)
 | fn (φ:Hp->Prop)
 | tbl (ψ:Hp->MZ MQ->Prop)
 | gen (g:EU)
abbrev DH:=MR->MS DO
def put (S:DH) (a:MR) (o:DO):DH:=λb=>if b=a then some o else S b
theorem ak {S:DH} {a:MR} {o:DO}:put S a o a=some o:=by unfold put; rw [if_pos rfl]
theorem bI {S:DH} {a b:MR} {o:DO} (h:b≠a):put S a o b=S b:=by unfold put; rw [if_neg h]
theorem C6 {S:DH} {a:MR} {o u:DO}:put (put S a o) a u=put S a u:=by funext b; unfold put; split <;> rfl
theorem fo {S:DH} {a p:MR} {o:DO} (h:S a=some o) (h':S p=none):a≠p:=by intro e; subst e; rw [h] at h'; cases h'
def yj (K:Fg) (H:Hp) (a:MR):DO->Prop
 | .lst ds=>∃ xs,H a=some (.lst xs)/\IsDs K H ds xs
 | .dic=>∃ kvs,H a=some (.dK kvs)
 | .exc C=>∃ o u,H a=some (.frz o u)/\o.cls=.ref C
 | .fn φ=>(∃ o u,H a=some (.frz o u))/\∀ H',Kp H H'->φ H'
 | .tbl ψ=>∃ ps,H a=some (.tbl ps)/\∀ H',Kp H H'->ψ H' ps
 | .gen g=>pf K H a g
def Hs (K:Fg) (H:Hp) (S:DH):Prop:=∀ a o,S a=some o->yj K H a o
section
variable {K:Fg} {H H':Hp} {S:DH} {p:MR}
theorem Hs.lst {ds:List D} (h:Hs K H S) (e:S p=some (.lst ds)):∃ xs,H p=some (.lst xs)/\IsDs K H ds xs:=h p _ e
theorem Hs.free (h:Hs K H S) (e:H p=none):S p=none:=by
 cases q:S p with
 | none=>rfl
 | some o=>
  have z:=h p o q;cases o with
  | lst ds=>obtain⟨xs,z,_⟩:=z; rw [e] at z; cases z
  | dic=>obtain⟨xs,z⟩:=z; rw [e] at z; cases z
  | exc C=>obtain⟨_,_,z,_⟩:=z; rw [e] at z; cases z
  | fn φ=>obtain⟨⟨_,_,z⟩,_⟩:=z; rw [e] at z; cases z
  | tbl ψ=>obtain⟨_,z,_⟩:=z; rw [e] at z; cases z
  | gen g=>obtain⟨_,z,_⟩:=pf.there z; rw [e] at z; cases z
theorem Hs.step (h:Hs K H S) (k:Kp H H') (s:∀ a o,S a=some o->H' a=H a):Hs K H' S:=λa o e=>by
 have z:=h a o e;cases o with
 | lst ds=>obtain⟨xs,z,r⟩:=z; exact⟨xs,by rw [s a _ e]; exact z,r.kp k⟩
 | dic=>obtain⟨xs,z⟩:=z; exact⟨xs,by rw [s a _ e]; exact z⟩
 | exc C=>obtain⟨x,y,z,r⟩:=z; exact⟨x,y,by rw [s a _ e]; exact z,r⟩
 | fn φ=>obtain⟨⟨x,y,z⟩,r⟩:=z; exact⟨⟨x,y,by rw [s a _ e]; exact z⟩,λH2 k2=>r H2 (k.trans k2)⟩
 | tbl ψ=>obtain⟨ps,z,r⟩:=z; exact⟨ps,by rw [s a _ e]; exact z,λH2 k2=>r H2 (k.trans k2)⟩
 | gen g=>exact pf.step z k (s a _ e)
theorem Hs.new {o:HO} (h:Hs K H S) (e:H p=none):Hs K (cF H p o) S:=h.step (Kp.new e) λa u q=>by
 rw [aO]; intro z; subst z; rw [h.free e] at q; cases q
theorem Hs.newL {xs:List V} {ds:List D} (h:Hs K H S) (e:H p=none) (r:IsDs K H ds xs):Hs K (cF H p (.lst xs)) (put S p (.lst ds)):=λa o q=>by
 by_cases z:a=p
 ·subst z;rw [ak] at q;cases q;exact⟨xs,bJ,r.kp (Kp.new e)⟩
 ·rw [bI z] at q;exact(h.new e) a o q
theorem Hs.setL {xs ys:List V} {ds:List D} (h:Hs K H S) (e:H p=some (.lst xs)) (r:IsDs K H ds ys):Hs K (cF H p (.lst ys)) (put S p (.lst ds)):=λa o q=>by
 have k:Kp H (cF H p (.lst ys)):=Kp.mut e (λz=>z)
 by_cases z:a=p
 ·subst z;rw [ak] at q;cases q;exact⟨ys,bJ,r.kp k⟩
 ·rw [bI z] at q;have w:=h a o q;cases o with
  | lst ds=>obtain⟨xs,w,r⟩:=w; exact⟨xs,by rw [aO z]; exact w,r.kp k⟩
  | dic=>obtain⟨xs,w⟩:=w; exact⟨xs,by rw [aO z]; exact w⟩
  | exc C=>obtain⟨x,y,w,r⟩:=w; exact⟨x,y,by rw [aO z]; exact w,r⟩
  | fn φ=>obtain⟨⟨x,y,w⟩,r⟩:=w; exact⟨⟨x,y,by rw [aO z]; exact w⟩,λH2 k2=>r H2 (k.trans k2)⟩
  | tbl ψ=>obtain⟨ps,w,r⟩:=w; exact⟨ps,by rw [aO z]; exact w,λH2 k2=>r H2 (k.trans k2)⟩
  | gen g=>exact pf.step w k (aO z)
end
abbrev Lo:=List (MS D)
def Lc (K:Fg) (H:Hp):Lo->L2.St->Prop
 | [],σ=>σ=[]
 | none::L,σ=>∃ x r,σ=x::r/\Lc K H L r
 | some d::L,σ=>∃ v r,σ=some v::r/\ce K H d v/\Lc K H L r
section
variable {K:Fg} {H H':Hp}
theorem Lc.kp (k:Kp H H'):∀ {L:Lo} {σ:L2.St},Lc K H L σ->Lc K H' L σ
 | [],_,h=>h
 | none::L,_,h=>by
  obtain⟨x,r,e,h⟩:=h;exact⟨x,r,e,Lc.kp k h⟩
 | some d::L,_,h=>by
  obtain⟨v,r,e,h1,h⟩:=h;exact⟨v,r,e,h1.kp k,Lc.kp k h⟩
theorem Lc.get:∀ {L:Lo} {σ:L2.St} {i:Nat} {d:D},Lc K H L σ->L[i]?=some (some d)->∃ v,σ[i]?=some (some v)/\ce K H d v
 | [],_,_,_,_,e=>by simp at e
 | none::L,_,0,_,_,e=>by simp at e
 | some c::L,_,0,d,h,e=>by
  obtain⟨v,r,rfl,h1,h⟩:=h;simp at e;subst e;exact⟨v,rfl,h1⟩
 | none::L,_,i+1,d,h,e=>by
  obtain⟨x,r,rfl,h⟩:=h;obtain⟨u,q1,q2⟩:=Lc.get (i:=i) (d:=d) h (by simpa using e)
  exact⟨u,by simpa using q1,q2⟩
 | some c::L,_,i+1,d,h,e=>by
  obtain⟨v,r,rfl,_,h⟩:=h;obtain⟨u,q1,q2⟩:=Lc.get (i:=i) (d:=d) h (by simpa using e)
  exact⟨u,by simpa using q1,q2⟩
theorem Lc.set {d:D} {v:V} (hd:ce K H d v):∀ {L:Lo} {σ:L2.St} (i:Nat),Lc K H L σ->Lc K H (L.set i (some d)) (σ.set i (some v))
 | [],_,_,h=>by
  have e:_=[]:=h;subst e;exact rfl
 | none::L,_,0,h=>by
  obtain⟨x,r,rfl,h⟩:=h;exact⟨v,r,rfl,hd,h⟩
 | some c::L,_,0,h=>by
  obtain⟨x,r,rfl,_,h⟩:=h;exact⟨v,r,rfl,hd,h⟩
 | none::L,_,i+1,h=>by
  obtain⟨x,r,rfl,h⟩:=h;exact⟨x,r.set i (some v),rfl,Lc.set hd i h⟩
 | some c::L,_,i+1,h=>by
  obtain⟨x,r,rfl,h1,h⟩:=h;exact⟨x,r.set i (some v),rfl,h1,Lc.set hd i h⟩
theorem Lc.none:∀ (n:Nat),Lc K H (List.replicate n .none) (List.replicate n .none)
 | 0=>rfl
 | n+1=>⟨_,_,rfl,Lc.none n⟩
theorem Lc.start:∀ {ds:List D} {vs:List V} (n:Nat),IsDs K H ds vs->Lc K H (ds.map some++List.replicate n .none) (vs.map some++List.replicate n .none)
 | [],_,n,h=>by rw [ib.mp h]; exact Lc.none n
 | d::ds,_,n,h=>by
  obtain⟨v,r,rfl,h1,h2⟩:=cE.mp h;exact⟨v,_,rfl,h1,Lc.start n h2⟩
end
abbrev DK:=D->DH->Prop
abbrev DE:=Lo->DH->DK->Prop
abbrev DT:=Lo->DH->(M1->DH->Prop)->Prop
abbrev DA:=Lo->DH->(List D->DH->Prop)->Prop
structure lY where
 nx:Lo->DH->Prop
 rt:DK
 bk:Lo->DH->Prop:=λ_ _=>False
 ct:Lo->DH->Prop:=λ_ _=>False
abbrev DS:=lY->Lo->DH->Prop
def up (K:Fg) (g:DE):TE:=fun σ H Q=>∃ L S k,Lc K H L σ/\Hs K H S/\g L S k/\∀ d S' v H',k d S'->Kp H H'->Hs K H' S'->ce K H' d v->Q v H'
def t7 (K:Fg) (g:DT):TT:=fun σ H Q=>∃ L S k,Lc K H L σ/\Hs K H S/\g L S k/\∀ b S' H',k b S'->Kp H H'->Hs K H' S'->Q b H'
def uC (K:Fg) (g:DA):TA:=fun σ H Q=>∃ L S k,Lc K H L σ/\Hs K H S/\g L S k/\∀ ds S' vs H',k ds S'->Kp H H'->Hs K H' S'->IsDs K H' ds vs->Q vs H'
structure Cq (K:Fg) (H:Hp) (M:lY) (N:qR):Prop where
 nx:∀ L S σ H',M.nx L S->Kp H H'->Lc K H' L σ->Hs K H' S->N.nx σ H'
 rt:∀ d S v H',M.rt d S->Kp H H'->Hs K H' S->ce K H' d v->N.rt v H'
 bk:∀ L S σ H',M.bk L S->Kp H H'->Lc K H' L σ->Hs K H' S->N.bk σ H'
 ct:∀ L S σ H',M.ct L S->Kp H H'->Lc K H' L σ->Hs K H' S->N.ct σ H'
theorem Cq.kp {K:Fg} {H H1:Hp} {M:lY} {N:qR} (r:Cq K H M N) (k:Kp H H1):Cq K H1 M N:=
 ⟨λL S σ H' h k'=>r.nx L S σ H' h (k.trans k'),λd S v H' h k'=>r.rt d S v H' h (k.trans k'),λL S σ H' h k'=>r.bk L S σ H' h (k.trans k'),λL S σ H' h k'=>r.ct L S σ H' h (k.trans k')⟩
def C_ (K:Fg) (g:DS):TS:=λN σ H=>∃ L S M,Lc K H L σ/\Hs K H S/\g M L S/\Cq K H M N
theorem PE.imp {X:Cx} {e:MT} {t t':TE} (h:PE X e t) (i:∀ σ H Q,t' σ H Q->t σ H Q):PE X e t':=λM6 s σ H Q I q=>h M6 s σ H Q I (i σ H Q q)
theorem PT.imp {X:Cx} {e:MT} {t t':TT} (h:PT X e t) (i:∀ σ H Q,t' σ H Q->t σ H Q):PT X e t':=λM6 s σ H Q I q=>h M6 s σ H Q I (i σ H Q q)
theorem PW.imp {X:Cx} {e:MT} {t t':TT} (h:PW X e t) (i:∀ σ H Q,t' σ H Q->t σ H Q):PW X e t':=λw M6 s σ H Q I q=>h w M6 s σ H Q I (i σ H Q q)
theorem PA.imp {X:Cx} {e:List MT} {t t':TA} (h:PA X e t) (i:∀ σ H Q,t' σ H Q->t σ H Q):PA X e t':=λpos M6 s σ H Q I q=>h pos M6 s σ H Q I (i σ H Q q)
theorem PS.imp {X:Cx} {e:MY} {t t':TS} (h:PS X e t) (i:∀ N σ H,t' N σ H->t N σ H):PS X e t':=λM6 s σ H Q I q=>h M6 s σ H Q I (i Q σ H q)
theorem q9.imp {X:Cx} {e:List MY} {t t':TS} (h:q9 X e t) (i:∀ N σ H,t' N σ H->t N σ H):q9 X e t':=λM6 s σ H Q I q=>h M6 s σ H Q I (i Q σ H q)
theorem up.go {K:Fg} {g:DE} {σ:L2.St} {H:Hp} {Q:VK} {L:Lo} {S:DH} {k:DK} (hL:Lc K H L σ) (hS:Hs K H S) (h:g L S k)
  (n:∀ d S' v H',k d S'->Kp H H'->Lc K H' L σ->Hs K H' S'->ce K H' d v->Q v H'):up K g σ H Q:=
 ⟨L,S,k,hL,hS,h,λd S' v H' a b c e=>n d S' v H' a b (hL.kp b) c e⟩
theorem t7.go {K:Fg} {g:DT} {σ:L2.St} {H:Hp} {Q:M1->Hp->Prop} {L:Lo} {S:DH} {k:M1->DH->Prop} (hL:Lc K H L σ) (hS:Hs K H S) (h:g L S k)
  (n:∀ b S' H',k b S'->Kp H H'->Lc K H' L σ->Hs K H' S'->Q b H'):t7 K g σ H Q:=
 ⟨L,S,k,hL,hS,h,λb S' H' a c e=>n b S' H' a c (hL.kp c) e⟩
theorem uC.go {K:Fg} {g:DA} {σ:L2.St} {H:Hp} {Q:List V->Hp->Prop} {L:Lo} {S:DH} {k:List D->DH->Prop} (hL:Lc K H L σ) (hS:Hs K H S) (h:g L S k)
  (n:∀ ds S' vs H',k ds S'->Kp H H'->Lc K H' L σ->Hs K H' S'->IsDs K H' ds vs->Q vs H'):uC K g σ H Q:=
 ⟨L,S,k,hL,hS,h,λd S' v H' a b c e=>n d S' v H' a b (hL.kp b) c e⟩
section
variable {X:Cx} {a b c:MT} {ga gb gc:DE} {pos:Pos}
def cJ (i:Nat):DE:=λL S k=>match L[i]? with
 | some (some d)=>k d S
 | _=>False
def dC (d:D):DE:=λ_ S k=>k d S
theorem GL {e:MT} {d:D} {v:V} (h:PE X e (tC v)) (hd:∀ H,ce X.K H d v):PE X e (up X.K (dC d)):=
 PE.imp h fun σ H Q z9=>by obtain⟨L,S,k,hL,hS,h,n⟩:=z9; exact n d S v H h (Kp.refl H) hS (hd H)
def EN:MT->M1
 | .Starred _ _=>true
 | _=>false
theorem cK {a:MT} {es:List MT} {env:Env} (h:EN a=false):starEach (a::es) env=(false,eval a env)::starEach es env:=by
 cases a <;> first | rfl | cases h
theorem fM {pos:Pos} {env:Env}:∀ {es:List MT},(es.all λe=>!EN e)=true->(backTo pos (starEach es env)).any (·.1)=false
 | [],_=>rfl
 | e::es,h=>by
  rw [List.all_cons,Mj] at h;rw [cK (by simpa using h.1)]
  exact fM h.2
def jX:DA:=λ_ S k=>k [] S
def cj (g:DE) (t:DA):DA:=λL S k=>g L S λd S1=>t L S1 λds S2=>k (d::ds) S2
def ug (t:DA):DE:=λL S k=>t L S λds S1=>ds.length<=sizeLine/\k (.tup ds) S1
def Kl (t:DA):DE:=λL S k=>t L S λds S1=>ds.length<=sizeLine/\∀ p,S1 p=none->k (.ref p) (put S1 p (.lst ds))
abbrev D2:=D->D->DH->DK->Prop
def jP (K:Fg) (r:D2):R2:=λx y H Q=>∃ d e S k,ce K H d x/\ce K H e y/\Hs K H S/\r d e S k/\∀ d' S' v H',k d' S'->Kp H H'->Hs K H' S'->ce K H' d' v->Q v H'
def qG (r:D2) (ga gb:DE):DE:=λL S k=>ga L S λx S1=>gb L S1 λy S2=>r x y S2 k
theorem sX {K:Fg} {r:D2}:∀ σ H Q,up K (qG r ga gb) σ H Q->HK (jP K r) (up K ga) (up K gb) σ H Q:=fun σ H Q ⟨L,S,k,hL,hS,h,n⟩=>
 up.go hL hS h λd S1 v H1 h1 k1 hL1 hS1 i1=>up.go hL1 hS1 h1 λe S2 u H2 h2 k2 hL2 hS2 i2=>
  ⟨d,e,S2,k,i1.kp k2,i2,hS2,h2,λd' S' v H' q k3 z1 z2=>n d' S' v H' q (k1.trans (k2.trans k3)) z1 z2⟩
abbrev D1:=D->DH->DK->Prop
def KO (K:Fg) (r:D1):V->Hp->VK->Prop:=λx H Q=>∃ d S k,ce K H d x/\Hs K H S/\r d S k/\∀ d' S' v H',k d' S'->Kp H H'->Hs K H' S'->ce K H' d' v->Q v H'
def JV (r:D1) (ga:DE):DE:=λL S k=>ga L S λx S1=>r x S1 k
def nW (g:DE):DT:=λL S k=>g L S λd S1=>match d with
 | .bl c=>k c S1
 | _=>False
theorem uR {K:Fg} {g:DE}:∀ σ H Q,t7 K (nW g) σ H Q->Ea (up K g) σ H Q:=fun σ H Q ⟨L,S,k,hL,hS,h,n⟩=>
 up.go hL hS h λd S1 v H1 h1 k1 hL1 hS1 i1=>by
  cases d with
  | bl c=>
   have e:=cg.mp i1;subst e;exact⟨c,rfl,n c S1 H1 h1 k1 hS1⟩
  | _=>exact(show False from h1).elim
variable {tA tB':DT} {am:List MT}
def Ef (t u:DT):DT:=λL S k=>t L S λc S1=>if c=true then u L S1 k else k false S1
def J_ (t u:DT):DT:=λL S k=>t L S λc S1=>if c=true then k true S1 else u L S1 k
def HX (t:DT):DT:=λL S k=>t L S λc S1=>k (!c) S1
def Le (t:DT) (ga gb:DE):DE:=λL S k=>t L S λc S1=>if c=true then ga L S1 k else gb L S1 k
end
section
variable {X:Cx}
theorem lL {K:Fg} {H:Hp} {S:DH} {k:DK} {Q:VK} {d:D} {v:V} (n:∀ d' S' v H',k d' S'->Kp H H'->Hs K H' S'->ce K H' d' v->Q v H') (hS:Hs K H S) (h:k d S) (i:ce K H d v):Q v H:=n d S v H h (Kp.refl H) hS i
def Hv (C:Int->Int->Prop) (g:Int->Int->D):D2:=λd e S k=>match d,e with
 | .int i,.int j=>C i j/\k (g i j) S
 | _,_=>False
theorem AO {f:MQ->MQ->Sem MQ} {C:Int->Int->Prop} {g:Int->Int->D} {gV:Int->Int->V} (ho:fQ X f (rI C gV)) (hg:∀ i j H,ce X.K H (g i j) (gV i j)):fQ X f (jP X.K (Hv C g)):=by
 intro M6 s σ H x y v u Q I rx ry h;obtain⟨d,e,S,k,i1,i2,hS,r,n⟩:=h;cases d with
 | int i=>
  cases e with
  | int j=>
   have e1:=isInt.mp i1;have e2:=isInt.mp i2;subst e1;subst e2;exact ho M6 s σ H _ _ v u Q I rx ry ⟨i,j,rfl,rfl,r.1,lL n hS r.2 (hg i j H)⟩
  | _=>exact(show False from r).elim
 | _=>exact(show False from r).elim
def Ah (g:Int->Int->D):D2:=λd e S k=>match d,e with
 | .int i,.int j=>k (g i j) S
 | _,_=>False
theorem xp {f:MQ->MQ->Sem MQ} {g:Int->Int->D} {gV:Int->Int->V} (ho:fQ X f (Ex gV)) (hg:∀ i j H,ce X.K H (g i j) (gV i j)):fQ X f (jP X.K (Ah g)):=by
 intro M6 s σ H x y v u Q I rx ry h;obtain⟨d,e,S,k,i1,i2,hS,r,n⟩:=h;cases d with
 | int i=>
  cases e with
  | int j=>
   have e1:=isInt.mp i1;have e2:=isInt.mp i2;subst e1;subst e2;exact ho M6 s σ H _ _ v u Q I rx ry ⟨i,j,rfl,rfl,lL n hS r (hg i j H)⟩
  | _=>exact(show False from r).elim
 | _=>exact(show False from r).elim
def A2 (i j:Int):Prop:=j≠0/\j.natAbs.log2 < 9000
abbrev Kb:D2:=Ah λi j=>.int (i - j)
abbrev KE:D2:=Hv IntMulOk λi j=>.int (i*j)
abbrev JS:D2:=Hv A2 λi j=>.int (i.fdiv j)
abbrev Kn:D2:=Hv (λ_ j=>j≠0) λi j=>.int (i.fmod j)
abbrev JU:D2:=Hv G8 λi j=>.int (i ^ j.toNat)
abbrev KU:D2:=Ah λi j=>.bl (decide (i < j))
abbrev Lh:D2:=Ah λi j=>.bl (decide (j < i))
abbrev Ln:D2:=Ah λi j=>.bl (decide (j<=i))
theorem gz:fQ X (binaryOp .Sub) (jP X.K Kb):=xp Gq λ_ _ _=>isInt.mpr rfl
theorem bK:fQ X (binaryOp .Mult) (jP X.K KE):=AO (C:=IntMulOk) (gV:=λi j=>.int (i*j)) (JC λ_ _ _ _ _ _ _ hc q=>mul_int q hc) λ_ _ _=>isInt.mpr rfl
theorem B6:fQ X (binaryOp .FloorDiv) (jP X.K JS):=AO (C:=A2) (gV:=λi j=>.int (i.fdiv j)) (JC λ_ _ _ _ _ _ _ hc q=>floordiv_int hc.1 q (.inl (PyProof.noPylong_of_log2 hc.2))) λ_ _ _=>isInt.mpr rfl
theorem n5:fQ X (binaryOp .Mod) (jP X.K Kn):=AO Dh λ_ _ _=>isInt.mpr rfl
theorem EY:fQ X (binaryOp .Pow) (jP X.K JU):=AO Fy λ_ _ _=>isInt.mpr rfl
theorem xX:fQ X (compareOp .Lt) (jP X.K KU):=xp HZ λ_ _ _=>cg.mpr rfl
theorem Cg:fQ X (compareOp .Gt) (jP X.K Lh):=xp IG λ_ _ _=>cg.mpr rfl
theorem KD:fQ X (compareOp .GtE) (jP X.K Ln):=xp Ii λ_ _ _=>cg.mpr rfl
def Gh:D2:=λd e S k=>match d,e with
 | .int i,.int j=>k (.int (i+j)) S
 | .str x,.str y=>x.length+y.length<=sizeLine/\k (.str (x++y)) S
 | .tup xs,.tup ys=>xs≠[]/\ys≠[]/\xs.length+ys.length<=sizeLine/\k (.tup (xs++ys)) S
 | .ref a,.ref b=>∃ xs ys,S a=some (.lst xs)/\S b=some (.lst ys)/\xs.length+ys.length<=sizeLine/\∀ p,S p=none->k (.ref p) (put S p (.lst (xs++ys)))
 | _,_=>False
theorem nL {K:Fg} {H:Hp} {ds:List D} {vs:List V} (i:IsDs K H ds vs) (h:ds≠[]):vs≠[]:=by
 intro e;subst e;have:=i.length;exact h (MN.mp this)
theorem cS:fQ X (binaryOp .Add) (jP X.K Gh):=by
 intro M6 s σ H x y v u Q I rx ry h;obtain⟨d,e,S,k,i1,i2,hS,r,n⟩:=h;cases d with
 | int i=>
  cases e with
  | int j=>
   have e1:=isInt.mp i1;have e2:=isInt.mp i2;subst e1;subst e2;exact Fm M6 s σ H _ _ v u Q I rx ry ⟨i,j,rfl,rfl,lL n hS r (isInt.mpr rfl)⟩
  | _=>exact(show False from r).elim
 | str i=>
  cases e with
  | str j=>
   have e1:=i8.mp i1;have e2:=i8.mp i2;subst e1;subst e2;exact vL M6 s σ H _ _ v u Q I rx ry ⟨i,j,rfl,rfl,r.1,lL n hS r.2 (i8.mpr rfl)⟩
  | _=>exact(show False from r).elim
 | tup xs=>
  cases e with
  | tup ys=>
   obtain⟨a,vs,rfl,t1,j1⟩:=bY.mp i1;obtain⟨b,us,rfl,t2,j2⟩:=bY.mp i2;obtain⟨h1,h2,h3,r⟩:=r;refine wS M6 s σ H _ _ v u Q I rx ry ⟨a,b,vs,us,rfl,rfl,t1,t2,nL j1 h1,by rw [<- j1.length,<- j2.length]; exact h3,λz=>absurd z (nL j2 h2),λ_ p hp=>?_⟩
   have kp:Kp H (cF H p (.tup (vs++us))):=Kp.new hp;exact n _ S _ _ r kp (hS.new hp) (bY.mpr ⟨p,_,rfl,ja.of bJ,(j1.append j2).kp kp⟩)
  | _=>exact(show False from r).elim
 | ref a=>
  cases e with
  | ref b=>
   have e1:=aS.mp i1;have e2:=aS.mp i2;subst e1;subst e2;obtain⟨xs,ys,h1,h2,h3,r⟩:=r;obtain⟨vs,q1,j1⟩:=hS.lst h1;obtain⟨us,q2,j2⟩:=hS.lst h2;refine G4 M6 s σ H _ _ v u Q I rx ry ⟨a,b,vs,us,rfl,rfl,q1,q2,by rw [<- j1.length,<- j2.length]; exact h3,λp hp=>?_⟩
   exact n _ _ _ _ (r p (hS.free hp)) (Kp.new hp) (hS.newL hp (j1.append j2)) (aS.mpr rfl)
  | _=>exact(show False from r).elim
 | _=>exact(show False from r).elim
def Ho:D->D->MS M1
 | .int i,.int j=>some (decide (i=j))
 | .bl i,.bl j=>some (decide (i=j))
 | .str i,.str j=>some (decide (i=j))
 | _,_=>none
def J6:D2:=λd e S k=>match Ho d e with
 | some b=>k (.bl b) S
 | none=>False
def HB:D2:=λd e S k=>match Ho d e with
 | some b=>k (.bl (!b)) S
 | none=>False
theorem EB {K:Fg} {H:Hp} {d e:D} {x y:V} {b:M1} (h:Ho d e=some b) (i1:ce K H d x) (i2:ce K H e y):Fx x y=true/\decide (x=y)=b:=by
 unfold Ho at h
 split at h
 ·have e1:=isInt.mp i1;have e2:=isInt.mp i2;subst e1; subst e2
  cases h;exact⟨rfl,by simp⟩
 ·have e1:=cg.mp i1;have e2:=cg.mp i2;subst e1; subst e2
  cases h;exact⟨rfl,by simp⟩
 ·have e1:=i8.mp i1;have e2:=i8.mp i2;subst e1; subst e2
  cases h;exact⟨rfl,by simp⟩
 ·cases h
theorem fe:fQ X (compareOp .Eq) (jP X.K J6):=by
 intro M6 s σ H x y v u Q I rx ry h;obtain⟨d,e,S,k,i1,i2,hS,r,n⟩:=h;unfold J6 at r;cases q:Ho d e with
 | none=>rw [q] at r; exact r.elim
 | some b=>
  rw [q] at r;obtain⟨h1,h2⟩:=EB q i1 i2;exact Jd M6 s σ H _ _ v u Q I rx ry ⟨h1,by rw [h2]; exact lL n hS r (cg.mpr rfl)⟩
theorem uJ:fQ X (compareOp .NotEq) (jP X.K HB):=by
 intro M6 s σ H x y v u Q I rx ry h;obtain⟨d,e,S,k,i1,i2,hS,r,n⟩:=h;unfold HB at r;cases q:Ho d e with
 | none=>rw [q] at r; exact r.elim
 | some b=>
  rw [q] at r;obtain⟨h1,h2⟩:=EB q i1 i2;exact HJ M6 s σ H _ _ v u Q I rx ry ⟨h1,by rw [h2]; exact lL n hS r (cg.mpr rfl)⟩
def wq:D->M1
 | .non=>true
 | _=>false
def KL:D2:=λd e S k=>match d,e with
 | .bl c,.bl b=>k (.bl (c == b)) S
 | d,.non=>k (.bl (wq d)) S
 | _,_=>False
def wb:D2:=λd e S k=>match d,e with
 | .bl c,.bl b=>k (.bl (!(c == b))) S
 | d,.non=>k (.bl (!wq d)) S
 | _,_=>False
theorem uK {K:Fg} {H:Hp} {d:D} {x:V} (i:ce K H d x):decide (x=.non)=wq d:=by
 cases d with
 | non=>rw [di.mp i]; rfl
 | bl b=>rw [cg.mp i]; rfl
 | int b=>rw [isInt.mp i]; rfl
 | str b=>rw [i8.mp i]; rfl
 | ref b=>rw [aS.mp i]; rfl
 | ty b=>rw [G6.mp i]; rfl
 | tup b=>obtain⟨a,xs,rfl,_⟩:=bY.mp i; rfl
 | rl b=>obtain⟨a,xs,rfl,_⟩:=uG.mp i; rfl
theorem GQ:fQ X (compareOp .Is) (jP X.K KL):=by
 intro M6 s σ H x y v u Q I rx ry h;obtain⟨d,e,S,k,i1,i2,hS,r,n⟩:=h;unfold KL at r
 split at r
 ·rename_i c b
  have e1:=cg.mp i1;have e2:=cg.mp i2;subst e1; subst e2
  cases rx; cases ry
  exact is_bool ⟨.bl _,H,I,rfl,lL n hS r (cg.mpr rfl)⟩
 ·have e2:=di.mp i2;exact Gy M6 s σ H _ _ v u Q I rx ry ⟨e2,by rw [uK i1]; exact lL n hS r (cg.mpr rfl)⟩
 ·exact r.elim
theorem oR:fQ X (compareOp .IsNot) (jP X.K wb):=by
 intro M6 s σ H x y v u Q I rx ry h;obtain⟨d,e,S,k,i1,i2,hS,r,n⟩:=h;unfold wb at r
 split at r
 ·rename_i c b
  have e1:=cg.mp i1;have e2:=cg.mp i2;subst e1; subst e2
  cases rx; cases ry
  exact isnot_bool ⟨.bl _,H,I,rfl,lL n hS r (cg.mpr rfl)⟩
 ·have e2:=di.mp i2;exact CY M6 s σ H _ _ v u Q I rx ry ⟨e2,by rw [uK i1]; exact lL n hS r (cg.mpr rfl)⟩
 ·exact r.elim
def E3:D1:=λd S k=>match d with
 | .int i=>k (.int (-i)) S
 | _=>False
theorem eF:Jm X (unaryOp .USub) (KO X.K E3):=by
 intro M6 s σ H x v Q I rx h;obtain⟨d,S,k,i1,hS,r,n⟩:=h;cases d with
 | int i=>
  have e1:=isInt.mp i1;subst e1;exact Fu M6 s σ H _ v Q I rx ⟨i,rfl,lL n hS r (isInt.mpr rfl)⟩
 | _=>exact(show False from r).elim
def tZ:D2:=λd e S k=>match d,e with
 | .tup ds,.int i=>(match atI ds i with
  | some c=>k c S
  | none=>False)
 | .rl ds,.int i=>(match atI ds i with
  | some c=>k c S
  | none=>False)
 | .ref a,.int i=>(match S a with
  | some (.lst ds)=>(match atI ds i with
   | some c=>k c S
   | none=>False)
  | _=>False)
 | _,_=>False
theorem IsDs.atI {K:Fg} {H:Hp} {ds:List D} {vs:List V} {i:Int} {d:D} (r:IsDs K H ds vs) (h:atI ds i=some d):∃ v,L2.atI vs i=some v/\ce K H d v:=by
 unfold L2.atI at h ⊢;rw [<- r.length];cases q:BM ds.length i with
 | none=>rw [q] at h; cases h
 | some j=>
  rw [q] at h;exact r.get h
theorem IP:y_ X (jP X.K tZ):=by
 intro value slice M6 s σ H x y v u Q I rx ry h hs;obtain⟨d,e,S,k,i1,i2,hS,r,n⟩:=h;cases e with
 | int i=>
  have e2:=isInt.mp i2;subst e2;cases d with
  | tup ds=>
   obtain⟨a,vs,rfl,t,j⟩:=bY.mp i1;cases q:atI ds i with
   | none=>simp only [tZ,q] at r
   | some c=>
    simp only [tZ,q] at r;obtain⟨w,e1,e2⟩:=j.atI q;exact G5 value slice M6 s σ H _ _ v u Q I rx ry ⟨a,vs,i,w,rfl,rfl,t,e1,lL n hS r e2⟩ hs
  | rl ds=>
   obtain⟨a,vs,rfl,t,j⟩:=uG.mp i1;cases q:atI ds i with
   | none=>simp only [tZ,q] at r
   | some c=>
    simp only [tZ,q] at r;obtain⟨w,e1,e2⟩:=j.atI q;exact xN value slice M6 s σ H _ _ v u Q I rx ry ⟨a,vs,i,w,rfl,rfl,t.sq,e1,lL n hS r e2⟩ hs
  | ref a=>
   have e1:=aS.mp i1;subst e1;cases z:S a with
   | none=>simp only [tZ,z] at r
   | some o=>
    cases o with
    | dic=>simp only [tZ,z] at r
    | exc _=>simp only [tZ,z] at r
    | fn _=>simp only [tZ,z] at r
    | tbl _=>simp only [tZ,z] at r
    | gen _=>simp only [tZ,z] at r
    | lst ds=>
     obtain⟨vs,hl,j⟩:=hS.lst z;cases q:atI ds i with
     | none=>simp only [tZ,z,q] at r
     | some c=>
      simp only [tZ,z,q] at r;obtain⟨w,e1,e2⟩:=j.atI q;exact xN value slice M6 s σ H _ _ v u Q I rx ry ⟨a,vs,i,w,rfl,rfl,ic.of hl,e1,lL n hS r e2⟩ hs
  | _=>exact(show False from r).elim
 | _=>
  cases d <;> exact(show False from r).elim
end
abbrev cH:=List D->DH->DK->Prop
def pB (K:Fg) (r:cH):List V->Hp->VK->Prop:=λxs H Q=>∃ ds S k,IsDs K H ds xs/\Hs K H S/\r ds S k/\∀ d' S' v H',k d' S'->Kp H H'->Hs K H' S'->ce K H' d' v->Q v H'
def jS (r:cH) (t:DA):DE:=λL S k=>t L S λds S1=>r ds S1 k
section
variable {X:Cx} {x:Str} {p pos:Pos} {e:MT} {es:List MT} {t:DA} {id T:M3} {r:cH}
theorem uX {K:Fg}:∀ σ H Q,up K (jS r t) σ H Q->Kv (pB K r) (uC K t) σ H Q:=fun σ H Q ⟨L,S,k,hL,hS,h,n⟩=>
 uC.go hL hS h λds S1 vs H1 h1 k1 hL1 hS1 i1=>⟨ds,S1,k,i1,hS1,h1,λd' S' v H' q k3 z1 z2=>n d' S' v H' q (k1.trans k3) z1 z2⟩
def dk (K:Fg) (F:cH):Sp:=λvs H Q _=>pB K F vs H Q
structure bj (P:MU) (w:MW) (K:Fg) (mg:Str->MS MQ) (base:MX) (x:Str) (n:Nat) (F:cH):Prop where
 ex:∃ f fd ps,aT P w K mg base c8 n f fd ps (dk K F)/\mg x=some (.ref f)/\PySem.W.keepIn K (.ref f)=true/\pI K fd ps []
theorem GC {n:Nat} {F:cH} (c:bj X.prog X.w X.K X.mg X.base x n F) (hr:cI n X.A) (hg:Gl X x) (ha:PA X (e::es) (uC X.K t)) (hdb:(x == ("__debug__":Str))=false:=by decide)
  (he:starEach (e::es) X.env=(false,eval e X.env)::starEach es X.env:=by exact cK rfl) (hpl:(backTo pos (starEach es X.env)).any (·.1)=false:=by exact fM rfl):
  PE X (.Call (.Name x p) (e::es) [] pos) (up X.K (jS F t)):=by
 obtain⟨f,fd,ps,F1,h1,h2,h3⟩:=c.ex;refine PE.imp (Ds F1 hr hg h1 h2 h3 .nil IX ha hdb he hpl) fun σ H Q z9=>?_
 obtain⟨L,S,k,hL,hS,h,n⟩:=z9;refine uC.go hL hS h λds S1 vs H1 h1 k1 hL1 hS1 i1=>?_
 show dk X.K F (vs++[]) H1 Q E0
 rw [L0];exact⟨ds,S1,k,i1,hS1,h1,λd' S' v H' q k3 z1 z2=>n d' S' v H' q (k1.trans k3) z1 z2⟩
def Jx:cH:=λds S k=>match ds with
 | [.int i]=>k (.int (if i < 0 then -i else i)) S
 | _=>False
theorem dM {K:Fg} {H:Hp} {d:D} {xs:List V} (h:IsDs K H [d] xs):∃ x,xs=[x]/\ce K H d x:=by
 obtain⟨v,r,rfl,h1,h2⟩:=cE.mp h;rw [ib.mp h2];exact⟨v,rfl,h1⟩
theorem rN {K:Fg} {H:Hp} {d e:D} {xs:List V} (h:IsDs K H [d,e] xs):∃ x y,xs=[x,y]/\ce K H d x/\ce K H e y:=by
 obtain⟨v,r,rfl,h1,h2⟩:=cE.mp h;obtain⟨y,rfl,h3⟩:=dM h2;exact⟨v,y,rfl,h1,h3⟩
theorem Ap:bW X (.builtin "abs") (pB X.K Jx):=by
 intro M6 s σ H xs us Q I rs h;obtain⟨ds,S,k,i,hS,r,n⟩:=h;unfold Jx at r
 split at r
 ·obtain⟨x,rfl,i1⟩:=dM i;have e1:=isInt.mp i1;subst e1;exact BD M6 s σ H _ us Q I rs ⟨_,rfl,lL n hS r (isInt.mpr rfl)⟩
 ·exact r.elim
def Ff:cH:=λds S k=>match ds with
 | [.tup xs]=>k (.int xs.length) S
 | [.rl xs]=>k (.int xs.length) S
 | [.ref a]=>(match S a with
  | some (.lst xs)=>k (.int xs.length) S
  | _=>False)
 | _=>False
theorem HV:bW X (.builtin "len") (pB X.K Ff):=by
 intro M6 s σ H xs us Q I rs h;obtain⟨ds,S,k,i,hS,r,n⟩:=h;unfold Ff at r
 split at r
 ·obtain⟨x,rfl,i1⟩:=dM i;obtain⟨a,vs,rfl,t,j⟩:=bY.mp i1;exact jy M6 s σ H _ us Q I rs ⟨a,vs,rfl,.inr t,by rw [<- j.length]; exact lL n hS r (isInt.mpr rfl)⟩
 ·obtain⟨x,rfl,i1⟩:=dM i;obtain⟨a,vs,rfl,t,j⟩:=uG.mp i1;exact jy M6 s σ H _ us Q I rs ⟨a,vs,rfl,.inl t.sq,by rw [<- j.length]; exact lL n hS r (isInt.mpr rfl)⟩
 ·obtain⟨x,rfl,i1⟩:=dM i;have e1:=aS.mp i1;subst e1
  split at r
  ·rename_i z
   obtain⟨vs,hl,j⟩:=hS.lst z;exact jy M6 s σ H _ us Q I rs ⟨_,vs,rfl,.inl (ic.of hl),by rw [<- j.length]; exact lL n hS r (isInt.mpr rfl)⟩
  ·exact r.elim
 ·exact r.elim
def Hf:cH:=λds S k=>match ds with
 | [.int i,.int j]=>k (.int (if j > i then j else i)) S
 | _=>False
def HS:cH:=λds S k=>match ds with
 | [.int i,.int j]=>k (.int (if j < i then j else i)) S
 | _=>False
theorem Ew (hc:X.calm=true:=by rfl):bW X (.builtin "max") (pB X.K Hf):=by
 intro M6 s σ H xs us Q I rs h;obtain⟨ds,S,k,i,hS,r,n⟩:=h;unfold Hf at r
 split at r
 ·obtain⟨x,y,rfl,i1,i2⟩:=rN i;have e1:=isInt.mp i1;have e2:=isInt.mp i2;subst e1; subst e2
  exact ym hc M6 s σ H _ us Q I rs ⟨_,_,rfl,lL n hS r (isInt.mpr rfl)⟩
 ·exact r.elim
theorem IV (hc:X.calm=true:=by rfl):bW X (.builtin "min") (pB X.K HS):=by
 intro M6 s σ H xs us Q I rs h;obtain⟨ds,S,k,i,hS,r,n⟩:=h;unfold HS at r
 split at r
 ·obtain⟨x,y,rfl,i1,i2⟩:=rN i;have e1:=isInt.mp i1;have e2:=isInt.mp i2;subst e1; subst e2
  exact yo hc M6 s σ H _ us Q I rs ⟨_,_,rfl,lL n hS r (isInt.mpr rfl)⟩
 ·exact r.elim
def IC:cH:=λds S k=>match ds with
 | [.int i]=>k (.int i) S
 | [.bl b]=>k (.int (if b then 1 else 0)) S
 | _=>False
theorem Bp:bW X (.type "int") (pB X.K IC):=by
 intro M6 s σ H xs us Q I rs h;obtain⟨ds,S,k,i,hS,r,n⟩:=h;unfold IC at r
 split at r
 ·obtain⟨x,rfl,i1⟩:=dM i;have e1:=isInt.mp i1;subst e1;exact rR M6 s σ H _ us Q I rs (.inl ⟨_,rfl,lL n hS r (isInt.mpr rfl)⟩)
 ·obtain⟨x,rfl,i1⟩:=dM i;have e1:=cg.mp i1;subst e1;exact rR M6 s σ H _ us Q I rs (.inr ⟨_,rfl,lL n hS r (isInt.mpr rfl)⟩)
 ·exact r.elim
def Go:Ty->Ty->M1
 | .non,.non=>true | .bool,.bool=>true | .bool,.int=>true | .int,.int=>true | .str,.str=>true | .tup,.tup=>true | .lst,.lst=>true | .dic,.dic=>true | .verr,.verr=>true
 | _,_=>false
theorem GH {K:Fg} (t c:Ty):PySem.W.kitOne K (.type t.name) (.type c.name)=some (Go t c):=by
 cases t <;> cases c <;> rfl
def yT (xs:List D) (lo hi:MS Int):List D:=(xs.drop (HT.dD xs.length 0 lo)).take (HT.dD xs.length xs.length hi - HT.dD xs.length 0 lo)
abbrev Hk:=Lo->DH->(MS Int->DH->Prop)->Prop
def KT (K:Fg) (g:Hk):TO:=fun σ H Q=>∃ L S k,Lc K H L σ/\Hs K H S/\g L S k/\∀ i S' H',k i S'->Kp H H'->Hs K H' S'->Q i H'
def Jq:Hk:=λ_ S k=>k none S
def Iq (g:DE):Hk:=λL S k=>g L S λd S1=>match d with
 | .int i=>k (some i) S1
 | _=>False
end
section
variable {X:Cx} {st:MY} {am:List MY} {g h:DS} {e:MT} {ge:DE} {pos:Pos}
def IS:DS:=λM L S=>M.nx L S
def yI (g h:DS):DS:=λM L S=>g {M with nx:=h M} L S
theorem C1 {K:Fg}:∀ N σ H,C_ K (yI g h) N σ H->Ij (C_ K g) (C_ K h) N σ H:=λN σ H ⟨L,S,M,hL,hS,q,r⟩=>
 ⟨L,S,{M with nx:=h M},hL,hS,q,⟨λL' S' σ' H' q' k' hL' hS'=>⟨L',S',M,hL',hS',q',r.kp k'⟩,r.rt,r.bk,r.ct⟩⟩
def HE (ge:DE):DS:=λM L S=>ge L S λ_ S1=>M.nx L S1
def GG (ge:DE):DS:=λM L S=>ge L S M.rt
def GI (c:DT) (g h:DS):DS:=λM L S=>c L S λb S1=>if b=true then g M L S1 else h M L S1
def E_:DS:=λ_ _ _=>False
def uB (i:Nat) (ge:DE):DS:=λM L S=>ge L S λd S1=>M.nx (L.set i (some d)) S1
def JT (i j:Nat) (ta:DA):DS:=λM L S=>ta L S λds S1=>match ds with
 | [d,e]=>M.nx ((L.set i (some d)).set j (some e)) S1
 | _=>False
abbrev DG:=D->Lo->DH->(Lo->DH->Prop)->Prop
def CC (K:Fg) (g:DG):TG:=λv σ H Q=>∃ d L S k,ce K H d v/\Lc K H L σ/\Hs K H S/\g d L S k/\∀ L' S' σ' H',k L' S'->Kp H H'->Lc K H' L' σ'->Hs K H' S'->Q σ' H'
theorem PG.imp {e:MT} {t t':TG} (h:PG X e t) (i:∀ v σ H Q,t' v σ H Q->t v σ H Q):PG X e t':=λM6 s σ H v u Q I rv q=>h M6 s σ H v u Q I rv (i v σ H Q q)
def dU (i:Nat):DG:=λd L S k=>k (L.set i (some d)) S
abbrev Co:=List D->Lo->DH->(Lo->DH->Prop)->Prop
def KB (K:Fg) (g:Co):AF:=λv σ H Q=>∃ d L S k,IsDs K H d v/\Lc K H L σ/\Hs K H S/\g d L S k/\∀ L' S' σ' H',k L' S'->Kp H H'->Lc K H' L' σ'->Hs K H' S'->Q σ' H'
theorem Bw.imp {e:List MT} {t t':AF} (h:Bw X e t) (i:∀ v σ H Q,t' v σ H Q->t v σ H Q):Bw X e t':=λM6 s σ H v u Q I rv q=>h M6 s σ H v u Q I rv (i v σ H Q q)
def Eh:Co:=λds L S k=>ds=[]/\k L S
def wj (t:DG) (u:Co):Co:=λds L S k=>match ds with
 | d::r=>t d L S λL1 S1=>u r L1 S1 k
 | []=>False
def Iu (ge:DE) (g:DG):DS:=λM L S=>ge L S λd S1=>g d L S1 M.nx
def Hc (c:DT) (b:DS):DS:=λM L S=>∃ W:Nat->Lo->DH->Prop,(∃ m,W m L S)/\∀ m L S,W m L S->
 c L S λt S1=>if t=true then ∃ N:Lo->DH->Prop,(∀ L' S',N L' S'->∃ m',m' < m/\W m' L' S')/\b {M with nx:=N,ct:=N,bk:=M.nx} L S1 else M.nx L S1
def iA (ok:DH->Prop) (g:DG) (b:DS) (M:lY):List D->Lo->DH->Prop
 | [],L,S=>ok S/\M.nx L S
 | d::r,L,S=>ok S/\g d L S λL1 S1=>b {M with nx:=λL2 S2=>iA ok g b M r L2 S2,ct:=λL2 S2=>iA ok g b M r L2 S2,bk:=M.nx} L1 S1
theorem mH {K:Fg} {ok:DH->Prop} {gg:DG} {b:DS} {M:lY} {ds:List D} {L:Lo} {S:DH} {N:qR} {σ:L2.St} {H:Hp} {J:It} (hL:Lc K H L σ) (hS:Hs K H S) (h:iA ok gg b M ds L S) (r:Cq K H M N)
  (hgo:∀ i d S1 H1,ds[i]?=some d->Kp H H1->Hs K H1 S1->ok S1->J.go i H1/\∀ x H',J.yld i H1 x H'->H'=H1/\ce K H1 d x)
  (hst:∀ S1 H1,Kp H H1->Hs K H1 S1->ok S1->J.stop ds.length H1):
  ∃ W:Nat->Nat->L2.St->Hp->Prop,(∃ m,W 0 m σ H)/\∀ i m σ H,W i m σ H->
   (J.stop i H/\N.nx σ H)\/(J.go i H/\∃ N':L2.St->Hp->Prop,(∀ σ' H',N' σ' H'->∃ m',m' < m/\W (i+1) m' σ' H')/\∀ x H',J.yld i H x H'->CC K gg x σ H' fun σ2 H2=>C_ K b {N with nx:=N',ct:=N',bk:=N.nx} σ2 H2):=by
 refine⟨λi m σ1 H1=>m=ds.length - i/\i<=ds.length/\∃ L1 S1,Lc K H1 L1 σ1/\Hs K H1 S1/\Kp H H1/\iA ok gg b M (ds.drop i) L1 S1,⟨ds.length,by simp,Mw _,L,S,hL,hS,Kp.refl H,h⟩,?_⟩
 rintro i m σ1 H1 ⟨rfl,hi,L1,S1,hL1,hS1,k1,w1⟩
 by_cases hlt:i < ds.length
 ·have e:ds.drop i=ds[i]::ds.drop (i+1):=Ms hlt;rw [e] at w1;obtain⟨o1,w1⟩:=w1;obtain⟨g1,y1⟩:=hgo i ds[i] S1 H1 (by simp [hlt]) k1 hS1 o1
  refine .inr ⟨g1,fun σ' H'=>i+1<=ds.length/\∃ L' S',Lc K H' L' σ'/\Hs K H' S'/\Kp H H'/\iA ok gg b M (ds.drop (i+1)) L' S',fun σ' H' z9=>by obtain⟨q1,q2⟩:=z9; exact⟨ds.length - (i+1),by omega,rfl,q1,q2⟩,λx H' y=>?_⟩
  obtain⟨rfl,ix⟩:=y1 x H' y;refine⟨ds[i],L1,S1,_,ix,hL1,hS1,w1,λL2 S2 σ2 H2 q k2 hL2 hS2=>⟨L2,S2,_,hL2,hS2,q,?_⟩⟩
  have r2:=r.kp (k1.trans k2);exact⟨λL3 S3 σ3 H3 q3 k3 hL3 hS3=>⟨hlt,L3,S3,hL3,hS3,(k1.trans k2).trans k3,q3⟩,r2.rt,r2.nx,λL3 S3 σ3 H3 q3 k3 hL3 hS3=>⟨hlt,L3,S3,hL3,hS3,(k1.trans k2).trans k3,q3⟩⟩
 ·have e:i=ds.length:=by omega
  subst e;rw [List.drop_length] at w1;obtain⟨o1,w1⟩:=w1;exact .inl ⟨hst S1 H1 k1 hS1 o1,r.nx L1 S1 σ1 H1 w1 k1 hL1 hS1⟩
def aR (S:DH):D->MS (List D×MS MR)
 | .tup ds=>some (ds,none)
 | .rl ds=>some (ds,none)
 | .ref a=>(match S a with
  | some (.lst ds)=>some (ds,some a)
  | _=>none)
 | _=>none
def fL:List D×MS MR->DH->Prop
 | (_,none)=>λ_=>True
 | (ds,some a)=>λS=>S a=some (.lst ds)
theorem PI.imp {tg e:MT} {w w':TI} (h:PI X tg e w) (i:∀ σ H R,w' σ H R->w σ H R):PI X tg e w':=λM6 s σ H R I q=>h M6 s σ H R I (i σ H R q)
def JP (K:Fg) (t:TE):TI:=fun σ H R=>t σ H λx H1=>∃ a,x=.ref a/\(((∃ xs,ic K H1 a xs)/\R (Jr K a) H1)\/((∃ xs,ja K H1 a xs)/\R (HQ K a) H1))
theorem tR {tg l:MT} {tl:TE} (hl:PE X l tl):PI X tg l (JP X.K tl):=by
 intro M6 s σ H R I h;refine cR (hl M6 s σ H _ I h) λv s1 z9=>?_
 obtain⟨x,H1,I1,r1,q1⟩:=z9;obtain⟨a,e,q1⟩:=q1;subst e;cases r1;rcases q1 with ⟨⟨xs,hq⟩,q⟩ | ⟨⟨xs,hq⟩,q⟩
 ·obtain⟨its,rv,p,hz⟩:=I1.list hq;refine wpAny_pyIter_list p.isList ?_;refine⟨s1.heap.objs.size,[s1.heap.objs.size],_,_,H1,rfl,I1.kept (t':=s1.toks) λb o e=>Ly _ e,yd a _,⟨_,LA _ rfl,rfl,rfl⟩,λb hb=>?_,q⟩
  have e:b=s1.heap.objs.size:=by simpa using hb
  subst e;exact I1.fpOk (LD _) (I1.hok.fresh (LD _))
 ·obtain⟨its,rv,p,hz⟩:=I1.tuple hq;refine wpAny_pyIter_tuple (show s1.heap.IsTuple a its.toArray from p) ?_
  refine⟨s1.heap.objs.size,[s1.heap.objs.size],_,_,H1,rfl,I1.kept (t':=s1.toks) λb o e=>Ly _ e,wz a _,⟨_,LA _ rfl,rfl,rfl⟩,λb hb=>?_,q⟩
  have e:b=s1.heap.objs.size:=by simpa using hb
  subst e;exact I1.fpOk (LD _) (I1.hok.fresh (LD _))
def IH (ta:DA) (g:DG) (b:DS):DS:=λM L S=>ta L S λds S1=>match ds with
 | [.int n]=>(-(2 ^ 62)<=n/\n < 2 ^ 62)/\iA (λ_=>True) g b M ((List.range n.toNat).map λi=>D.int (i:Nat)) L S1
 | _=>False
end
section
variable {P:MU} {w:MW} {K:Fg} {mg:Str->MS MQ} {base:MX}
theorem _root_.L2.yP.okD {x M7:Str} {st:MY} {f:MR} {fd:FuncData} {N ps:List Str} {k:Nat} {F:cH} (Fn:yP K x M7 st f fd) (Sc:au N ps (ap st)) (len:∀ ds S k,F ds S k->ds.length=ps.length)
  (hbody:∀ (cdv:MQ) (A:MV) (outer:List Env) (s:MP) (H:Hp) (E:XK),cI k (A.deeper (envOfC M7 (ap st) s.heap.objs.size f cdv))->
   ∃ g,q9 (u5 c8 P w K mg base N M7 (ap st) f cdv A outer s H E).nox (dh st) (C_ K g)/\
    ∀ ds S k,F ds S k->g {nx:=λ_ S'=>k .non S',rt:=k} (ds.map some++List.replicate (N.length - ps.length) none) S):aT P w K mg base c8 (k+1) f fd ps (dk K F):=by
 refine Fn.ok Sc (λvs H Q E h=>?_) (λcdv A outer s H vs Q E hr h=>?_)
 ·obtain⟨ds,S,k,i,_,q,_⟩:=h;rw [<- i.length];exact len ds S k q
 ·obtain⟨g,hg,q⟩:=hbody cdv A outer s H E hr;obtain⟨ds,S,k',i,hS,h,n⟩:=h;refine⟨_,hg,ds.map some++List.replicate (N.length - ps.length) none,S,_,?_,hS,q ds S k' h,?_⟩
  ·unfold L2.start;rw [<- i.length,len ds S k' h];exact Lc.start _ i
  ·exact⟨λL S' σ H' h1 k1 _ hS'=>n _ S' _ H' h1 k1 hS' (di.mpr rfl),λd S' v H' h1 k1 hS' i1=>n d S' v H' h1 k1 hS' i1,λ_ _ _ _ h1=>h1.elim,λ_ _ _ _ h1=>h1.elim⟩
theorem bj.mk' {x M7:Str} {st:MY} {f:MR} {fd:FuncData} {ps:List Str} {n:Nat} {F:cH} (Fn:yP K x M7 st f fd) (h:aT P w K mg base c8 n f fd ps (dk K F)) (hm:mg x=some (.ref f)) (hb:pI K fd ps []):bj P w K mg base x n F:=
 ⟨f,fd,ps,h,hm,Fn.kp,hb⟩
end
end DL
namespace DL
open PySem PySem.Spec PyProof.Rows L2 HM
theorem iF {m n:Nat} {x y:Int} (hx:Bt m x) (hy:Bt n y) (h:m+n<=134217728:=by decide):IntMulOk x y:=IntMulOk.of_le (intBits_le_iff.mpr hx) (intBits_le_iff.mpr hy) h
theorem Ki {m:Nat} {y:Int} (h0:y≠0) (hy:Bt m y) (h:m<=9000:=by decide):A2 x y:=⟨h0,(Nat.log2_lt (by omega)).mpr (hy.mono h)⟩
def pr (a b:Int):D:=.tup [.int a,.int b]
def fr (q:Rat):D:=pr q.num (q.den:Int)
end DL
namespace DL
theorem y7 {x:D} {r:List D}:L2.atI (x::r) 0=some x:=L2.jn (j:=0) rfl
theorem J4 {x y:D} {r:List D}:L2.atI (x::y::r) 1=some y:=L2.jn (j:=1) rfl
theorem Jo {n:Nat}:L2.BM (n+1) 0=some 0:=by
 unfold L2.BM;rw [if_pos (by decide),if_pos (by omega)]
 rfl
end DL
namespace DL
open PySem PySem.Spec PyProof.Rows L2
def CF:D->D->MS M1
 | .int i,.int j=>some (i == j)
 | .bl i,.bl j=>some (i == j)
 | .str i,.str j=>some (i == j)
 | .non,.non=>some true
 | .non,.int _=>some false
 | .int _,.non=>some false
 | .non,.bl _=>some false
 | .bl _,.non=>some false
 | .bl a,.int j=>some ((if a then 1 else 0) == j)
 | .int i,.bl b=>some (i == (if b then 1 else 0))
 | _,_=>none
def jB (f:D->D->MS M1):List D->List D->MS M1
 | [],[]=>some true
 | [],_::_=>some false
 | _::_,[]=>some false
 | x::xs,y::ys=>match f x y,jB f xs ys with
  | some a,some b=>some (a && b)
  | _,_=>none
def kW:Nat->D->D->MS M1
 | 0,d,e=>CF d e
 | n+1,.tup xs,.tup ys=>jB (kW n) xs ys
 | _+1,d,e=>CF d e
theorem qi (n:Nat) (d e:D):kW (n+1) d e=(match d,e with | .tup xs,.tup ys=>jB (kW n) xs ys | d,e=>CF d e):=by
 cases d <;> cases e <;> rfl
def i_ (f:D->D->MS M1):List D->List D->Nat->M1
 | x::_,y::_,0=>(f x y).getD false
 | _::xs,_::ys,j+1=>i_ f xs ys j
 | _,_,_=>false
theorem Aj (e:Nat->M1) (m:Nat):(List.range (m+1)).all e=(e 0 && (List.range m).all λj=>e (j+1)):=by
 rw [List.range_succ_eq_map,List.all_cons,List.all_map]
 rfl
theorem mf {f:D->D->MS M1}:∀ {xs ys:List D} {b:M1},jB f xs ys=some b->((List.range (min xs.length ys.length)).all (i_ f xs ys) && xs.length == ys.length)=b
 | [],[],b,h=>by unfold jB at h; cases h; rfl
 | [],_::_,b,h=>by unfold jB at h; cases h; simp
 | _::_,[],b,h=>by unfold jB at h; cases h; simp
 | x::xs,y::ys,b,h=>by
  unfold jB at h
  split at h
  ·rename_i a c e1 e2
   cases h;have ih:=mf e2;rw [LQ,LQ,Nat.succ_min_succ,Aj];have e3:i_ f (x::xs) (y::ys) 0=a:=by unfold i_; rw [e1]; rfl
   rw [e3,Bool.and_assoc];have e4:(λj=>i_ f (x::xs) (y::ys) (j+1))=i_ f xs ys:=by funext j; rfl
   rw [e4];have e5:(xs.length+1 == ys.length+1)=(xs.length == ys.length):=by simp
   rw [e5,ih]
  ·cases h
theorem oD {f:D->D->MS M1}:∀ {xs ys:List D} {b:M1} {j:Nat} {x y:D},jB f xs ys=some b->xs[j]?=some x->ys[j]?=some y->f x y=some (i_ f xs ys j)
 | [],_,_,_,_,_,_,e,_=>by simp at e
 | _::_,[],_,_,_,_,_,_,e=>by simp at e
 | x::xs,y::ys,b,0,x',y',h,e1,e2=>by
  simp at e1 e2
  subst e1; subst e2
  unfold jB at h
  split at h
  ·rename_i a c q1 q2
   unfold i_;rw [q1]
   rfl
  ·cases h
 | x::xs,y::ys,b,j+1,x',y',h,e1,e2=>by
  unfold jB at h
  split at h
  ·rename_i a c q1 q2
   unfold i_;exact oD q2 (by simpa using e1) (by simpa using e2)
  ·cases h
section
variable {X:Cx} {M6:List (MR×M5)} {σ:L2.St} {H:Hp} {s:MP}
theorem tj {K:Fg} {ds es:List D} {xs ys:List V} {us ws:List MQ} {j:Nat} (i1:IsDs K H ds xs) (i2:IsDs K H es ys) (r1:aV xs us) (r2:aV ys ws) (h1:j < us.length) (h2:j < ws.length):
  ∃ d e x y,ds[j]?=some d/\es[j]?=some e/\ce K H d x/\ce K H e y/\aP x us[j]/\aP y ws[j]:=by
 have l1:=i1.length;have l2:=i2.length;have l3:=r1.length;have l4:=r2.length;have e1:ds[j]?=some ds[j]:=by simp [show j < ds.length by omega]
 have e2:es[j]?=some es[j]:=by simp [show j < es.length by omega]
 obtain⟨x,q1,d1⟩:=i1.get e1;obtain⟨y,q2,d2⟩:=i2.get e2;obtain⟨u,q3,rx⟩:=r1.get q1;obtain⟨w,q4,ry⟩:=r2.get q2;have f1:us[j]=u:=(Mf.mp q3).2;have f2:ws[j]=w:=(Mf.mp q4).2;exact⟨_,_,x,y,e1,e2,d1,d2,by rw [f1]; exact rx,by rw [f2]; exact ry⟩
theorem Al {K:Fg} {A:MV} {d e:D} {x y:V} {u w:MQ} {b:M1} (h:CF d e=some b) (i1:ce K H d x) (i2:ce K H e y) (rx:aP x u) (ry:aP y w):SeqAt.EqAt A s u w b/\SeqAt.RcAt A s u w b:=by
 unfold CF at h
 split at h
 ·cases h; rw [isInt.mp i1] at rx; rw [isInt.mp i2] at ry; obtain⟨t,rfl⟩:=rx; obtain⟨t',rfl⟩:=ry; exact⟨(SeqAt.EqAt.int_int _ _ _ _),(SeqAt.RcAt.int_int _ _ _ _)⟩
 ·cases h; rw [cg.mp i1] at rx; rw [cg.mp i2] at ry; cases rx; cases ry; exact⟨(SeqAt.EqAt.bool_bool _ _),(SeqAt.RcAt.bool_bool _ _)⟩
 ·cases h; rw [i8.mp i1] at rx; rw [i8.mp i2] at ry; obtain⟨t,rfl⟩:=rx; obtain⟨t',rfl⟩:=ry; exact⟨(SeqAt.EqAt.str_str _ _ _ _),(SeqAt.RcAt.str_str _ _ _ _)⟩
 ·cases h; rw [di.mp i1] at rx; rw [di.mp i2] at ry; cases rx; cases ry; exact⟨SeqAt.EqAt.same _,SeqAt.RcAt.none_none⟩
 ·cases h; rw [di.mp i1] at rx; rw [isInt.mp i2] at ry; cases rx; obtain⟨t',rfl⟩:=ry; exact⟨(SeqAt.EqAt.none_int _ _),(SeqAt.RcAt.none_int _ _)⟩
 ·cases h; rw [isInt.mp i1] at rx; rw [di.mp i2] at ry; obtain⟨t,rfl⟩:=rx; cases ry; exact⟨(SeqAt.EqAt.int_none _ _),(SeqAt.RcAt.int_none _ _)⟩
 ·cases h; rw [di.mp i1] at rx; rw [cg.mp i2] at ry; cases rx; cases ry; exact⟨(SeqAt.EqAt.none_bool _),(SeqAt.RcAt.none_bool _)⟩
 ·cases h; rw [cg.mp i1] at rx; rw [di.mp i2] at ry; cases rx; cases ry; exact⟨(SeqAt.EqAt.bool_none _),(SeqAt.RcAt.bool_none _)⟩
 ·cases h; rw [cg.mp i1] at rx; rw [isInt.mp i2] at ry; cases rx; obtain⟨t',rfl⟩:=ry; exact⟨(SeqAt.EqAt.bool_int _ _ _),(SeqAt.RcAt.bool_int _ _ _)⟩
 ·cases h; rw [isInt.mp i1] at rx; rw [cg.mp i2] at ry; obtain⟨t,rfl⟩:=rx; cases ry; exact⟨(SeqAt.EqAt.int_bool _ _ _),(SeqAt.RcAt.int_bool _ _ _)⟩
 ·cases h
theorem uD {K:Fg} {d e:D} {x:V} {b:M1} (h:CF d e=some b) (i1:ce K H d x) (i2:ce K H e x):b=true:=by
 unfold CF at h
 split at h
 ·cases h; have e1:=isInt.mp i1; have e2:=isInt.mp i2; rw [e1] at e2; cases e2; simp
 ·cases h; have e1:=cg.mp i1; have e2:=cg.mp i2; rw [e1] at e2; cases e2; simp
 ·cases h; have e1:=i8.mp i1; have e2:=i8.mp i2; rw [e1] at e2; cases e2; simp
 ·cases h; rfl
 ·have e1:=di.mp i1; have e2:=isInt.mp i2; rw [e1] at e2; cases e2
 ·have e1:=isInt.mp i1; have e2:=di.mp i2; rw [e1] at e2; cases e2
 ·have e1:=di.mp i1; have e2:=cg.mp i2; rw [e1] at e2; cases e2
 ·have e1:=cg.mp i1; have e2:=di.mp i2; rw [e1] at e2; cases e2
 ·have e1:=cg.mp i1; have e2:=isInt.mp i2; rw [e1] at e2; cases e2
 ·have e1:=isInt.mp i1; have e2:=cg.mp i2; rw [e1] at e2; cases e2
 ·cases h
theorem rP {K:Fg} {f:D->D->MS M1} (hf:∀ d e x b,f d e=some b->ce K H d x->ce K H e x->b=true):∀ {ds es:List D} {xs:List V} {b:M1},jB f ds es=some b->IsDs K H ds xs->IsDs K H es xs->b=true
 | [],[],_,_,h,_,_=>by unfold jB at h; cases h; rfl
 | [],_::_,_,_,_,i1,i2=>by
  have e1:=ib.mp i1;obtain⟨v,r,e2,_⟩:=cE.mp i2;rw [e1] at e2; cases e2
 | _::_,[],_,_,_,i1,i2=>by
  have e1:=ib.mp i2;obtain⟨v,r,e2,_⟩:=cE.mp i1;rw [e1] at e2; cases e2
 | d::ds,e::es,xs,b,h,i1,i2=>by
  obtain⟨v,r,e1,h1,h2⟩:=cE.mp i1;obtain⟨v',r',e2,h3,h4⟩:=cE.mp i2;rw [e1] at e2;cases e2;unfold jB at h
  split at h
  ·rename_i a c q1 q2
   cases h;rw [hf _ _ _ _ q1 h1 h3,rP hf q2 h2 h4]
   rfl
  ·cases h
theorem ui (I:aD X M6 σ H s):∀ (n:Nat) (d e:D) (x:V) (b:M1),kW n d e=some b->ce X.K H d x->ce X.K H e x->b=true
 | 0,d,e,x,b,h,i1,i2=>uD (by unfold kW at h; exact h) i1 i2
 | n+1,d,e,x,b,h,i1,i2=>by
  rw [qi] at h
  split at h
  ·rename_i xs ys
   obtain⟨a,vs,e1,t1,j1⟩:=bY.mp i1;obtain⟨a',vs',e2,t2,j2⟩:=bY.mp i2;rw [e1] at e2;cases e2;have q:=I.tuple_inj t1 t2;subst q;exact rP (λd e x b=>ui I n d e x b) h j1 j2
  ·exact uD h i1 i2
theorem qb (I:aD X M6 σ H s):∀ (n:Nat) (A:MV) (d e:D) (x y:V) (u w:MQ) (b:M1),A.units+n < cLine->kW n d e=some b->ce X.K H d x->ce X.K H e y->aP x u->aP y w->SeqAt.EqAt A s u w b/\SeqAt.RcAt A s u w b
 | 0,A,d,e,x,y,u,w,b,hu,h,i1,i2,rx,ry=>Al (by unfold kW at h; exact h) i1 i2 rx ry
 | n+1,A,d,e,x,y,u,w,b,hu,h,i1,i2,rx,ry=>by
  have h0:=h;rw [qi] at h
  split at h
  ·rename_i xs ys
   obtain⟨p,vs,rfl,t1,j1⟩:=bY.mp i1;obtain⟨q,vs',rfl,t2,j2⟩:=bY.mp i2;cases rx;cases ry;obtain⟨us,r1,p1,_⟩:=I.tuple t1;obtain⟨ws,r2,p2,_⟩:=I.tuple t2;have l1:=j1.length;have l2:=j2.length;have l3:=r1.length;have l4:=r2.length;have rc:SeqAt.RcAt A s (.ref p) (.ref q) b:=by
    have e:=mf h;have z:=SeqAt.RcAt.tuples (A:=A) (s:=s) (items:=us.toArray) (items2:=ws.toArray) (e:=i_ (kW n) xs ys) (show s.heap.IsTuple p us.toArray from p1) (show s.heap.IsTuple q ws.toArray from p2) (by omega) (λj h1 h2=>by
     simp only [LI] at h1 h2
     obtain⟨d,e,x,y,q1,q2,d1,d2,rx,ry⟩:=tj j1 j2 r1 r2 h1 h2;have:=(qb I n A.in1 d e x y us[j] ws[j] _ (by show A.units+1+n < cLine; omega) (oD h q1 q2) d1 d2 rx ry).1
     simpa using this)
    simp only [LI] at z;rw [<- l3,<- l4,<- l1,<- l2,e] at z;exact z
   refine⟨?_,rc⟩
   by_cases hpq:p=q
   ·subst hpq;have:=ui I (n+1) _ _ _ _ h0 i1 i2;subst this;exact SeqAt.EqAt.same _
   ·exact SeqAt.EqAt.of_refs hpq rc
  ·exact Al h i1 i2 rx ry
theorem z_ {K:Fg} {A:MV} {d e:D} {x y:V} {u w:MQ} {b:M1} (h:CF d e=some b) (i1:ce K H d x) (i2:ce K H e y) (rx:aP x u) (ry:aP y w):SeqAt.RcNeAt A s u w (!b):=by
 unfold CF at h
 split at h
 ·cases h; rw [isInt.mp i1] at rx; rw [isInt.mp i2] at ry; obtain⟨t,rfl⟩:=rx; obtain⟨t',rfl⟩:=ry; exact(SeqAt.RcNeAt.int_int _ _ _ _)
 ·cases h; rw [cg.mp i1] at rx; rw [cg.mp i2] at ry; cases rx; cases ry; exact(SeqAt.RcNeAt.bool_bool _ _)
 ·cases h; rw [i8.mp i1] at rx; rw [i8.mp i2] at ry; obtain⟨t,rfl⟩:=rx; obtain⟨t',rfl⟩:=ry; exact(SeqAt.RcNeAt.str_str _ _ _ _)
 ·cases h; rw [di.mp i1] at rx; rw [di.mp i2] at ry; cases rx; cases ry; exact SeqAt.RcNeAt.none_none
 ·cases h; rw [di.mp i1] at rx; rw [isInt.mp i2] at ry; cases rx; obtain⟨t',rfl⟩:=ry; exact(SeqAt.RcNeAt.none_int _ _)
 ·cases h; rw [isInt.mp i1] at rx; rw [di.mp i2] at ry; obtain⟨t,rfl⟩:=rx; cases ry; exact(SeqAt.RcNeAt.int_none _ _)
 ·cases h; rw [di.mp i1] at rx; rw [cg.mp i2] at ry; cases rx; cases ry; exact(SeqAt.RcNeAt.none_bool _)
 ·cases h; rw [cg.mp i1] at rx; rw [di.mp i2] at ry; cases rx; cases ry; exact(SeqAt.RcNeAt.bool_none _)
 ·cases h; rw [cg.mp i1] at rx; rw [isInt.mp i2] at ry; cases rx; obtain⟨t',rfl⟩:=ry; exact(SeqAt.RcNeAt.bool_int _ _ _)
 ·cases h; rw [isInt.mp i1] at rx; rw [cg.mp i2] at ry; obtain⟨t,rfl⟩:=rx; cases ry; exact(SeqAt.RcNeAt.int_bool _ _ _)
 ·cases h
theorem Fb (I:aD X M6 σ H s) (n:Nat) (A:MV) (d e:D) (x y:V) (u w:MQ) (b:M1) (hu:A.units+n < cLine) (h:kW n d e=some b) (i1:ce X.K H d x) (i2:ce X.K H e y) (rx:aP x u) (ry:aP y w):SeqAt.RcNeAt A s u w (!b):=by
 cases n with
 | zero=>exact z_ (by unfold kW at h; exact h) i1 i2 rx ry
 | succ n=>
  rw [qi] at h
  split at h
  ·rename_i xs ys
   obtain⟨p,vs,rfl,t1,j1⟩:=bY.mp i1;obtain⟨q,vs',rfl,t2,j2⟩:=bY.mp i2;cases rx;cases ry;obtain⟨us,r1,p1,_⟩:=I.tuple t1;obtain⟨ws,r2,p2,_⟩:=I.tuple t2;have l1:=j1.length;have l2:=j2.length;have l3:=r1.length;have l4:=r2.length;have e:=mf h;have z:=SeqAt.RcNeAt.tuples (A:=A) (s:=s) (items:=us.toArray) (items2:=ws.toArray) (e:=i_ (kW n) xs ys) (show s.heap.IsTuple p us.toArray from p1) (show s.heap.IsTuple q ws.toArray from p2) (by omega) (λj h1 h2=>by
    simp only [LI] at h1 h2
    obtain⟨d,e,x,y,q1,q2,d1,d2,rx,ry⟩:=tj j1 j2 r1 r2 h1 h2;have:=(qb I n A.in1 d e x y us[j] ws[j] _ (by show A.units+1+n < cLine; omega) (oD h q1 q2) d1 d2 rx ry).1
    simpa using this)
   simp only [LI] at z;rw [<- l3,<- l4,<- l1,<- l2,e] at z;exact z
  ·exact z_ h i1 i2 rx ry
end
structure EJ (X:Cx) (e:MT) (g:DE):Prop where
 h:PE X e (up X.K g)
structure TJ (X:Cx) (e:MT) (g:DT):Prop where
 h:PT X e (t7 X.K g)
structure WJ (X:Cx) (e:MT) (g:DT):Prop where
 h:PW X e (t7 X.K g)
structure AJ (X:Cx) (e:List MT) (g:DA):Prop where
 h:PA X e (uC X.K g)
structure SJ (X:Cx) (e:MY) (g:DS):Prop where
 h:PS X e (C_ X.K g)
structure zc (X:Cx) (e:List MY) (g:DS):Prop where
 h:q9 X e (C_ X.K g)
structure GJ (X:Cx) (e:MT) (g:DG):Prop where
 h:PG X e (CC X.K g)
structure Jn (X:Cx) (e:List MT) (g:Co):Prop where
 h:Bw X e (KB X.K g)
structure OJ (X:Cx) (e:MS MT) (g:Hk):Prop where
 h:PO X e (KT X.K g)
theorem WJ.pt {X:Cx} {e:MT} {g:DT} (h:WJ X e g):TJ X e g:=⟨PW.pt h.h⟩
section
variable {X:Cx} {a b c:MT} {ga gb gc:DE} {pos:Pos}
theorem ah (i:Nat) {x:Str} (hN:X.N[i]?=some x:=by rfl) (hv:I_ X.env.scope x:=by first | exact Or.inl rfl | exact Or.inr (Or.inl rfl) | exact Or.inr (Or.inr rfl)) (hd:(x == ("__debug__":Str))=false:=by decide) (hcd:(x == ("__classdict__":Str))=false:=by decide):EJ X (.Name x pos) (cJ i):=⟨PE.imp (Ga hN hv hd hcd) fun σ H Q ⟨L,S,k,hL,hS,h,n⟩=>by
  unfold cJ at h
  split at h
  ·rename_i d e
   obtain⟨v,e1,e2⟩:=hL.get e;exact⟨v,e1,n d S v H h (Kp.refl H) hS e2⟩
  ·exact h.elim⟩
theorem ae {i j pos}:EJ X (.Constant (.int i) j pos) (dC (.int i)):=⟨GL G7 λ_=>isInt.mpr rfl⟩
theorem fN {i j pos}:EJ X (.Constant (.bool i) j pos) (dC (.bl i)):=⟨GL Iz λ_=>cg.mpr rfl⟩
theorem fu {j pos}:EJ X (.Constant .none j pos) (dC .non):=⟨GL F8 λ_=>di.mpr rfl⟩
theorem bX {i j pos}:EJ X (.Constant (.str i) j pos) (dC (.str i)):=⟨GL FP λ_=>i8.mpr rfl⟩
theorem II {x:Str} {n:Ty} (hg:Gl X x) (hm:X.mg x=none) (hv:bootBuiltins x=some (.type n.name)) (hn:x≠"__name__":=by decide) (hd:(x == ("__debug__":Str))=false:=by decide):EJ X (.Name x pos) (dC (.ty n)):=⟨GL (CG (v:=.ty n.name) hg hm hv rfl hn hd) λ_=>G6.mpr rfl⟩
theorem ac:AJ X [] jX:=⟨PA.imp pO fun σ H Q z9=>by obtain⟨L,S,k,hL,hS,h,n⟩:=z9; exact n [] S [] H h (Kp.refl H) hS IsDs.nil⟩
theorem aa {es:List MT} {t:DA} (ha:EJ X a ga) (hr:AJ X es t) (hs:starEach (a::es) X.env=(false,eval a X.env)::starEach es X.env:=by exact cK rfl):AJ X (a::es) (cj ga t):=⟨have ha:=ha.h; have hr:=hr.h; PA.imp (mO ha hr hs) fun σ H Q ⟨L,S,k,hL,hS,h,n⟩=>up.go hL hS h λd S1 v H1 h1 k1 hL1 hS1 i1=>uC.go hL1 hS1 h1 λds S2 vs H2 h2 k2 hL2 hS2 i2=>
  n (d::ds) S2 (v::vs) H2 h2 (k1.trans k2) hS2 (IsDs.cons (i1.kp k2) i2)⟩
theorem aG {X:Cx} {x:Str} {pos:Pos} {es:List MT} {t:DA} (n:Nat) (hr:AJ X es t) (hN:X.N[n]?=some x:=by rfl) (hv:I_ X.env.scope x:=by first | exact Or.inl rfl | exact Or.inr (Or.inl rfl) | exact Or.inr (Or.inr rfl)) (hd:(x == ("__debug__":Str))=false:=by decide) (hcd:(x == ("__classdict__":Str))=false:=by decide) (hs:starEach (.Name x pos::es) X.env=(false,eval (.Name x pos) X.env)::starEach es X.env:=by exact cK rfl):AJ X (.Name x pos::es) (cj (cJ n) t):=aa (ah n hN hv hd hcd) hr hs
theorem aq {es:List MT} {x1} {t:DA} (h:AJ X es t):EJ X (.Tuple es x1 pos) (ug t):=⟨have h:=h.h; PE.imp (GO h) fun σ H Q ⟨L,S,k,hL,hS,h,n⟩=>uC.go hL hS h λds S1 vs H1 h1 k1 hL1 hS1 i1=>by
  refine⟨by rw [<- i1.length]; exact h1.1,λp hp=>?_⟩
  have k2:Kp H1 (cF H1 p (.tup vs)):=Kp.new hp;exact n (.tup ds) S1 _ _ h1.2 (k1.trans k2) (hS1.new hp) (bY.mpr ⟨p,vs,rfl,ja.of bJ,i1.kp k2⟩)⟩
theorem f_ {es:List MT} {t:DA} (h:AJ X es t):EJ X (.List es pos) (Kl t):=⟨have h:=h.h; PE.imp (Gd h) fun σ H Q ⟨L,S,k,hL,hS,h,n⟩=>uC.go hL hS h λds S1 vs H1 h1 k1 hL1 hS1 i1=>by
  refine⟨by rw [<- i1.length]; exact h1.1,λp hp=>?_⟩
  exact n (.ref p) _ _ _ (h1.2 p (hS1.free hp)) (k1.trans (Kp.new hp)) (hS1.newL hp i1) (aS.mpr rfl)⟩
theorem aw {op:Operator} {r:D2} (ho:fQ X (binaryOp op) (jP X.K r)) (ha:EJ X a ga) (hb:EJ X b gb):EJ X (.BinOp a op b pos) (qG r ga gb):=⟨have ha:=ha.h; have hb:=hb.h; PE.imp (Jz ho ha hb) sX⟩
theorem lE {op:CmpOp} {r:D2} (ho:fQ X (compareOp op) (jP X.K r)) (ha:EJ X a ga) (hb:EJ X b gb) (hm:behindInMarks op b=false):EJ X (.Compare a [op] [b] pos) (qG r ga gb):=⟨have ha:=ha.h; have hb:=hb.h; PE.imp (DD ho ha hb hm) sX⟩
theorem bq {r:D2} (hr:y_ X (jP X.K r)) (ha:EJ X a ga) (hb:EJ X b gb) (hs:wT b):EJ X (.Subscript a b pos) (qG r ga gb):=⟨have ha:=ha.h; have hb:=hb.h; PE.imp (HW hr ha hb hs) sX⟩
theorem eE {op:UnaryOp} {r:D1} (ho:Jm X (unaryOp op) (KO X.K r)) (ha:EJ X a ga):EJ X (.UnaryOp op a pos) (JV r ga):=⟨have ha:=ha.h; PE.imp (Iw ho ha) fun σ H Q z9=>by obtain⟨L,S,k,hL,hS,h,n⟩:=z9; exact up.go hL hS h λd S1 v H1 h1 k1 hL1 hS1 i1=>⟨d,S1,k,i1,hS1,h1,λd' S' v H' q k3 z1 z2=>n d' S' v H' q (k1.trans k3) z1 z2⟩⟩
theorem ax {op:CmpOp} {r:D2} (ho:fQ X (compareOp op) (jP X.K r)) (ha:EJ X a ga) (hb:EJ X b gb) (hm:behindInMarks op b=false):TJ X (.Compare a [op] [b] pos) (nW (qG r ga gb)):=⟨have ha:=ha.h; have hb:=hb.h; PT.imp (PT.imp (Dx ho ha hb hm) fun σ H Q h=>sX σ H _ h) uR⟩
theorem iu {e:MT} {g:DE} (h:EJ X e g) (he:∀ whole,isTrue e X.env whole=(do let v <- whole; standAt e.pos; holding [v] (truthy v)):=by intro _; rfl):TJ X e (nW g):=⟨have h:=h.h; PT.imp (E6 h he) uR⟩
end
section
variable {X:Cx} {a b c:MT} {ga gb gc:DE} {pos:Pos}
variable {tA tB':DT} {am:List MT}
theorem mC (ha:TJ X a tA):WJ X (.BoolOp .And [a] pos) tA:=⟨have ha:=ha.h; Cs ha⟩
theorem oF (ha:TJ X a tA):WJ X (.BoolOp .Or [a] pos) tA:=⟨have ha:=ha.h; Fw ha⟩
theorem oP (ha:TJ X a tA) (hb:WJ X (.BoolOp .And (b::am) pos) tB'):WJ X (.BoolOp .And (a::b::am) pos) (Ef tA tB'):=⟨have ha:=ha.h; have hb:=hb.h; PW.imp (FO ha hb) fun σ H Q ⟨L,S,k,hL,hS,h,n⟩=>t7.go hL hS h λc S1 H1 h1 k1 hL1 hS1=>by
  cases c with
  | true=>
   rw [if_pos rfl] at h1 ⊢;exact t7.go hL1 hS1 h1 λc2 S2 H2 h2 k2 _ hS2=>n c2 S2 H2 h2 (k1.trans k2) hS2
  | false=>
   rw [if_neg LH] at h1 ⊢;exact n false S1 H1 h1 k1 hS1⟩
theorem o9 (ha:TJ X a tA) (hb:WJ X (.BoolOp .Or (b::am) pos) tB'):WJ X (.BoolOp .Or (a::b::am) pos) (J_ tA tB'):=⟨have ha:=ha.h; have hb:=hb.h; PW.imp (HF ha hb) fun σ H Q ⟨L,S,k,hL,hS,h,n⟩=>t7.go hL hS h λc S1 H1 h1 k1 hL1 hS1=>by
  cases c with
  | true=>
   rw [if_pos rfl] at h1 ⊢;exact n true S1 H1 h1 k1 hS1
  | false=>
   rw [if_neg LH] at h1 ⊢;exact t7.go hL1 hS1 h1 λc2 S2 H2 h2 k2 _ hS2=>n c2 S2 H2 h2 (k1.trans k2) hS2⟩
theorem sw (ha:TJ X a tA):TJ X (.UnaryOp .Not a pos) (HX tA):=⟨have ha:=ha.h; PT.imp (FK ha) fun σ H Q z9=>by obtain⟨L,S,k,hL,hS,h,n⟩:=z9; exact t7.go hL hS h λc S1 H1 h1 k1 hL1 hS1=>n _ S1 H1 h1 k1 hS1⟩
theorem uV {c:MT} (hc:TJ X c tA) (ha:EJ X a ga) (hb:EJ X b gb):EJ X (.IfExp c a b pos) (Le tA ga gb):=⟨have hc:=hc.h; have ha:=ha.h; have hb:=hb.h; PE.imp (A3 hc ha hb) fun σ H Q ⟨L,S,k,hL,hS,h,n⟩=>t7.go hL hS h λd S1 H1 h1 k1 hL1 hS1=>by
  cases d with
  | true=>
   rw [if_pos rfl] at h1 ⊢;exact up.go hL1 hS1 h1 λd2 S2 v2 H2 h2 k2 _ hS2 i2=>n d2 S2 v2 H2 h2 (k1.trans k2) hS2 i2
  | false=>
   rw [if_neg LH] at h1 ⊢;exact up.go hL1 hS1 h1 λd2 S2 v2 H2 h2 k2 _ hS2 i2=>n d2 S2 v2 H2 h2 (k1.trans k2) hS2 i2⟩
end
section
variable {X:Cx} {x:Str} {p pos:Pos} {e:MT} {es:List MT} {t:DA} {id T:M3} {r:cH}
theorem bp (hc:bW X (.builtin id) (pB X.K r)) (hg:Gl X x) (hm:X.mg x=none) (hv:bootBuiltins x=some (.builtin id)) (ha:AJ X (e::es) t) (hn:x≠"__name__":=by decide) (hdb:(x == ("__debug__":Str))=false:=by decide) (he:starEach (e::es) X.env=(false,eval e X.env)::starEach es X.env:=by exact cK rfl) (hpl:(backTo pos (starEach es X.env)).any (·.1)=false:=by exact fM rfl):EJ X (.Call (.Name x p) (e::es) [] pos) (jS r t):=⟨have ha:=ha.h; PE.imp (uT hc hg hm hv ha hn hdb he hpl) uX⟩
theorem du (hc:bW X (.type T) (pB X.K r)) (hg:Gl X x) (hm:X.mg x=none) (hv:bootBuiltins x=some (.type T)) (ha:AJ X (e::es) t) (hn:x≠"__name__":=by decide) (hdb:(x == ("__debug__":Str))=false:=by decide) (he:starEach (e::es) X.env=(false,eval e X.env)::starEach es X.env:=by exact cK rfl) (hpl:(backTo pos (starEach es X.env)).any (·.1)=false:=by exact fM rfl):EJ X (.Call (.Name x p) (e::es) [] pos) (jS r t):=⟨have ha:=ha.h; PE.imp (nG hc hg hm hv ha hn hdb he hpl) uX⟩
theorem Dw {n:Nat} {F:cH} (c:bj X.prog X.w X.K X.mg X.base x n F) (hr:cI n X.A) (hg:Gl X x) (ha:AJ X (e::es) t) (hdb:(x == ("__debug__":Str))=false:=by decide) (he:starEach (e::es) X.env=(false,eval e X.env)::starEach es X.env:=by exact cK rfl) (hpl:(backTo pos (starEach es X.env)).any (·.1)=false:=by exact fM rfl):EJ X (.Call (.Name x p) (e::es) [] pos) (jS F t):=⟨GC (c:=c) (hr:=hr) (hg:=hg) (ha:=ha.h) (hdb:=hdb) (he:=he) (hpl:=hpl)⟩
theorem dq {n m:Nat} {F:cH} (c:bj X.prog X.w X.K X.mg X.base x n F) (hr:cI m X.A) (ha:AJ X (e::es) t) (hg:Gl X x:=by exact rfl) (le:n<=m:=by decide) (hdb:(x == ("__debug__":Str))=false:=by decide) (he:starEach (e::es) X.env=(false,eval e X.env)::starEach es X.env:=by exact cK rfl) (hpl:(backTo pos (starEach es X.env)).any (·.1)=false:=by exact fM rfl):EJ X (.Call (.Name x p) (e::es) [] pos) (jS F t):=Dw c (hr.mono le) hg ha hdb he hpl
theorem lZ:OJ X none Jq:=⟨by
 intro M6 s σ H Q I h;obtain⟨L,S,k,hL,hS,h,n⟩:=h;exact CA M6 s σ H Q I (n none S H h (Kp.refl H) hS)⟩
theorem cL {e:MT} {g:DE} (he:EJ X e g):OJ X (some e) (Iq g):=⟨by
 have he:=he.h;intro M6 s σ H Q I h;obtain⟨L,S,k,hL,hS,h,n⟩:=h;refine Du he M6 s σ H Q I (up.go hL hS h λd S1 v H1 h1 k1 hL1 hS1 i1=>?_)
 cases d with
 | int i=>
  have e1:=isInt.mp i1;subst e1;exact⟨i,rfl,n (some i) S1 H1 h1 k1 hS1⟩
 | _=>exact(show False from h1).elim⟩
end
section
variable {X:Cx} {st:MY} {am:List MY} {g h:DS} {e:MT} {ge:DE} {pos:Pos}
theorem aF:zc X [] IS:=⟨q9.imp Dc λN σ H z9=>by obtain⟨L,S,M,hL,hS,h,r⟩:=z9; exact r.nx L S σ H h (Kp.refl H) hL hS⟩
theorem af (h1:SJ X st g) (h2:zc X am h):zc X (st::am) (yI g h):=⟨have h1:=h1.h; have h2:=h2.h; q9.imp (Bl h1 h2) C1⟩
theorem aj (h1:SJ X st g):zc X [st] g:=⟨have h1:=h1.h; DR h1⟩
theorem kQ (he:EJ X e ge) (hs:swapsWith e none pos.line X.env=pure false:=by rfl):SJ X (.Expr e pos) (HE ge):=⟨have he:=he.h; PS.imp (C8 he hs) λN σ H z9=>by obtain⟨L,S,M,hL,hS,h,r⟩:=z9; exact up.go hL hS h λd S1 v H1 h1 k1 hL1 hS1 _=>r.nx L S1 σ H1 h1 k1 hL1 hS1⟩
theorem ao (he:EJ X e ge):SJ X (.Return (some e) pos) (GG ge):=⟨have he:=he.h; PS.imp (FH he) λN σ H z9=>by obtain⟨L,S,M,hL,hS,h,r⟩:=z9; exact up.go hL hS h λd S1 v H1 h1 k1 _ hS1 i1=>r.rt d S1 v H1 h1 k1 hS1 i1⟩
theorem aE {c:MT} {a b:List MY} {gc:DT} (hc:TJ X c gc) (ha:zc X a g) (hb:zc X b h):SJ X (.If c a b pos) (GI gc g h):=⟨have hc:=hc.h; have ha:=ha.h; have hb:=hb.h; PS.imp (HG hc ha hb) λN σ H ⟨L,S,M,hL,hS,q,r⟩=>t7.go hL hS q λt S1 H1 h1 k1 hL1 hS1=>by
  cases t with
  | true=>
   rw [if_pos rfl] at h1 ⊢;exact⟨L,S1,M,hL1,hS1,h1,r.kp k1⟩
  | false=>
   rw [if_neg LH] at h1 ⊢;exact⟨L,S1,M,hL1,hS1,h1,r.kp k1⟩⟩
theorem pT:SJ X st E_:=⟨PS.imp A8 λN σ H z9=>by obtain⟨L,S,M,hL,hS,h,r⟩:=z9; exact h.elim⟩
theorem ai {i:Nat} {x:Str} {pos':Pos} (hN:X.N.Nodup) (he:EJ X e ge) (hi:X.N[i]?=some x:=by rfl) (hx:Hl X.env.scope x:=by first | exact Or.inl rfl | exact Or.inr rfl) (hs:swapsWith e (some (.Name x pos')) pos.line X.env=pure false:=by rfl) (hf:X.fn x=true\/X.env.scope.names.lookup x=some .local:=by first | exact .inl rfl | exact .inr rfl | assumption):SJ X (.Assign [.Name x pos'] e pos) (uB i ge):=⟨have he:=he.h; PS.imp (E1 hN hi hx he hs hf) λN σ H z9=>by obtain⟨L,S,M,hL,hS,h,r⟩:=z9; exact up.go hL hS h λd S1 v H1 h1 k1 hL1 hS1 i1=>r.nx _ S1 _ H1 h1 k1 (hL1.set i1 i) hS1⟩
theorem Bi {i j:Nat} {x y:Str} {a b:MT} {ta:DA} {px py pt:Pos} {kt k2 pt2} (hc:X.calm=true) (hN:X.N.Nodup) (hij:i≠j) (ha:AJ X [a,b] ta) (hi:X.N[i]?=some x:=by rfl) (hj:X.N[j]?=some y:=by rfl) (hx:X.env.scope.names.lookup x=some .local:=by rfl) (hy:X.env.scope.names.lookup y=some .local:=by rfl) (hw:swappedStores [.Tuple [.Name x px,.Name y py] kt pt] (.Tuple [a,b] k2 pt2) X.env=pure (some [x,y]):=by rfl) (hs:swapsWithSole [.Tuple [.Name x px,.Name y py] kt pt] (.Tuple [a,b] k2 pt2) pos.line X.env=pure false:=by rfl):SJ X (.Assign [.Tuple [.Name x px,.Name y py] kt pt] (.Tuple [a,b] k2 pt2) pos) (JT i j ta):=⟨have ha:=ha.h; PS.imp (FA hc hN hi hj hij hx hy ha hw hs) λN σ H ⟨L,S,M,hL,hS,h,r⟩=>uC.go hL hS h λds S1 vs H1 h1 k1 hL1 hS1 i1=>by
  split at h1
  ·obtain⟨v,u,rfl,j1,j2⟩:=rN i1;exact⟨v,u,rfl,r.nx _ S1 _ H1 h1 k1 ((hL1.set j1 i).set j2 j) hS1⟩
  ·exact h1.elim⟩
theorem ar {i:Nat} {x:Str} (hN:X.N.Nodup) (hi:X.N[i]?=some x:=by rfl) (hx:Hl X.env.scope x:=by first | exact Or.inl rfl | exact Or.inr rfl) (hf:X.fn x=true\/X.env.scope.names.lookup x=some .local:=by first | exact .inl rfl | exact .inr rfl | assumption):GJ X (.Name x pos) (dU i):=⟨PG.imp (tu hN hi hx hf) λv σ H Q z9=>by obtain⟨d,L,S,k,i1,hL,hS,h,n⟩:=z9; exact n _ S _ H h (Kp.refl H) (hL.set i1 i) hS⟩
theorem eY:Jn X [] Eh:=⟨Bw.imp Dd λv σ H Q ⟨d,L,S,k,i1,hL,hS,h,n⟩=>by
 obtain⟨rfl,h⟩:=h;exact⟨ib.mp i1,n L S σ H h (Kp.refl H) hL hS⟩⟩
theorem aW {es:List MT} {t:DG} {u:Co} (h1:GJ X e t) (h2:Jn X es u) (hs:(assignEach (e::es) X.env).map (·.2)=assign e X.env::(assignEach es X.env).map (·.2):=by rfl):Jn X (e::es) (wj t u):=⟨have h1:=h1.h; have h2:=h2.h; Bw.imp (Ag h1 h2 hs) λvs σ H Q ⟨ds,L,S,k,i1,hL,hS,h,n⟩=>by
  cases ds with
  | nil=>exact(show False from h).elim
  | cons d r=>
   obtain⟨v,vr,rfl,j1,j2⟩:=cE.mp i1;exact⟨v,vr,rfl,d,L,S,_,j1,hL,hS,h,λL1 S1 σ1 H1 q k1 hL1 hS1=>⟨r,L1,S1,k,j2.kp k1,hL1,hS1,q,λL' S' σ' H' q' k'=>n L' S' σ' H' q' (k1.trans k')⟩⟩⟩
theorem cD {tg e:MT} {g:DG} (he:EJ X e ge) (hg:GJ X tg g) (hs:swapsWithSole [tg] e pos.line X.env=pure false:=by rfl) (hw:swappedStores [tg] e X.env=pure none:=by rfl) (h1:(assignEach [tg] X.env).map (·.2)=[assign tg X.env]:=by rfl):SJ X (.Assign [tg] e pos) (Iu ge g):=⟨have he:=he.h; have hg:=hg.h; PS.imp (FV he hg hs hw h1) λN σ H z9=>by obtain⟨L,S,M,hL,hS,h,r⟩:=z9; exact up.go hL hS h λd S1 v H1 h1 k1 hL1 hS1 i1=>
  ⟨d,L,S1,M.nx,i1,hL1,hS1,h1,λL' S' σ' H' q k' hL' hS'=>r.nx L' S' σ' H' q (k1.trans k') hL' hS'⟩⟩
theorem lu {c:MT} {body:List MY} {gc:DT} (hp:PassesOwn (model X.prog X.w) X.A X.env X.xe) (hc:TJ X c gc) (hb:zc X body g):SJ X (.While c body [] pos) (Hc gc g):=⟨have hc:=hc.h; have hb:=hb.h; PS.imp (BC hp hc hb) λN σ H ⟨L,S,M,hL,hS,⟨W,⟨m0,w0⟩,turn⟩,r⟩=>by
  refine⟨λm σ H1=>∃ L S,Lc X.K H1 L σ/\Hs X.K H1 S/\W m L S/\Kp H H1,⟨m0,L,S,hL,hS,w0,Kp.refl H⟩,?_⟩
  rintro m σ1 H1 ⟨L1,S1,hL1,hS1,w1,k1⟩;refine t7.go hL1 hS1 (turn m L1 S1 w1) λt S2 H2 h2 k2 hL2 hS2=>?_
  cases t with
  | true=>
   rw [if_pos rfl] at h2 ⊢;obtain⟨N',hN,hb⟩:=h2;refine⟨fun σ' H'=>∃ L' S',Lc X.K H' L' σ'/\Hs X.K H' S'/\N' L' S'/\Kp H H',?_,L1,S2,_,hL2,hS2,hb,?_⟩
   ·rintro σ' H' ⟨L',S',hL',hS',n',k'⟩;obtain⟨m',hm,w'⟩:=hN L' S' n';exact⟨m',hm,L',S',hL',hS',w',k'⟩
   ·have r2:=r.kp (k1.trans k2);exact⟨λL' S' σ' H' n' k' hL' hS'=>⟨L',S',hL',hS',n',(k1.trans k2).trans k'⟩,r2.rt,r2.nx,λL' S' σ' H' n' k' hL' hS'=>⟨L',S',hL',hS',n',(k1.trans k2).trans k'⟩⟩
  | false=>
   rw [if_neg LH] at h2 ⊢;exact(r.kp (k1.trans k2)).nx L1 S2 σ1 H2 h2 (Kp.refl H2) hL2 hS2⟩
theorem cV {tg a:MT} {body:List MY} {ta:DA} {gg:DG} {p pos':Pos} (hp:PassesOwn (model X.prog X.w) X.A X.env X.xe) (hc:X.calm=true) (hgl:Gl X "range") (hm:X.mg "range"=none) (ha:AJ X [a] ta) (hg:GJ X tg gg) (hb:zc X body g) (hs1:starEach [a] X.env=[(false,eval a X.env)]:=by rfl) (hs:∀ x,foldedSetIterable (.Call (.Name "range" p) [a] [] pos') X.env x=pure x:=by intro _; rfl):SJ X (.For tg (.Call (.Name "range" p) [a] [] pos') body [] pos) (IH ta gg g):=⟨have ha:=ha.h; have hg:=hg.h; have hb:=hb.h; PS.imp (sD hp hc (nT hgl hm ha hs1) hg hb hs) λN σ H ⟨L,S,M,hL,hS,h,r⟩=>uC.go hL hS h λds S1 vs H1 h1 k1 hL1 hS1 i1=>by
  split at h1
  ·obtain⟨v,rfl,j⟩:=dM i1;have e:=isInt.mp j;subst e;obtain⟨⟨h2,h3⟩,h1⟩:=h1;refine⟨_,rfl,h2,h3,mH hL1 hS1 h1 (r.kp k1) (λi d S2 H2 e k2 hS2 _=>?_) λS2 H2 k2 hS2 _=>?_⟩
   ·rw [L8] at e;cases q:(List.range (Int.toNat _))[i]? with
    | none=>rw [q] at e; cases e
    | some z=>
     rw [q] at e;cases e;have hz:=Mf.mp q;obtain⟨hz1,hz2⟩:=hz;rw [List.length_range] at hz1;rw [List.getElem_range] at hz2;subst hz2;exact⟨hz1,λx H' y=>⟨y.1,by rw [y.2]; exact isInt.mpr (by rw [Int.zero_add])⟩⟩
   ·rw [LG,List.length_range];exact LD _
  ·exact h1.elim⟩
end
section
variable {P:MU} {w:MW} {K:Fg} {mg:Str->MS MQ} {base:MX}
theorem _root_.L2.yP.okJ {x M7:Str} {st:MY} {f:MR} {fd:FuncData} {N ps:List Str} {k:Nat} {F:cH} (Fn:yP K x M7 st f fd) (Sc:au N ps (ap st)) (len:∀ ds S k,F ds S k->ds.length=ps.length)
  (hbody:∀ (cdv:MQ) (A:MV) (outer:List Env) (s:MP) (H:Hp) (E:XK),cI k (A.deeper (envOfC M7 (ap st) s.heap.objs.size f cdv))->
   ∃ g,zc (u5 c8 P w K mg base N M7 (ap st) f cdv A outer s H E).nox (dh st) g/\
    ∀ ds S k,F ds S k->g {nx:=λ_ S'=>k .non S',rt:=k} (ds.map some++List.replicate (N.length - ps.length) none) S):aT P w K mg base c8 (k+1) f fd ps (dk K F):=
 Fn.okD Sc len λcdv A outer s H E hr=>let ⟨g,h,q⟩:=hbody cdv A outer s H E hr; ⟨g,h.h,q⟩
end
end DL
namespace L2
open PySem PySem.Spec PyProof.Rows
section
variable {X:Cx} {pos:Pos}
def Kh (K:PySem.W.Frag) (n:Nat) (t:AF):TG:=λv σ H Q=>∃ a xs,v=.ref a/\ic K H a xs/\xs.length=n/\t xs σ H Q
theorem G1 {es:List MT} {k:Nat} {t:AF} {n:Nat} (hc:X.calm=true) (h:Bw X es t)
  (hn:(assignEach es X.env).length=n:=by rfl) (hst:(assignEach es X.env).findIdx? (·.1)=none:=by rfl):PG X (.Tuple es k pos) (Kh X.K n t):=by
 intro M6 s σ H v u Q I r hw;obtain⟨a,xs,e1,hq,hl,hw⟩:=hw;subst e1;cases r;obtain⟨its,rv,ht,hz⟩:=I.list hq;have e2:(assignEach es X.env).length=its.toArray.size:=by simp [hn,<- hl,rv.length]
 rw [arm_assign_Tuple];refine gt (wpAny_standAt ?_);unfold unpack;rw [e2,hst];refine gt (L5 (PySem.W.kun_itemsOf (I.ok.hd hc) ht.isList λh' hx=>?_))
 have I1:aD X M6 σ H {s with heap:=h'}:=I.kept (t':=s.toks) λb o e=>hx b o (LK (LC e)) e
 exact h M6 _ σ H xs _ Q I1 (by simpa using rv) hw
theorem PG.or {e:MT} {t t':TG} (h:PG X e t) (h':PG X e t'):PG X e (λv σ H Q=>t v σ H Q\/t' v σ H Q):=by
 intro M6 s σ H v u Q I r q;rcases q with q | q
 ·exact h M6 s σ H v u Q I r q
 ·exact h' M6 s σ H v u Q I r q
end
def og (X:Cx) (scope:Scope):List (MS Nat)->List Str->Prop
 | some j::r,x::xs=>(X.N[j]?=some x/\(X.env.scope.names.lookup x=some .cell\/X.env.scope.names.lookup x=some .free)/\((relabel scope X.env).names.lookup x=some .cell\/(relabel scope X.env).names.lookup x=some .free))/\og X scope r xs
 | none::r,_::xs=>og X scope r xs
 | _,_=>True
theorem og.get {X:Cx} {scope:Scope}:∀ {cap:List (MS Nat)} {N:List Str},og X scope cap N->∀ (i j:Nat) (x:Str),cap[i]?=some (some j)->N[i]?=some x->
  X.N[j]?=some x/\(X.env.scope.names.lookup x=some .cell\/X.env.scope.names.lookup x=some .free)/\((relabel scope X.env).names.lookup x=some .cell\/(relabel scope X.env).names.lookup x=some .free)
 | [],_,_,_,_,_,h,_=>by simp at h
 | _::_,[],_,_,_,_,_,h=>by simp at h
 | some _::_,_::_,h,0,j,x,h1,h2=>by
  simp at h1 h2
  subst h1 h2;exact h.1
 | none::_,_::_,_,0,j,x,h1,_=>by simp at h1
 | some _::_,_::_,h,i+1,j,x,h1,h2=>og.get h.2 i j x (by simpa using h1) (by simpa using h2)
 | none::r,_::xs,h,i+1,j,x,h1,h2=>og.get (show og X scope r xs from h) i j x (by simpa using h1) (by simpa using h2)
def uz (X:Cx):List (Str×MR)->Prop
 | []=>True
 | p::r=>X.env.cells.lookup p.1=some p.2/\uz X r
theorem uz.mem {X:Cx}:∀ {cl:List (Str×MR)},uz X cl->∀ p∈cl,X.env.cells.lookup p.1=some p.2
 | [],_,p,hp=>by simp at hp
 | q::r,h,p,hp=>by
  rcases LJ.mp hp with e | e
  ·subst e; exact h.1
  ·exact uz.mem h.2 p e
theorem cB {X:Cx} {scope:Scope} {cl:List (Str×MR)} {N:List Str} {cap:List (MS Nat)} (h1:scope.kind=.function) (h2:closureFor scope X.env=pure cl) (h3:(scope.names.all λy=>y.2 != NameKind.cell)=true)
  (h4:(scope.names.all λy=>y.2 != NameKind.local || scope.names.lookup y.1 == some NameKind.local)=true) (h5:uz X cl)
  (h6:((relabel scope X.env).names.all λy=>(y.2 != NameKind.cell && y.2 != NameKind.free) || (cl.lookup y.1).isSome)=true) (h7:cap.length=N.length) (h8:og X scope cap N):cZ X scope cl N cap:=⟨h1,h2,h3,h4,h5.mem,h6,h7,h8.get⟩
end L2
namespace DL
open PySem PySem.Spec PyProof.Rows L2
section
variable {X:Cx} {pos:Pos}
def mD (n:Nat) (t:Co):DG:=λd L S k=>match aR S d with
 | some p=>p.1.length=n/\t p.1 L S k
 | none=>False
theorem Gc {es:List MT} {k:Nat} {t:Co} {n:Nat} (hc:X.calm=true) (h:Jn X es t) (hn:(assignEach es X.env).length=n:=by rfl) (hst:(assignEach es X.env).findIdx? (·.1)=none:=by rfl):GJ X (.Tuple es k pos) (mD n t):=
 ⟨PG.imp (PG.or (Gj hc h.h hn hst) (G1 hc h.h hn hst)) λv σ H Q ⟨d,L,S,k,i1,hL,hS,h,m⟩=>by
  cases d with
  | tup ds=>
   obtain⟨a,xs,rfl,t1,j⟩:=bY.mp i1;exact .inl ⟨a,xs,rfl,t1,by rw [<- j.length]; exact h.1,ds,L,S,k,j,hL,hS,h.2,m⟩
  | rl ds=>
   obtain⟨a,xs,rfl,t1,j⟩:=uG.mp i1;exact .inr ⟨a,xs,rfl,t1.sq,by rw [<- j.length]; exact h.1,ds,L,S,k,j,hL,hS,h.2,m⟩
  | ref a=>
   have e1:=aS.mp i1;subst e1;cases z:S a with
   | none=>simp only [mD,aR,z] at h
   | some o=>
    cases o with
    | dic=>simp only [mD,aR,z] at h
    | exc _=>simp only [mD,aR,z] at h
    | fn _=>simp only [mD,aR,z] at h
    | tbl _=>simp only [mD,aR,z] at h
    | gen _=>simp only [mD,aR,z] at h
    | lst ds=>
     simp only [mD,aR,z] at h;obtain⟨xs,hl,j⟩:=hS.lst z;exact .inr ⟨a,xs,rfl,ic.of hl,by rw [<- j.length]; exact h.1,ds,L,S,k,j,hL,hS,h.2,m⟩
  | _=>exact(show False from h).elim⟩
end
def xU (cap:List (MS Nat)) (L:Lo):Lo:=cap.map λo=>match o with
 | some j=>(L[j]?).join
 | none=>none
theorem Lc.cap {K:Fg} {H:Hp} {L:Lo} {σ:L2.St} (hL:Lc K H L σ):∀ cap:List (MS Nat),Lc K H (xU cap L) (kU cap σ)
 | []=>rfl
 | Option.none::r=>⟨_,_,rfl,Lc.cap hL r⟩
 | Option.some j::r=>by
  show Lc K H ((L[j]?).join::xU r L) ((σ[j]?).join::kU r σ)
  cases e:L[j]? with
  | none=>exact⟨_,_,rfl,Lc.cap hL r⟩
  | some o=>
   cases o with
   | none=>exact⟨_,_,rfl,Lc.cap hL r⟩
   | some d=>
    obtain⟨v,e1,e2⟩:=hL.get e;rw [e1];exact⟨v,_,rfl,e2,Lc.cap hL r⟩
abbrev DB:=Lo->DH->(MS D->DH->Prop)->Prop
def eQ (ge:DE):DB:=λL S k=>ge L S λv S1=>k (some v) S1
def lT (c:DT) (ge:DE):DB:=λL S k=>c L S λb S1=>if b=true then ge L S1 λv S2=>k (some v) S2 else k none S1
def aX (ok:DH->Prop) (p:MR) (g:DG) (bd:DB) (k:DK):List D->List D->Lo->DH->Prop
 | [],_,_,S=>ok S/\k (.ref p) S
 | d::r,acc,L,S=>ok S/\g d L S λL1 S1=>bd L1 S1 λo S2=>match o with
  | some v=>S2 p=some (.lst acc)/\acc.length < sizeLine/\aX ok p g bd k r (acc++[v]) L1 (put S2 p (.lst (acc++[v])))
  | none=>aX ok p g bd k r acc L1 S2
def Ae (cap:List (MS Nat)) (ta:DA) (g:DG) (bd:DB):DE:=λL S k=>ta L S λds S1=>match ds with
 | [.int n]=>(-(2 ^ 62)<=n/\n < 2 ^ 62)/\∀ p,S1 p=none->aX (λ_=>True) p g bd k ((List.range n.toNat).map λi=>D.int (i:Nat)) [] (xU cap L) (put S1 p (.lst []))
 | _=>False
section
variable {K:Fg} {ok:DH->Prop} {gg:DG} {ge:DE} {gc:DT} {k:DK} {ds:List D} {L:Lo} {S:DH} {σ:L2.St} {H:Hp} {J:It} {Q:VK} {p:MR}
theorem gJ (hL:Lc K H L σ) (hS:Hs K H S) (hp:H p=none) (h:aX ok p gg (eQ ge) k ds [] L (put S p (.lst [])))
  (n:∀ d S' v H',k d S'->Kp H H'->Hs K H' S'->ce K H' d v->Q v H')
  (hgo:∀ i d S1 H1,ds[i]?=some d->Kp H H1->Hs K H1 S1->ok S1->J.go i H1/\∀ x H',J.yld i H1 x H'->H'=H1/\ce K H1 d x)
  (hst:∀ S1 H1,Kp H H1->Hs K H1 S1->ok S1->J.stop ds.length H1):
  ∃ W:Nat->Nat->L2.St->Hp->Prop,(∃ m,W 0 m σ (cF H p (.lst [])))/\∀ i m σ' H',W i m σ' H'->
   (J.stop i H'/\Q (.ref p) H')\/(J.go i H'/\∃ N:L2.St->Hp->Prop,(∀ σ2 H2,N σ2 H2->∃ m',m' < m/\W (i+1) m' σ2 H2)/\∀ x H2,J.yld i H' x H2->CC K gg x σ' H2 fun σ3 H3=>up K ge σ3 H3 λv H4=>∃ ys,H4 p=some (.lst ys)/\ys.length < sizeLine/\N σ3 (cF H4 p (.lst (ys++[v])))):=by
 refine⟨λi m σ1 H1=>m=ds.length - i/\i<=ds.length/\∃ acc L1 S1,Lc K H1 L1 σ1/\Hs K H1 S1/\Kp H H1/\aX ok p gg (eQ ge) k (ds.drop i) acc L1 S1,⟨ds.length,by simp,Mw _,[],L,_,hL.kp (Kp.new hp),hS.newL hp IsDs.nil,Kp.new hp,h⟩,?_⟩
 rintro i m σ1 H1 ⟨rfl,hi,acc,L1,S1,hL1,hS1,k1,w1⟩
 by_cases hlt:i < ds.length
 ·have e:ds.drop i=ds[i]::ds.drop (i+1):=Ms hlt;rw [e] at w1;obtain⟨o1,w1⟩:=w1;obtain⟨g1,y1⟩:=hgo i ds[i] S1 H1 (by simp [hlt]) k1 hS1 o1
  refine .inr ⟨g1,fun σ' H'=>i+1<=ds.length/\∃ acc L' S',Lc K H' L' σ'/\Hs K H' S'/\Kp H H'/\aX ok p gg (eQ ge) k (ds.drop (i+1)) acc L' S',fun σ' H' z9=>by obtain⟨q1,q2⟩:=z9; exact⟨ds.length - (i+1),by omega,rfl,q1,q2⟩,λx H' y=>?_⟩
  obtain⟨rfl,ix⟩:=y1 x H' y;refine⟨ds[i],L1,S1,_,ix,hL1,hS1,w1,λL2 S2 σ2 H2 q k2 hL2 hS2=>up.go hL2 hS2 q λd S3 v H3 h3 k3 hL3 hS3 i3=>?_⟩
  obtain⟨z1,z2,z3⟩:=h3;obtain⟨xs,hl,j⟩:=hS3.lst z1;have k4:Kp H3 (cF H3 p (.lst (xs++[v]))):=Kp.mut hl (λz=>z)
  exact⟨xs,hl,by rw [<- j.length]; exact z2,hlt,_,L2,_,hL3.kp k4,hS3.setL hl (j.append (IsDs.cons i3 IsDs.nil)),((k1.trans k2).trans k3).trans k4,z3⟩
 ·have e:i=ds.length:=by omega
  subst e;rw [List.drop_length] at w1;obtain⟨o1,w1⟩:=w1;exact .inl ⟨hst S1 H1 k1 hS1 o1,n _ S1 _ H1 w1 k1 hS1 (aS.mpr rfl)⟩
theorem oh (hL:Lc K H L σ) (hS:Hs K H S) (hp:H p=none) (h:aX ok p gg (lT gc ge) k ds [] L (put S p (.lst [])))
  (n:∀ d S' v H',k d S'->Kp H H'->Hs K H' S'->ce K H' d v->Q v H')
  (hgo:∀ i d S1 H1,ds[i]?=some d->Kp H H1->Hs K H1 S1->ok S1->J.go i H1/\∀ x H',J.yld i H1 x H'->H'=H1/\ce K H1 d x)
  (hst:∀ S1 H1,Kp H H1->Hs K H1 S1->ok S1->J.stop ds.length H1):
  ∃ W:Nat->Nat->L2.St->Hp->Prop,(∃ m,W 0 m σ (cF H p (.lst [])))/\∀ i m σ' H',W i m σ' H'->
   (J.stop i H'/\Q (.ref p) H')\/(J.go i H'/\∃ N:L2.St->Hp->Prop,(∀ σ2 H2,N σ2 H2->∃ m',m' < m/\W (i+1) m' σ2 H2)/\∀ x H2,J.yld i H' x H2->CC K gg x σ' H2 fun σ3 H3=>t7 K gc σ3 H3 λb H3'=>if b=true then up K ge σ3 H3' λv H4=>∃ ys,H4 p=some (.lst ys)/\ys.length < sizeLine/\N σ3 (cF H4 p (.lst (ys++[v]))) else N σ3 H3'):=by
 refine⟨λi m σ1 H1=>m=ds.length - i/\i<=ds.length/\∃ acc L1 S1,Lc K H1 L1 σ1/\Hs K H1 S1/\Kp H H1/\aX ok p gg (lT gc ge) k (ds.drop i) acc L1 S1,⟨ds.length,by simp,Mw _,[],L,_,hL.kp (Kp.new hp),hS.newL hp IsDs.nil,Kp.new hp,h⟩,?_⟩
 rintro i m σ1 H1 ⟨rfl,hi,acc,L1,S1,hL1,hS1,k1,w1⟩
 by_cases hlt:i < ds.length
 ·have e:ds.drop i=ds[i]::ds.drop (i+1):=Ms hlt;rw [e] at w1;obtain⟨o1,w1⟩:=w1;obtain⟨g1,y1⟩:=hgo i ds[i] S1 H1 (by simp [hlt]) k1 hS1 o1
  refine .inr ⟨g1,fun σ' H'=>i+1<=ds.length/\∃ acc L' S',Lc K H' L' σ'/\Hs K H' S'/\Kp H H'/\aX ok p gg (lT gc ge) k (ds.drop (i+1)) acc L' S',fun σ' H' z9=>by obtain⟨q1,q2⟩:=z9; exact⟨ds.length - (i+1),by omega,rfl,q1,q2⟩,λx H' y=>?_⟩
  obtain⟨rfl,ix⟩:=y1 x H' y;refine⟨ds[i],L1,S1,_,ix,hL1,hS1,w1,λL2 S2 σ2 H2 q k2 hL2 hS2=>t7.go hL2 hS2 q λb S2' H2' h2 k2' hL2' hS2'=>?_⟩
  cases b with
  | true=>
   rw [if_pos rfl] at h2 ⊢;refine up.go hL2' hS2' h2 λd S3 v H3 h3 k3 hL3 hS3 i3=>?_
   obtain⟨z1,z2,z3⟩:=h3;obtain⟨xs,hl,j⟩:=hS3.lst z1;have k4:Kp H3 (cF H3 p (.lst (xs++[v]))):=Kp.mut hl (λz=>z)
   exact⟨xs,hl,by rw [<- j.length]; exact z2,hlt,_,L2,_,hL3.kp k4,hS3.setL hl (j.append (IsDs.cons i3 IsDs.nil)),(((k1.trans k2).trans k2').trans k3).trans k4,z3⟩
  | false=>
   rw [if_neg LH] at h2 ⊢;exact⟨hlt,acc,L2,S2',hL2',hS2',(k1.trans k2).trans k2',h2⟩
 ·have e:i=ds.length:=by omega
  subst e;rw [List.drop_length] at w1;obtain⟨o1,w1⟩:=w1;exact .inl ⟨hst S1 H1 k1 hS1 o1,n _ S1 _ H1 w1 k1 hS1 (aS.mpr rfl)⟩
end
theorem ua {K:Fg} {H:Hp} {n:Int}:∀ i d (S1:DH) H1,((List.range n.toNat).map λi=>D.int (i:Nat))[i]?=some d->Kp H H1->Hs K H1 S1->(λ_=>True:DH->Prop) S1->(Jj 0 n.toNat).go i H1/\∀ x H',(Jj 0 n.toNat).yld i H1 x H'->H'=H1/\ce K H1 d x:=by
 intro i d S1 H1 e _ _ _;rw [L8] at e;cases q:(List.range (Int.toNat _))[i]? with
 | none=>rw [q] at e; cases e
 | some z=>
  rw [q] at e;cases e;obtain⟨hz1,hz2⟩:=Mf.mp q;rw [List.length_range] at hz1;rw [List.getElem_range] at hz2;subst hz2;exact⟨hz1,λx H' y=>⟨y.1,by rw [y.2]; exact isInt.mpr (by rw [Int.zero_add])⟩⟩
section
variable {X:Cx} {elt tg iter c a:MT} {scope:Scope} {cl:List (Str×MR)} {N:List Str} {cap:List (MS Nat)} {pos p pos':Pos} {gg:DG} {ge gi:DE} {gc:DT} {ta:DA}
theorem i6 (hc:X.calm=true) (Sc:cZ X scope cl N cap) (hgl:Gl X "range") (hm:X.mg "range"=none) (ha:AJ X [a] ta) (hg:∀ s0 H0 ex C,GJ (fI X scope cl N s0 H0 ex C) tg gg) (he:∀ s0 H0 ex C,EJ (fI X scope cl N s0 H0 ex C) elt ge)
  (hs1:starEach [a] X.env=[(false,eval a X.env)]:=by exact cK rfl) (hs:∀ x,foldedSetIterable (.Call (.Name "range" p) [a] [] pos') X.env x=pure x:=by intro _; rfl):
  EJ X (.ListComp elt [⟨tg,.Call (.Name "range" p) [a] [] pos',[],0⟩] scope pos) (Ae cap ta gg (eQ ge)):=
 ⟨PE.imp (tQ hc Sc (nT hgl hm ha.h hs1) (λs0 H0 ex C=>(hg s0 H0 ex C).h) (λs0 H0 ex C=>(he s0 H0 ex C).h) hs) fun σ H Q ⟨L,S,k,hL,hS,h,n⟩=>uC.go hL hS h λds S1 vs H1 h1 k1 hL1 hS1 i1=>by
  split at h1
  ·obtain⟨v,rfl,j⟩:=dM i1;have e:=isInt.mp j;subst e;obtain⟨⟨h2,h3⟩,h1⟩:=h1;refine⟨_,rfl,h2,h3,λD hD=>gJ (hL1.cap cap) hS1 hD (h1 D (hS1.free hD)) (λd S' v H' q k3=>n d S' v H' q (k1.trans k3)) ua λS2 H2 k2 hS2 _=>?_⟩
   rw [LG,List.length_range];exact LD _
  ·exact h1.elim⟩
end
def yU (K:Fg) (mg:Str->MS MQ) (x:Str) (ns:List Int):Prop:=∃ p o its n,mg x=some (.ref p)/\K.lookup p=some o/\o.cls=.type "tuple"/\o.data=.seq its n/\its.size<=sizeLine/\aV (ns.map V.int) its.toList
theorem nV {K:Fg} {H:Hp}:∀ ns:List Int,IsDs K H (ns.map D.int) (ns.map V.int)
 | []=>IsDs.nil
 | _::ns=>IsDs.cons (isInt.mpr rfl) (nV ns)
theorem s9 {X:Cx} {x:Str} {ns:List Int} {pos:Pos} (g:yU X.K X.mg x ns) (hg:Gl X x) (hd:(x == ("__debug__":Str))=false:=by decide):EJ X (.Name x pos) (dC (.tup (ns.map D.int))):=by
 obtain⟨p,o,its,n,hm,h1,h2,h3,h4,h5⟩:=g;exact⟨GL (xc (v:=.ref p) hg hm rfl hd) λH=>bY.mpr ⟨p,_,rfl,.inr ⟨o,its,n,h1,h2,h3,h4,h5⟩,nV ns⟩⟩
theorem jP.imp {K:Fg} {r r':D2} (i:∀ d e S k,r' d e S k->r d e S k):∀ x y H Q,jP K r' x y H Q->jP K r x y H Q:=λx y H Q z9=>by obtain⟨d,e,S,k,a,b,c,h,n⟩:=z9; exact⟨d,e,S,k,a,b,c,i d e S k h,n⟩
theorem pB.imp {K:Fg} {r r':cH} (i:∀ ds S k,r' ds S k->r ds S k):∀ xs H Q,pB K r' xs H Q->pB K r xs H Q:=λxs H Q z9=>by obtain⟨ds,S,k,a,b,h,n⟩:=z9; exact⟨ds,S,k,a,b,i ds S k h,n⟩
theorem y_.imp {X:Cx} {r r':R2} (h:y_ X r) (i:∀ x y H Q,r' x y H Q->r x y H Q):y_ X r':=λvalue slice M6 s σ H x y v u Q I rx ry q=>h value slice M6 s σ H x y v u Q I rx ry (i x y H Q q)
theorem bW.imp {X:Cx} {f:MQ} {r r':List V->Hp->VK->Prop} (h:bW X f r) (i:∀ xs H Q,r' xs H Q->r xs H Q):bW X f r':=λM6 s σ H xs us Q I rs q=>h M6 s σ H xs us Q I rs (i xs H Q q)
def qy:D2:=λd e S k=>match d,e with
 | .tup ds,.int i=>(match L2.atI ds i with
  | some c=>k c S
  | none=>False)
 | .rl ds,.int i=>∃ c,L2.atI ds i=some c/\k c S
 | .ref a,.int i=>∃ ds c,S a=some (.lst ds)/\L2.atI ds i=some c/\k c S
 | _,_=>False
theorem bG {X:Cx}:y_ X (jP X.K qy):=y_.imp IP (jP.imp λd e S k h=>by
 unfold qy at h
 split at h
 ·exact h
 ·obtain⟨c,h1,h2⟩:=h;simp only [tZ,h1];exact h2
 ·obtain⟨ds,c,h0,h1,h2⟩:=h;simp only [tZ,h0,h1];exact h2
 ·exact h.elim)
theorem aJ {X:Cx} {x:Str} {p1 p2 pos:Pos} {c:Int} {j} (n:Nat) (hN:X.N[n]?=some x:=by rfl) (hv:I_ X.env.scope x:=by first | exact Or.inl rfl | exact Or.inr (Or.inl rfl) | exact Or.inr (Or.inr rfl)) (hd:(x == ("__debug__":Str))=false:=by decide) (hcd:(x == ("__classdict__":Str))=false:=by decide):EJ X (.Subscript (.Name x p1) (.Constant (.int c) j p2) pos) (qG qy (cJ n) (dC (.int c))):=bq bG (ah n hN hv hd hcd) ae Zf
def D7:cH:=λds S k=>match ds with
 | [.tup xs]=>k (.int xs.length) S
 | [.rl xs]=>k (.int xs.length) S
 | [.ref a]=>∃ xs,S a=some (.lst xs)/\k (.int xs.length) S
 | _=>False
theorem AA {X:Cx}:bW X (.builtin "len") (pB X.K D7):=bW.imp HV (pB.imp λds S k h=>by
 unfold D7 at h
 split at h
 ·exact h
 ·exact h
 ·obtain⟨xs,h1,h2⟩:=h;simp only [Ff,h1];exact h2
 ·exact h.elim)
def IY (gi:DE) (g:DG) (b:DS):DS:=λM L S=>gi L S λd S1=>∃ p,aR S1 d=some p/\iA (fL p) g b M p.1 L S1
def zi (n:Nat) (t:Co):DG:=λd L S k=>∃ p,aR S d=some p/\p.1.length=n/\t p.1 L S k
theorem GJ.imp {X:Cx} {e:MT} {g g':DG} (h:GJ X e g) (i:∀ d L S k,g' d L S k->g d L S k):GJ X e g':=⟨PG.imp h.h λv σ H Q z9=>by obtain⟨d,L,S,k,a,hL,hS,q,n⟩:=z9; exact⟨d,L,S,k,a,hL,hS,i d L S k q,n⟩⟩
theorem gC {X:Cx} {pos:Pos} {es:List MT} {k:Nat} {t:Co} {n:Nat} (hc:X.calm=true) (h:Jn X es t) (hn:(assignEach es X.env).length=n:=by rfl) (hst:(assignEach es X.env).findIdx? (·.1)=none:=by rfl):GJ X (.Tuple es k pos) (zi n t):=
 GJ.imp (Gc hc h hn hst) λd L S k ⟨p,h1,h2⟩=>by
  simp only [mD,h1];exact h2
section
variable {X:Cx} {pos:Pos}
def Gn (go gi:DE):DG:=λd L S k=>go L S λo S1=>gi L S1 λi S2=>match o,i with
 | .ref a,.int j=>∃ ds n,S2 a=some (.lst ds)/\BM ds.length j=some n/\k L (put S2 a (.lst (ds.set n d)))
 | _,_=>False
theorem xH {o i:MT} {go gi:DE} (ho:EJ X o go) (hi:EJ X i gi)
  (ha:∀ v,assign (.Subscript o i pos) X.env v=(do
   let ov <- holding [v] (eval o X.env)
   let iv <- holding [v,ov] (eval i X.env)
   standAt pos
   holding [v,ov,iv] (setItem ov iv v)
   release [v,ov,iv] []):=by intro _; rfl):GJ X (.Subscript o i pos) (Gn go gi):=
 ⟨PG.imp (Bb ho.h hi.h zp ha) λv σ H Q ⟨d,L,S,k,i1,hL,hS,h,n⟩=>up.go hL hS h λc S1 u H1 h1 k1 hL1 hS1 j1=>up.go hL1 hS1 h1 λc2 S2 u2 H2 h2 k2 hL2 hS2 j2=>by
  cases c with
  | ref a=>
   cases c2 with
   | int z=>
    have e1:=aS.mp j1;have e2:=isInt.mp j2;subst e1;subst e2;obtain⟨ds,m,w,q,h2⟩:=h2;obtain⟨vs,hl,j⟩:=hS2.lst w;refine⟨a,vs,z,m,rfl,rfl,hl,by rw [<- j.length]; exact q,?_⟩
    have k3:Kp H2 (cF H2 a (.lst (vs.set m v))):=Kp.mut hl (λz=>z)
    exact n L _ σ _ h2 (k1.trans (k2.trans k3)) (hL2.kp k3) (hS2.setL hl (j.set m (i1.kp (k1.trans k2))))
   | _=>exact(show False from h2).elim
  | _=>exact(show False from h2).elim⟩
theorem tN {K:Fg} {S1:DH} {H1:Hp} {d:D} {v:V} {p:List D×MS MR} (hS1:Hs K H1 S1) (i1:ce K H1 d v) (hp:aR S1 d=some p):∃ a,v=.ref a/\
  (((∃ xs, ic K H1 a xs) ∧ (∀ i c S2 H2, p.1[i]? = some c → Kp H1 H2 → Hs K H2 S2 → fL p S2 → (Jr K a).go i H2 ∧ ∀ x H', (Jr K a).yld i H2 x H' → H' = H2 ∧ ce K H2 c x) ∧ ∀ S2 H2, Kp H1 H2 → Hs K H2 S2 → fL p S2 → (Jr K a).stop p.1.length H2) ∨
   ((∃ xs,ja K H1 a xs)/\(∀ i c S2 H2,p.1[i]?=some c->Kp H1 H2->Hs K H2 S2->fL p S2->(HQ K a).go i H2/\∀ x H',(HQ K a).yld i H2 x H'->H'=H2/\ce K H2 c x)/\∀ S2 H2,Kp H1 H2->Hs K H2 S2->fL p S2->(HQ K a).stop p.1.length H2)):=by
 cases d with
 | tup ds=>
  cases hp;obtain⟨a,xs,rfl,t,j⟩:=bY.mp i1;refine⟨a,rfl,.inr ⟨⟨xs,t⟩,λi d S2 H2 e k2 hS2 _=>?_,λS2 H2 k2 hS2 _=>⟨xs,k2.tup t,by rw [<- j.length]; exact LD _⟩⟩⟩
  obtain⟨w,e1,e2⟩:=j.get e;refine⟨⟨xs,w,k2.tup t,e1⟩,λx H' y=>⟨y.1,?_⟩⟩
  have z:=y.2 xs (k2.tup t);rw [e1] at z;cases z;exact e2.kp k2
 | rl ds=>
  cases hp;obtain⟨a,xs,rfl,t,j⟩:=uG.mp i1;refine⟨a,rfl,.inl ⟨⟨xs,t.sq⟩,λi d S2 H2 e k2 hS2 _=>?_,λS2 H2 k2 hS2 _=>⟨xs,(k2.fro t).sq,by rw [<- j.length]; exact LD _⟩⟩⟩
  obtain⟨w,e1,e2⟩:=j.get e;refine⟨⟨xs,w,(k2.fro t).sq,e1⟩,λx H' y=>⟨y.1,?_⟩⟩
  have z:=y.2 xs (k2.fro t).sq;rw [e1] at z;cases z;exact e2.kp k2
 | ref a=>
  have e1:=aS.mp i1;subst e1;cases z:S1 a with
  | none=>simp only [aR,z] at hp; cases hp
  | some o=>
   cases o with
   | dic=>simp only [aR,z] at hp; cases hp
   | exc _=>simp only [aR,z] at hp; cases hp
   | fn _=>simp only [aR,z] at hp; cases hp
   | tbl _=>simp only [aR,z] at hp; cases hp
   | gen _=>simp only [aR,z] at hp; cases hp
   | lst ds=>
    simp only [aR,z] at hp;cases hp;obtain⟨xs,hl,j⟩:=hS1.lst z;refine⟨a,rfl,.inl ⟨⟨xs,ic.of hl⟩,λi d S2 H2 e k2 hS2 o2=>?_,λS2 H2 k2 hS2 o2=>?_⟩⟩
    ·obtain⟨ys,hl2,j2⟩:=hS2.lst o2;obtain⟨w,e1,e2⟩:=j2.get e;refine⟨⟨ys,w,ic.of hl2,e1⟩,λx H' y=>⟨y.1,?_⟩⟩
     have q:=y.2 ys (ic.of hl2);rw [e1] at q;cases q;exact e2
    ·obtain⟨ys,hl2,j2⟩:=hS2.lst o2;exact⟨ys,ic.of hl2,by rw [<- j2.length]; exact LD _⟩
 | _=>cases hp
theorem d_ {tg iter:MT} {body:List MY} {gi:DE} {gg:DG} {g:DS} (hp:PassesOwn (model X.prog X.w) X.A X.env X.xe) (hc:X.calm=true) (hi:EJ X iter gi) (hg:GJ X tg gg) (hb:zc X body g)
  (hs:∀ x,foldedSetIterable iter X.env x=pure x:=by intro _; rfl):SJ X (.For tg iter body [] pos) (IY gi gg g):=
 ⟨PS.imp (sD hp hc (tR hi.h) hg.h hb.h hs) λN σ H ⟨L,S,M,hL,hS,h,r⟩=>up.go hL hS h λd S1 v H1 h1 k1 hL1 hS1 i1=>by
  obtain⟨p,hp,h1⟩:=h1;obtain⟨a,e,q⟩:=tN hS1 i1 hp;refine⟨a,e,?_⟩;rcases q with ⟨q1,q2,q3⟩ | ⟨q1,q2,q3⟩
  ·exact .inl ⟨q1,mH hL1 hS1 h1 (r.kp k1) q2 q3⟩
  ·exact .inr ⟨q1,mH hL1 hS1 h1 (r.kp k1) q2 q3⟩⟩
def v4 (cap:List (MS Nat)) (gi:DE) (g:DG) (bd:DB):DE:=λL S k=>gi L S λd S1=>∃ q,aR S1 d=some q/\∀ p,S1 p=none->aX (fL q) p g bd k q.1 [] (xU cap L) (put S1 p (.lst []))
theorem A_ {elt tg iter:MT} {scope:Scope} {cl:List (Str×MR)} {N:List Str} {cap:List (MS Nat)} {gg:DG} {ge gi:DE} (hc:X.calm=true) (Sc:cZ X scope cl N cap) (hi:EJ X iter gi) (hg:∀ s0 H0 ex C,GJ (fI X scope cl N s0 H0 ex C) tg gg) (he:∀ s0 H0 ex C,EJ (fI X scope cl N s0 H0 ex C) elt ge)
  (hs:∀ x,foldedSetIterable iter X.env x=pure x:=by intro _; rfl):EJ X (.ListComp elt [⟨tg,iter,[],0⟩] scope pos) (v4 cap gi gg (eQ ge)):=
 ⟨PE.imp (tQ hc Sc (tR hi.h) (λs0 H0 ex C=>(hg s0 H0 ex C).h) (λs0 H0 ex C=>(he s0 H0 ex C).h) hs) fun σ H Q ⟨L,S,k,hL,hS,h,n⟩=>up.go hL hS h λd S1 v H1 h1 k1 hL1 hS1 i1=>by
  obtain⟨p,hp,h1⟩:=h1;obtain⟨a,e,q⟩:=tN hS1 i1 hp;refine⟨a,e,?_⟩;have n':∀ d S' v H',k d S'->Kp H1 H'->Hs X.K H' S'->ce X.K H' d v->Q v H':=λd S' v H' q k3=>n d S' v H' q (k1.trans k3)
  rcases q with ⟨q1,q2,q3⟩ | ⟨q1,q2,q3⟩
  ·exact .inl ⟨q1,λD hD=>gJ (hL1.cap cap) hS1 hD (h1 D (hS1.free hD)) n' q2 q3⟩
  ·exact .inr ⟨q1,λD hD=>gJ (hL1.cap cap) hS1 hD (h1 D (hS1.free hD)) n' q2 q3⟩⟩
end
end DL
namespace L2
open PySem PySem.Spec PyProof.Rows
section
variable {X:Cx} {M6:List (MR×M5)} {σ:St} {H:Hp} {s:MP} {h':MX}
theorem aD.turnedL {t':Nat} (ch:List MR) (I:aD X M6 σ H s) (k:∀ b o,b∉ch->s.heap.get? b=some o->h'.get? b=some o) (hf:∀ b∈ch,kS X M6 H b):aD X M6 σ H {s with heap:=h',toks:=t'}:=by
 have nit:∀ b u,H b=some u->b∉ch:=λb u e z=>by rw [(hf b z).1] at e; cases e
 refine I.step (g':=s.gens) (d':=s.drawn) (ch:=ch) (λb hb=>⟨(hf b hb).2.2.2.1,(hf b hb).2.1,(hf b hb).2.2.2.2.1,(hf b hb).2.2.2.2.2⟩) (λb o _ _ hc e _=>k b o hc e) (λb o _ _ hc e _=>⟨o.slots,k b o hc e⟩) (λ_ _ _ _ n=>n)
  (λb o hc e=>⟨o,k b o hc e⟩) (λ_ _ e=>e) (λ_ _ _ e=>e) (λb ps e=>⟨#[],by rw [e]; simp⟩) (λm hm=>?_) (λb u e=>?_) I.bare
 ·obtain⟨o,es,ep,ho,r⟩:=hm;exact⟨o,es,ep,k _ o (λz=>(hf _ z).2.1 rfl) ho,r⟩
 ·refine(I.hok b u e).stay (λc v hc q=>k c v ?_ q) (λ_ q=>q) λ_ _ q=>q
  rcases hc with z | z
  ·rw [z]; exact nit b u e
  ·exact nit c _ z
theorem aD.turnedNew {t':Nat} {T:MR} {xs:List V} (ch:List MR) (I:aD X M6 σ H s) (k:∀ b o,b∉ch->s.heap.get? b=some o->h'.get? b=some o) (hf:∀ b∈ch,kS X M6 H b) (hT:s.heap.objs.size<=T)
  (new:dY X.prog X.w (cF H T (.tup xs)) h' T (.tup xs)):aD X M6 σ (cF H T (.tup xs)) {s with heap:=h',toks:=t'}:=by
 have hn:H T=none:=I.hok.fresh hT;have nit:∀ b u,H b=some u->b∉ch:=λb u e z=>by rw [(hf b z).1] at e; cases e
 have neT:∀ b o,s.heap.get? b=some o->b≠T:=λb o e z=>by subst z; exact absurd (LN (LC e) hT) (Mz _)
 refine I.step (g':=s.gens) (d':=s.drawn) (ch:=ch) (λb hb=>⟨(hf b hb).2.2.2.1,(hf b hb).2.1,(hf b hb).2.2.2.2.1,(hf b hb).2.2.2.2.2⟩) (λb o _ _ hc e _=>k b o hc e) (λb o _ _ hc e _=>⟨o.slots,k b o hc e⟩) (λb o _ e n=>by rw [aO (neT b o e)]; exact n)
  (λb o hc e=>⟨o,k b o hc e⟩) (λb _ e=>by rw [aO (cc e hn)]; exact e) (λb _ _ e=>by rw [aO (cc e hn)]; exact e) (λb ps e=>⟨#[],by rw [aO (cc e hn),e]; simp⟩) (λm hm=>?_) (λb u e=>?_) I.bare
 ·obtain⟨o,es,ep,ho,r⟩:=hm;exact⟨o,es,ep,k _ o (λz=>(hf _ z).2.1 rfl) ho,r⟩
 ·by_cases hb:b=T
  ·subst hb;rw [bJ] at e;cases e;exact new
  ·rw [aO hb] at e;refine(I.hok b u e).stay (λc v hc q=>k c v ?_ q) (λc q=>by rw [aO (cc q hn)]; exact q) λc _ q=>by rw [aO (cc q hn)]; exact q
   rcases hc with z | z
   ·rw [z]; exact nit b u e
   ·exact nit c _ z
end
def BU (b:M1) (K:PySem.W.Frag) (H:Hp) (a:MR) (xs:List V):Prop:=match b with | true=>ic K H a xs | false=>ja K H a xs
def sqB (b:M1) (l:MR) (xs:MZ MQ) (h:MX):Prop:=match b with | true=>h.IsList l xs | false=>h.IsTuple l xs
section
variable {X:Cx} {M6:List (MR×M5)} {σ:St} {H:Hp} {s:MP} {a:MR} {xs ys:List V} {b:M1}
theorem aD.sqB (I:aD X M6 σ H s) (h:BU b X.K H a xs):∃ its:List MQ,aV xs its/\L2.sqB b a its.toArray s.heap:=by
 cases b with
 | true=>obtain⟨its,r,p,_⟩:=I.list h; exact⟨its,r,p.isList⟩
 | false=>obtain⟨its,r,p,_⟩:=I.tuple h; exact⟨its,r,p⟩
theorem aD.sqB_inj (I:aD X M6 σ H s) (h:BU b X.K H a xs) (h':BU b X.K H a ys):xs=ys:=by
 cases b with
 | true=>exact I.list_inj h h'
 | false=>exact I.tuple_inj h h'
theorem Fz {its:MZ MQ} {h:MX} (e:L2.sqB b a its h):a < h.objs.size:=by
 cases b with
 | true=>obtain⟨o,e,_⟩:=e; exact LC e
 | false=>obtain⟨o,e,_⟩:=e; exact LC e
end
end L2
namespace DL
open PySem PySem.Spec PyProof.Rows L2
section
variable {K:Fg} {ok:DH->Prop} {gg:DG} {ge:DE} {k:DK} {ds:List D} {L:Lo} {S:DH} {σ:L2.St} {H:Hp} {J:It} {p:MR} {Q:V->Hp->Prop}
theorem pc (hL:Lc K H L σ) (hS:Hs K H S) (hp:H p=none) (h:aX ok p gg (eQ ge) k ds [] L (put S p (.lst [])))
  (n:∀ d S' v H',k d S'->Kp H H'->Hs K H' S'->ce K H' d v->Q v H')
  (hgo:∀ i d S1 H1,ds[i]?=some d->Kp H H1->Hs K H1 S1->ok S1->J.go i H1/\∀ x H',J.yld i H1 x H'->Kp H1 H'/\Hs K H' S1/\ce K H' d x)
  (hst:∀ S1 H1,Kp H H1->Hs K H1 S1->ok S1->J.stop ds.length H1):
  ∃ W:Nat->Nat->L2.St->Hp->Prop,(∃ m,W 0 m σ (cF H p (.lst [])))/\∀ i m σ' H',W i m σ' H'->
   (J.stop i H'/\Q (.ref p) H')\/(J.go i H'/\∃ N:L2.St->Hp->Prop,(∀ σ2 H2,N σ2 H2->∃ m',m' < m/\W (i+1) m' σ2 H2)/\∀ x H2,J.yld i H' x H2->CC K gg x σ' H2 fun σ3 H3=>up K ge σ3 H3 λv H4=>∃ ys,H4 p=some (.lst ys)/\ys.length < sizeLine/\N σ3 (cF H4 p (.lst (ys++[v])))):=by
 refine⟨λi m σ1 H1=>m=ds.length - i/\i<=ds.length/\∃ acc L1 S1,Lc K H1 L1 σ1/\Hs K H1 S1/\Kp H H1/\aX ok p gg (eQ ge) k (ds.drop i) acc L1 S1,⟨ds.length,by simp,Mw _,[],L,_,hL.kp (Kp.new hp),hS.newL hp IsDs.nil,Kp.new hp,h⟩,?_⟩
 rintro i m σ1 H1 ⟨rfl,hi,acc,L1,S1,hL1,hS1,k1,w1⟩
 by_cases hlt:i < ds.length
 ·have e:ds.drop i=ds[i]::ds.drop (i+1):=Ms hlt;rw [e] at w1;obtain⟨o1,w1⟩:=w1;obtain⟨g1,y1⟩:=hgo i ds[i] S1 H1 (by simp [hlt]) k1 hS1 o1
  refine .inr ⟨g1,fun σ' H'=>i+1<=ds.length/\∃ acc L' S',Lc K H' L' σ'/\Hs K H' S'/\Kp H H'/\aX ok p gg (eQ ge) k (ds.drop (i+1)) acc L' S',fun σ' H' z9=>by obtain⟨q1,q2⟩:=z9; exact⟨ds.length - (i+1),by omega,rfl,q1,q2⟩,λx H' y=>?_⟩
  obtain⟨k0,hS0,ix⟩:=y1 x H' y;refine⟨ds[i],L1,S1,_,ix,hL1.kp k0,hS0,w1,λL2 S2 σ2 H2 q k2 hL2 hS2=>up.go hL2 hS2 q λd S3 v H3 h3 k3 hL3 hS3 i3=>?_⟩
  obtain⟨z1,z2,z3⟩:=h3;obtain⟨xs,hl,j⟩:=hS3.lst z1;have k4:Kp H3 (cF H3 p (.lst (xs++[v]))):=Kp.mut hl (λz=>z)
  exact⟨xs,hl,by rw [<- j.length]; exact z2,hlt,_,L2,_,hL3.kp k4,hS3.setL hl (j.append (IsDs.cons i3 IsDs.nil)),(((k1.trans k0).trans k2).trans k3).trans k4,z3⟩
 ·have e:i=ds.length:=by omega
  subst e;rw [List.drop_length] at w1;obtain⟨o1,w1⟩:=w1;exact .inl ⟨hst S1 H1 k1 hS1 o1,n _ S1 _ H1 w1 k1 hS1 (aS.mpr rfl)⟩
end
theorem Hi {K:Fg} {S1:DH} {H1:Hp} {d:D} {v:V} {p:List D×MS MR} (hS1:Hs K H1 S1) (i1:ce K H1 d v) (hp:aR S1 d=some p):∃ a b,v=.ref a/\
  (∃ xs,BU b K H1 a xs)/\∀ S2 H2,Kp H1 H2->Hs K H2 S2->fL p S2->∃ xs,BU b K H2 a xs/\IsDs K H2 p.1 xs:=by
 cases d with
 | tup ds=>
  cases hp;obtain⟨a,xs,rfl,t,j⟩:=bY.mp i1;exact⟨a,false,rfl,⟨xs,t⟩,λS2 H2 k2 _ _=>⟨xs,k2.tup t,j.kp k2⟩⟩
 | rl ds=>
  cases hp;obtain⟨a,xs,rfl,t,j⟩:=uG.mp i1;exact⟨a,true,rfl,⟨xs,t.sq⟩,λS2 H2 k2 _ _=>⟨xs,(k2.fro t).sq,j.kp k2⟩⟩
 | ref a=>
  have e1:=aS.mp i1;subst e1;cases z:S1 a with
  | none=>simp only [aR,z] at hp; cases hp
  | some o=>
   cases o with
   | dic=>simp only [aR,z] at hp; cases hp
   | exc _=>simp only [aR,z] at hp; cases hp
   | fn _=>simp only [aR,z] at hp; cases hp
   | tbl _=>simp only [aR,z] at hp; cases hp
   | gen _=>simp only [aR,z] at hp; cases hp
   | lst ds=>
    simp only [aR,z] at hp;cases hp;obtain⟨xs,hl,j⟩:=hS1.lst z;refine⟨a,true,rfl,⟨xs,ic.of hl⟩,λS2 H2 k2 hS2 o2=>?_⟩
    obtain⟨ys,hl2,j2⟩:=hS2.lst o2;exact⟨ys,ic.of hl2,j2⟩
 | _=>cases hp
theorem uZ {K:Fg} {H:Hp}:∀ {bs:List M1} {xs:List V},IsDs K H (bs.map D.bl) xs->xs=bs.map V.bl
 | [],_,h=>ib.mp h
 | b::bs,_,h=>by
  obtain⟨v,r,rfl,h1,h2⟩:=cE.mp h;rw [cg.mp h1,uZ h2]
  rfl
theorem u6:∀ {bs:List M1} {us:List MQ},aV (bs.map V.bl) us->us=bs.map Value.bool
 | [],_,.nil=>rfl
 | b::bs,_,.cons r t=>by
  cases r;rw [u6 t]
  rfl
theorem Dy {S:DH} {d:D} {q:List D×MS MR} (h:aR S d=some q):fL q S:=by
 cases d with
 | tup ds=>cases h; trivial
 | rl ds=>cases h; trivial
 | ref a=>
  simp only [aR] at h
  split at h
  ·rename_i z; cases h; exact z
  ·cases h
 | _=>cases h
section
variable {X:Cx} {o e a b c:MT} {go ge ga gb gc:DE} {apos cpos pos:Pos}
def Kq (go ge:DE):DE:=λL S k=>go L S λd S1=>match d with
 | .ref a=>(∃ ds,S1 a=some (.lst ds))/\ge L S1 λe S2=>∃ ds,S2 a=some (.lst ds)/\ds.length < sizeLine/\k .non (put S2 a (.lst (ds++[e])))
 | _=>False
theorem sn (ho:EJ X o go) (he:EJ X e ge) (hbase:attributeBase o "append" X.env (eval o X.env)=eval o X.env:=by rfl)
  (hfew:((backTo cpos (starEach [e] X.env)).all (λx=>!x.1) && (backToKw cpos (keywordEach [] X.env)).all (λx=>x.1.isSome) && decide ([e].length+([]:List Keyword).length+(if ([]:List Keyword).isEmpty then 0 else 1) < 30))=true:=by rfl)
  (hline:(apos.endLine == cpos.line)=true:=by rfl) (hs:starEach [e] X.env=(false,eval e X.env)::starEach [] X.env:=by rfl) (hpl:(backTo cpos (starEach [] X.env)).any (·.1)=false:=by rfl):
  EJ X (.Call (.Attribute o "append" apos) [e] [] cpos) (Kq go ge):=
 ⟨PE.imp (Ib PySem.F.plainAttrs_list PySem.F.slot_list_append PySem.F.type_list_append rf ho.h (mO he.h pO hs) hbase hfew hline hs hpl) fun σ H Q ⟨L,S,k,hL,hS,h,n⟩=>up.go hL hS h λd S1 v H1 h1 k1 hL1 hS1 i1=>by
  cases d with
  | ref a=>
   have e1:=aS.mp i1;subst e1;obtain⟨⟨ds1,z1⟩,h1⟩:=h1;obtain⟨xs1,hl1,_⟩:=hS1.lst z1;refine⟨.inl ⟨rfl,xs1,ic.of hl1⟩,up.go hL1 hS1 h1 λd2 S2 v2 H2 h2 k2 hL2 hS2 i2=>?_⟩
   obtain⟨ds,z,hz,w⟩:=h2;obtain⟨xs,hl,j⟩:=hS2.lst z;have k3:Kp H2 (cF H2 a (.lst (xs++[v2]))):=Kp.mut hl (λz=>z)
   exact⟨a,xs,v2,rfl,rfl,hl,by rw [<- j.length]; exact hz,n _ _ _ _ w (k1.trans (k2.trans k3)) (hS2.setL hl (j.append (IsDs.cons i2 IsDs.nil))) (di.mpr rfl)⟩
  | _=>exact(show False from h1).elim⟩
end
theorem yR {K:Fg} {ok:DH->Prop} {gg:DG} {b:DS} {M:lY} {ds:List D} {L:Lo} {S:DH} {N:qR} {σ:L2.St} {H:Hp} {J:It} (hL:Lc K H L σ) (hS:Hs K H S) (h:iA ok gg b M ds L S) (r:Cq K H M N)
  (hgo:∀ i d S1 H1,ds[i]?=some d->Kp H H1->Hs K H1 S1->ok S1->J.go i H1/\∀ x H',J.yld i H1 x H'->Kp H1 H'/\Hs K H' S1/\ce K H' d x)
  (hst:∀ S1 H1,Kp H H1->Hs K H1 S1->ok S1->J.stop ds.length H1):
  ∃ W:Nat->Nat->L2.St->Hp->Prop,(∃ m,W 0 m σ H)/\∀ i m σ H,W i m σ H->
   (J.stop i H/\N.nx σ H)\/(J.go i H/\∃ N':L2.St->Hp->Prop,(∀ σ' H',N' σ' H'->∃ m',m' < m/\W (i+1) m' σ' H')/\∀ x H',J.yld i H x H'->CC K gg x σ H' fun σ2 H2=>C_ K b {N with nx:=N',ct:=N',bk:=N.nx} σ2 H2):=by
 refine⟨λi m σ1 H1=>m=ds.length - i/\i<=ds.length/\∃ L1 S1,Lc K H1 L1 σ1/\Hs K H1 S1/\Kp H H1/\iA ok gg b M (ds.drop i) L1 S1,⟨ds.length,by simp,Mw _,L,S,hL,hS,Kp.refl H,h⟩,?_⟩
 rintro i m σ1 H1 ⟨rfl,hi,L1,S1,hL1,hS1,k1,w1⟩
 by_cases hlt:i < ds.length
 ·have e:ds.drop i=ds[i]::ds.drop (i+1):=Ms hlt;rw [e] at w1;obtain⟨o1,w1⟩:=w1;obtain⟨g1,y1⟩:=hgo i ds[i] S1 H1 (by simp [hlt]) k1 hS1 o1
  refine .inr ⟨g1,fun σ' H'=>i+1<=ds.length/\∃ L' S',Lc K H' L' σ'/\Hs K H' S'/\Kp H H'/\iA ok gg b M (ds.drop (i+1)) L' S',fun σ' H' z9=>by obtain⟨q1,q2⟩:=z9; exact⟨ds.length - (i+1),by omega,rfl,q1,q2⟩,λx H' y=>?_⟩
  obtain⟨k0,hS0,ix⟩:=y1 x H' y;have k10:=k1.trans k0;refine⟨ds[i],L1,S1,_,ix,hL1.kp k0,hS0,w1,λL2 S2 σ2 H2 q k2 hL2 hS2=>⟨L2,S2,_,hL2,hS2,q,?_⟩⟩
  have r2:=r.kp (k10.trans k2);exact⟨λL3 S3 σ3 H3 q3 k3 hL3 hS3=>⟨hlt,L3,S3,hL3,hS3,(k10.trans k2).trans k3,q3⟩,r2.rt,r2.nx,λL3 S3 σ3 H3 q3 k3 hL3 hS3=>⟨hlt,L3,S3,hL3,hS3,(k10.trans k2).trans k3,q3⟩⟩
 ·have e:i=ds.length:=by omega
  subst e;rw [List.drop_length] at w1;obtain⟨o1,w1⟩:=w1;exact .inl ⟨hst S1 H1 k1 hS1 o1,r.nx L1 S1 σ1 H1 w1 k1 hL1 hS1⟩
section
variable {X:Cx} {pos:Pos}
def HL (g:DE) (tl th:Hk):DE:=λL S k=>g L S λx S1=>tl L S1 λlo S2=>th L S2 λhi S3=>match x with
 | .tup xs=>¬ (HT.dD xs.length 0 lo=0/\HT.dD xs.length xs.length hi=xs.length)/\k (.tup (yT xs lo hi)) S3
 | .rl xs=>∀ p,S3 p=none->k (.ref p) (put S3 p (.lst (yT xs lo hi)))
 | .ref a=>∃ xs,S3 a=some (.lst xs)/\∀ p,S3 p=none->k (.ref p) (put S3 p (.lst (yT xs lo hi)))
 | _=>False
theorem gB {e:MT} {g:DE} {lo hi:MS MT} {tl th:Hk} {p2 pos:Pos} (he:EJ X e g) (hl:OJ X lo tl) (hu:OJ X hi th):EJ X (.Subscript e (.Slice lo hi none p2) pos) (HL g tl th):=
 ⟨PE.imp (z8 (Eo.or Ge DC) he.h hl.h hu.h) fun σ H Q ⟨L,S,k,hL,hS,h,n⟩=>up.go hL hS h λd S1 v H1 h1 k1 hL1 hS1 i1=>by
  refine⟨L,S1,_,hL1,hS1,h1,λlo' S2 H2 h2 k2 hS2=>⟨L,S2,_,hL1.kp k2,hS2,h2,λhi' S3 H3 h3 k3 hS3=>?_⟩⟩
  cases d with
  | tup xs=>
   obtain⟨a,vs,rfl,t,j⟩:=bY.mp i1;have j3:=j.kp (k2.trans k3);refine .inl ⟨a,vs,rfl,(k2.trans k3).tup t,by rw [<- j.length]; exact h3.1,λp hp=>?_⟩
   have k4:Kp H3 (cF H3 p (.tup (qz vs lo' hi'))):=Kp.new hp;refine n _ S3 _ _ h3.2 (k1.trans (k2.trans (k3.trans k4))) (hS3.new hp) (bY.mpr ⟨p,_,rfl,ja.of bJ,?_⟩);unfold yT qz;rw [j.length];exact((j3.drop _).take _).kp k4
  | rl xs=>
   obtain⟨a,vs,rfl,t,j⟩:=uG.mp i1;have j3:=j.kp (k2.trans k3);refine .inr ⟨a,vs,rfl,((k2.trans k3).fro t).sq,λp hp=>?_⟩
   refine n _ _ _ _ (h3 p (hS3.free hp)) (k1.trans (k2.trans (k3.trans (Kp.new hp)))) (hS3.newL hp ?_) (aS.mpr rfl);unfold yT qz;rw [j.length];exact(j3.drop _).take _
  | ref a=>
   have e1:=aS.mp i1;subst e1;obtain⟨xs,z,h3⟩:=h3;obtain⟨vs,hl,j⟩:=hS3.lst z;refine .inr ⟨a,vs,rfl,ic.of hl,λp hp=>?_⟩
   refine n _ _ _ _ (h3 p (hS3.free hp)) (k1.trans (k2.trans (k3.trans (Kp.new hp)))) (hS3.newL hp ?_) (aS.mpr rfl);unfold yT qz;rw [j.length];exact(j.drop _).take _
  | _=>exact(show False from h3).elim⟩
theorem vC {elt tg iter c:MT} {scope:Scope} {cl:List (Str×MR)} {N:List Str} {cap:List (MS Nat)} {gg:DG} {ge gi:DE} {gc:DT} (hc:X.calm=true) (Sc:cZ X scope cl N cap) (hi:EJ X iter gi) (hg:∀ s0 H0 ex C,GJ (fI X scope cl N s0 H0 ex C) tg gg) (hcnd:∀ s0 H0 ex C,TJ (fI X scope cl N s0 H0 ex C) c gc) (he:∀ s0 H0 ex C,EJ (fI X scope cl N s0 H0 ex C) elt ge)
  (hs:∀ x,foldedSetIterable iter X.env x=pure x:=by intro _; rfl):EJ X (.ListComp elt [⟨tg,iter,[c],0⟩] scope pos) (v4 cap gi gg (lT gc ge)):=
 ⟨PE.imp (rX hc Sc (tR hi.h) (λs0 H0 ex C=>(hg s0 H0 ex C).h) (λs0 H0 ex C=>(hcnd s0 H0 ex C).h) (λs0 H0 ex C=>(he s0 H0 ex C).h) hs) fun σ H Q ⟨L,S,k,hL,hS,h,n⟩=>up.go hL hS h λd S1 v H1 h1 k1 hL1 hS1 i1=>by
  obtain⟨p,hp,h1⟩:=h1;obtain⟨a,e,q⟩:=tN hS1 i1 hp;refine⟨a,e,?_⟩;have n':∀ d S' v H',k d S'->Kp H1 H'->Hs X.K H' S'->ce X.K H' d v->Q v H':=λd S' v H' q k3=>n d S' v H' q (k1.trans k3)
  rcases q with ⟨q1,q2,q3⟩ | ⟨q1,q2,q3⟩
  ·exact .inl ⟨q1,λD hD=>oh (hL1.cap cap) hS1 hD (h1 D (hS1.free hD)) n' q2 q3⟩
  ·exact .inr ⟨q1,λD hD=>oh (hL1.cap cap) hS1 hD (h1 D (hS1.free hD)) n' q2 q3⟩⟩
theorem aL {ok:DH->Prop} {g:DG} {b:DS} {M:lY} (Iv:List D->Lo->DH->Prop) (hok:∀ r L S,Iv r L S->ok S)
  (hs:∀ d r L S N,Iv (d::r) L S->(∀ L' S',Iv r L' S'->N L' S')->g d L S λL1 S1=>b {M with nx:=N,ct:=N,bk:=M.nx} L1 S1) (hd:∀ L S,Iv [] L S->M.nx L S):∀ r L S,Iv r L S->iA ok g b M r L S
 | [],L,S,i=>⟨hok [] L S i,hd L S i⟩
 | d::r,L,S,i=>⟨hok _ L S i,hs d r L S _ i λL' S' i'=>aL Iv hok hs hd r L' S' i'⟩
end
end DL
namespace L2
open PySem PySem.Spec PyProof.Rows
section
variable {X:Cx} {elt tg iter c:MT} {scope:Scope} {cl:List (Str×MR)} {N:List Str} {cap:List (MS Nat)} {pos:Pos} {wi:TI} {g:TG} {te:TE} {tc:TT}
theorem qr (Sc:cZ X scope cl N cap) {M6:List (MR×M5)} {σ σ3:St} {H2 H3:Hp} {s2 s4:MP} {fp:List MR} {h1':MX} {C:MR} (I2:aD X M6 σ H2 s2) (f2:∀ b∈fp,kS X M6 H2 b) {H1:Hp}
  (un3:Un (rj X.stack) fp H2 H1 s2.heap h1') (I4:aD (fI X scope cl N {s2 with heap:=h1'} H1 fp C) [] σ3 H3 s4) (hC:s2.heap.objs.size<=C) {x:Str} {pos':Pos} {i:Nat} {D:qR} {a:MR} (pg:PG X (.Name x pos') (oe i)) (qn:D.nx (σ.set i (some (.ref a))) H3):
  wpAny (model X.prog X.w) X.A (assign (.Name x pos') X.env (.ref a)) (λ_ s''=>∃ m,s''.heap.Ns C m/\∀ h',Heap.SameBut C s''.heap h'->∃ σ' H',aD X M6 σ' H' {s'' with heap:=h'}/\D.nx σ' H') X.xe s4:=by
 have J:aD X M6 σ H3 s4:=uu Sc I2 f2 un3 I4 (h':=s4.heap) hC ⟨rfl,λ_ _=>rfl⟩
 obtain⟨m,⟨o,es,ep,ho,hd,hr⟩,_⟩:=I4.loc;have ltC:∀ b u,s2.heap.get? b=some u->b≠C:=λb u e=>LK (LN (LC e) hC)
 have hL:C≠X.env.locals:=λz=>by
  have:=I2.lt;rw [<- z] at this;exact absurd (LN this hC) (Mz _)
 have hn:H3 C=none:=I4.free;have J':aD X ((C,o)::M6) σ H3 s4:=⟨J.ok,J.os,J.bare,J.base,J.loc,J.cell,J.free,J.freeC,λp hp=>by
  rcases List.mem_append.mp hp with hp | hp
  ·exact J.pin p (List.mem_append_left _ hp)
  ·rcases LJ.mp hp with rfl | hp
   ·exact⟨ho,hn,hL,I2.nofs hC,λv z=>by rw [hd] at z; cases z⟩
   ·exact J.pin p (LO _ hp),J.hok,J.len⟩
 refine cR (pg _ s4 σ H3 (.ref a) (.ref a) (fun σ' H'=>σ'=σ.set i (some (.ref a))/\H'=H3) J' rfl ⟨rfl,rfl⟩) λ_ s5 h5=>?_
 obtain⟨_,_,I5,rfl,rfl⟩:=h5;have h6:=I5.pin (C,o) (LO _ LL);refine⟨m,⟨o,es,ep,h6.1,hd,hr⟩,λh' sb=>⟨_,_,?_,qn⟩⟩
 have I6:aD X M6 (σ.set i (some (.ref a))) _ s5:=⟨I5.ok,I5.os,I5.bare,I5.base,I5.loc,I5.cell,I5.free,I5.freeC,λp hp=>I5.pin p (by
  rcases List.mem_append.mp hp with hp | hp
  ·exact List.mem_append_left _ hp
  ·exact LO _ (LM _ hp)),I5.hok,I5.len⟩
 exact I6.turned (t':=s5.toks) (it:=C) (λb u hb e=>(sb.2 b hb).trans e) hn hL (.inr (Mi I2.sz hC)) (λy c e=>by
  obtain⟨v,u,q,_⟩:=I2.cell y c e;exact ltC c u q) (λp hp=>ltC p.1 p.2 (I2.pin p hp).1)
theorem pK {x:Str} {i:Nat} {pos' spos:Pos} (hN:X.N.Nodup) (hi':X.N[i]?=some x) (hx':X.env.scope.names.lookup x=some .local) (hsw:swapsWith (.ListComp elt [⟨tg,iter,[],0⟩] scope pos) (some (.Name x pos')) spos.line X.env=pure true) (hc:X.calm=true) (Sc:cZ X scope cl N cap) (hi:PI X tg iter wi) (hg:∀ s0 H0 ex C,PG (fI X scope cl N s0 H0 ex C) tg g) (he:∀ s0 H0 ex C,PE (fI X scope cl N s0 H0 ex C) elt te)
  (hs:∀ x,foldedSetIterable iter X.env x=pure x:=by intro _; rfl):PS X (.Assign [.Name x pos'] (.ListComp elt [⟨tg,iter,[],0⟩] scope pos) spos) (zj (B9 cap wi g te) (oe i)):=by
 intro M6 s σ H D I h;have pg:PG X (.Name x pos') (oe i):=tu hN hi' (.inl hx') (.inr hx');rw [exec_Assign_Name_used _ _ _ _ hsw];refine gt (wpAny_standAt (gt ?_))
 show wpAny _ _ (evalThenUse _ X.env _) _ _ _
 unfold evalThenUse;refine gt (Mg (Q:=λ_ s'=>∃ σ' H',aD X M6 σ' H' s'/\D.nx σ' H') ?_ (λv s' q=>Lz (Lz q)) λ_ _ q=>q)
 exact tW hc Sc hi hg hs I (bt:=JD te) (bw:=JE X elt) (QD:=λp H1=>D.nx (σ.set i (some (.ref p))) H1) h mN (vJ he) λI2 f2 un3 I4 hC qn=>qr Sc I2 f2 un3 I4 hC pg qn
theorem wM {x:Str} {i:Nat} {pos' spos:Pos} (hN:X.N.Nodup) (hi':X.N[i]?=some x) (hx':X.env.scope.names.lookup x=some .local) (hsw:swapsWith (.ListComp elt [⟨tg,iter,[c],0⟩] scope pos) (some (.Name x pos')) spos.line X.env=pure true) (hc:X.calm=true) (Sc:cZ X scope cl N cap) (hi:PI X tg iter wi) (hg:∀ s0 H0 ex C,PG (fI X scope cl N s0 H0 ex C) tg g) (hcnd:∀ s0 H0 ex C,PT (fI X scope cl N s0 H0 ex C) c tc) (he:∀ s0 H0 ex C,PE (fI X scope cl N s0 H0 ex C) elt te)
  (hs:∀ x,foldedSetIterable iter X.env x=pure x:=by intro _; rfl):PS X (.Assign [.Name x pos'] (.ListComp elt [⟨tg,iter,[c],0⟩] scope pos) spos) (zj (tG cap wi g tc te) (oe i)):=by
 intro M6 s σ H D I h;have pg:PG X (.Name x pos') (oe i):=tu hN hi' (.inl hx') (.inr hx');rw [exec_Assign_Name_used _ _ _ _ hsw];refine gt (wpAny_standAt (gt ?_))
 show wpAny _ _ (evalThenUse _ X.env _) _ _ _
 unfold evalThenUse;refine gt (Mg (Q:=λ_ s'=>∃ σ' H',aD X M6 σ' H' s'/\D.nx σ' H') ?_ (λv s' q=>Lz (Lz q)) λ_ _ q=>q)
 exact tW hc Sc hi hg hs I (bt:=JO tc te) (bw:=Kw X c elt) (QD:=λp H1=>D.nx (σ.set i (some (.ref p))) H1) h mU (zO hcnd he) λI2 f2 un3 I4 hC qn=>qr Sc I2 f2 un3 I4 hC pg qn
end
end L2
namespace DL
open PySem PySem.Spec PyProof.Rows L2
theorem Dl {K:Fg} {ge:DE} {tc:TE} {i:Nat} (f:∀ σ H Q,up K ge σ H Q->tc σ H Q):∀ N σ H,C_ K (uB i ge) N σ H->zj tc (oe i) N σ H:=λN σ H ⟨L,S,M,hL,hS,h,r⟩=>
 f σ H _ (up.go hL hS h λd S1 v H1 h1 k1 hL1 hS1 i1=>r.nx _ S1 _ H1 h1 k1 (hL1.set i1 i) hS1)
section
variable {X:Cx} {pos pos' p:Pos} {elt tg a b c:MT} {scope:Scope} {cl:List (Str×MR)} {N:List Str} {cap:List (MS Nat)} {gg:DG} {ge gi:DE} {gc:DT} {ta:DA}
theorem iy {xv:Str} {iv:Nat} {pv sv:Pos} (hNv:X.N.Nodup) (hc:X.calm=true) (Sc:cZ X scope cl N cap) (hgl:Gl X "range") (hm:X.mg "range"=none) (ha:AJ X [a] ta) (hg:∀ s0 H0 ex C,GJ (fI X scope cl N s0 H0 ex C) tg gg) (he:∀ s0 H0 ex C,EJ (fI X scope cl N s0 H0 ex C) elt ge)
  (hs1:starEach [a] X.env=[(false,eval a X.env)]:=by exact cK rfl) (hs:∀ x,foldedSetIterable (.Call (.Name "range" p) [a] [] pos') X.env x=pure x:=by intro _; rfl) (hiv:X.N[iv]?=some xv:=by rfl) (hxv:X.env.scope.names.lookup xv=some .local:=by rfl) (hswv:swapsWith (.ListComp elt [⟨tg,.Call (.Name "range" p) [a] [] pos',[],0⟩] scope pos) (some (.Name xv pv)) sv.line X.env=pure true:=by rfl):SJ X (.Assign [.Name xv pv] (.ListComp elt [⟨tg,.Call (.Name "range" p) [a] [] pos',[],0⟩] scope pos) sv) (uB iv (Ae cap ta gg (eQ ge))):=
 ⟨PS.imp (pK hNv hiv hxv hswv hc Sc (nT hgl hm ha.h hs1) (λs0 H0 ex C=>(hg s0 H0 ex C).h) (λs0 H0 ex C=>(he s0 H0 ex C).h) hs) (Dl (fun σ H Q ⟨L,S,k,hL,hS,h,n⟩=>uC.go hL hS h λds S1 vs H1 h1 k1 hL1 hS1 i1=>by
  split at h1
  ·obtain⟨v,rfl,j⟩:=dM i1;have e:=isInt.mp j;subst e;obtain⟨⟨h2,h3⟩,h1⟩:=h1;refine⟨_,rfl,h2,h3,λD hD=>gJ (hL1.cap cap) hS1 hD (h1 D (hS1.free hD)) (λd S' v H' q k3=>n d S' v H' q (k1.trans k3)) ua λS2 H2 k2 hS2 _=>?_⟩
   rw [LG,List.length_range];exact LD _
  ·exact h1.elim))⟩
theorem uo {xv:Str} {iv:Nat} {pv sv:Pos} (hNv:X.N.Nodup) {elt tg iter:MT} {scope:Scope} {cl:List (Str×MR)} {N:List Str} {cap:List (MS Nat)} {gg:DG} {ge gi:DE} (hc:X.calm=true) (Sc:cZ X scope cl N cap) (hi:EJ X iter gi) (hg:∀ s0 H0 ex C,GJ (fI X scope cl N s0 H0 ex C) tg gg) (he:∀ s0 H0 ex C,EJ (fI X scope cl N s0 H0 ex C) elt ge)
  (hs:∀ x,foldedSetIterable iter X.env x=pure x:=by intro _; rfl) (hiv:X.N[iv]?=some xv:=by rfl) (hxv:X.env.scope.names.lookup xv=some .local:=by rfl) (hswv:swapsWith (.ListComp elt [⟨tg,iter,[],0⟩] scope pos) (some (.Name xv pv)) sv.line X.env=pure true:=by rfl):SJ X (.Assign [.Name xv pv] (.ListComp elt [⟨tg,iter,[],0⟩] scope pos) sv) (uB iv (v4 cap gi gg (eQ ge))):=
 ⟨PS.imp (pK hNv hiv hxv hswv hc Sc (tR hi.h) (λs0 H0 ex C=>(hg s0 H0 ex C).h) (λs0 H0 ex C=>(he s0 H0 ex C).h) hs) (Dl (fun σ H Q ⟨L,S,k,hL,hS,h,n⟩=>up.go hL hS h λd S1 v H1 h1 k1 hL1 hS1 i1=>by
  obtain⟨p,hp,h1⟩:=h1;obtain⟨a,e,q⟩:=tN hS1 i1 hp;refine⟨a,e,?_⟩;have n':∀ d S' v H',k d S'->Kp H1 H'->Hs X.K H' S'->ce X.K H' d v->Q v H':=λd S' v H' q k3=>n d S' v H' q (k1.trans k3)
  rcases q with ⟨q1,q2,q3⟩ | ⟨q1,q2,q3⟩
  ·exact .inl ⟨q1,λD hD=>gJ (hL1.cap cap) hS1 hD (h1 D (hS1.free hD)) n' q2 q3⟩
  ·exact .inr ⟨q1,λD hD=>gJ (hL1.cap cap) hS1 hD (h1 D (hS1.free hD)) n' q2 q3⟩))⟩
end
abbrev Er:=MR×MS Int
instance:Coe MR Er:=⟨λa=>(a,none)⟩
end DL
namespace L2
open PySem PySem.Spec PyProof.Rows
def GK (H:Hp) (M7:Str) (cv:MQ):Prop:=∃ (c':MR) (oc:M5) (uc:HO) (vs:MZ MQ) (t:Tok),cv=.ref c'/\H c'=some (.frz oc uc)/\oc.data=.fields vs/\vs[1]?=some (.str M7 t)
structure Ja (H:Hp) (M7:Str) (ps:MZ MQ):Prop where
 tri:TriplesOk ps.toList
 ok:∀ pos cv,codeAmong pos ps.toList=some cv->GK H M7 cv
def mr (mg:Str->MS MQ) (base:MX):Prop:=(∃ bm ob,mg "__builtins__"=some (.ref bm)/\bm≠builtinsNs/\base.get? bm=some ob/\ob.cls=.type "module"/\ob.dict=some builtinsNs/\ob.data=.plain)/\base.NoSeer
structure xB (tabs:List (MR×MR)) (H:Hp):Prop where
 only:∀ b,H b=none\/(∃ o xs,H b=some (.frz o (.lst xs)))\/(b∈tabs.map (·.2)/\H b=some (.tbl #[]))
 all:∀ q∈tabs,H q.2=some (.tbl #[])
theorem yi {P:MU} {w:MW} {K:PySem.W.Frag} {mg mb:Str->MS MQ} {CX:Cm} {k:Nat} {fa a:MR} {fd:FuncData} {x:Str} {sp:Sp} {s₁:MP} {vs:List MQ} {ns:List Int} {tabs:List (MR×MR)}
  (hT:PySem.W.TabsAt tabs s₁.heap) (hnK:PySem.W.noTabs K=true) (hbm:mr mg s₁.heap)
  (KX:K.In s₁.heap) (hns:s₁.heap.Ns mainGlobals mg) (hb:s₁.heap.Ns builtinsNs mb) (hbb:∀ x:Str,x≠"__name__"->mb x=bootBuiltins x) (hlim:s₁.heap.NoLimit) (hg:s₁.gens=#[])
  (ha:s₁.heap.get? a=some {cls:=.type "list",data:=.seq vs.toArray}) (hi:IntsAre vs ns) (hl:ns.length<=sizeLine) (hr:cI k callerA)
  (F:∀ base:MX,K.In base->base.Ns mainGlobals mg->mr mg base->PySem.W.CodeAll tabs base->aT P w K mg base CX k fa fd [x] sp) (hbind:∀ (s:MP) (u:MQ),BindsTo s fd ⟨[u],[]⟩ [(x,u)])
  (hsp:∀ H:Hp,xB tabs H->ic K H a (ns.map V.int)->sp [.ref a] H (λv _=>v=.bl true) λ_ _ _=>False)
  (hCX:∀ H e s',CX [] H s₁ (λ_ _ _=>False) e s'->False):
  codeAny (model P w) callerA (.call (.ref fa) ⟨[.ref a],[]⟩) (λr s'=>r=.ok (.ret (.bool true))/\OldK s₁.heap s'.heap/\s'.os=s₁.os/\AllBare s'.gens) s₁:=by
 have rv:=rO hi;have lenV:=hi.length;have tabO:∀ b∈tabs.map (·.2),s₁.heap.get? b=some (PySem.W.tabObj #[]):=λb hb=>by
  obtain⟨q,hq,rfl⟩:=LF.mp hb;exact(hT q hq).2
 have naT:a∉tabs.map (·.2):=λz=>by
  have e:=tabO a z;rw [ha] at e;cases e
 have nKT:∀ b o,K.lookup b=some o->b∉tabs.map (·.2):=λb o e z=>by
  have e1:=KX b o e;rw [tabO b z] at e1;cases e1;have h2:=MA.mp hnK (b,_) (PySem.W.mem_of_lookupK e);exact absurd (show false=true from h2) LH
 have core:∀ H:Hp,xB tabs H->ic K H a (ns.map V.int)->n9 P w H s₁.heap->(∀ b,H b≠none->b=a\/b∈tabs.map (·.2))->(H a≠none->K.lookup a=none)->
   codeAny (model P w) callerA (.call (.ref fa) ⟨[.ref a],[]⟩) (λr s'=>r=.ok (.ret (.bool true))/\OldK s₁.heap s'.heap/\s'.os=s₁.os/\AllBare s'.gens) s₁:=by
  intro H hO hS hok hA hK;have base_of:∀ {b:MR} {o:M5},s₁.heap.get? b=some o->H b=none->(pd s₁.heap H).get? b=some o:=λe n=>zw e n
  have noC:∀ {b:MR} {o:M5},s₁.heap.get? b=some o->o.cls≠.type "list"->o.cls≠.none->H b=none:=λ{b o} e d1 d2=>by
   cases q:H b with
   | none=>rfl
   | some u=>
    rcases hA b (by rw [q]; simp) with e' | e'
    ·subst e';rw [ha] at e; cases e
     exact absurd rfl d1
    ·rw [tabO b e'] at e; cases e
     exact absurd rfl d2
  have noA:∀ {b:MR} {o:M5} {es:MZ M4} {ep:Nat},s₁.heap.get? b=some o->o.data=.dict es ep->H b=none:=λ{b o es ep} e d=>by
   cases q:H b with
   | none=>rfl
   | some u=>
    rcases hA b (by rw [q]; simp) with e' | e'
    ·subst e';rw [ha] at e; cases e
     have d':Data.seq vs.toArray _=Data.dict es ep:=d;cases d'
    ·rw [tabO b e'] at e; cases e
     cases d
  have nsK:∀ {b:MR} {m:Str->MS MQ},s₁.heap.Ns b m->(pd s₁.heap H).Ns b m:=λ{b m} ⟨o,es,ep,e,d,r⟩=>⟨o,es,ep,base_of e (noA e d),d,r⟩
  have hKb:K.In (pd s₁.heap H):=λb o e=>base_of (KX b o e) (by
   cases q:H b with
   | none=>rfl
   | some u=>
    rcases hA b (by rw [q]; simp) with e' | e'
    ·subst e';rw [hK (by rw [q]; simp)] at e; cases e
    ·exact absurd e' (nKT b o e))
  have hBb:mr mg (pd s₁.heap H):=by
   obtain⟨⟨bm,ob,b1,b2,b3,b4,b5⟩,ns⟩:=hbm;refine⟨⟨bm,ob,b1,b2,base_of b3 (noC b3 (by rw [b4]; decide) (by rw [b4]; nofun)),b4,b5⟩,?_,?_,?_,?_⟩
   ·obtain⟨mc,h1,h2⟩:=ns.statics;exact⟨mc,nsK h1,h2⟩
   ·obtain⟨mc,h1,h2⟩:=ns.mods;exact⟨mc,nsK h1,h2⟩
   ·obtain⟨mc,h1,h2⟩:=ns.imp;exact⟨mc,nsK h1,h2⟩
   ·obtain⟨mg',bm',ob',h1,h2,h3,h4,h5⟩:=ns.main;exact⟨mg',bm',ob',nsK h1,h2,base_of h3 (noC h3 (by rw [h4]; decide) (by rw [h4]; nofun)),h4,h5⟩
  have hCb:PySem.W.CodeAll tabs (pd s₁.heap H):=.of λq hq=>by
   obtain⟨o,vs,file,tf,flags,tg,inF,text,tt,e1,r1,r2⟩:=(hT q hq).1;exact⟨o,vs,file,tf,flags,tg,inF,text,tt,base_of e1 (noC e1 (by rw [r1]; decide) (by rw [r1]; nofun)),r1,r2⟩
  have hM:Mod K mg (pd s₁.heap H):=⟨hKb,nsK hns,⟨mb,nsK hb,hbb⟩,let ⟨mc,h1,h2⟩:=hlim; ⟨mc,nsK h1,h2⟩⟩
  have e0:CV P w K mg (pd s₁.heap H) callerA [] s₁ H:=⟨rfl,hM,λb o e=>CS e,Nat.le_of_eq (yG _ _),trivial,λb hb=>absurd (show b∈([]:List MR) from hb) (by simp),hok,.of_eq hg⟩
  refine codeAny_mono ((F _ hKb (nsK hns) hBb hCb).run callerA [] s₁ H ⟨[.ref a],[]⟩ [.ref a] [.ref a] _ _ hr e0 (hbind s₁ (.ref a)) (.cons rfl .nil) (hsp H hO hS)) λr s' h=>?_
  cases r with
  | error e=>exact(hCX H e s' h).elim
  | ok fl=>
   cases fl with
   | next=>exact False.elim h
   | brk=>exact False.elim h
   | cont=>exact False.elim h
   | ret u=>
    obtain⟨v,H',os,bare,un,hok',r',q⟩:=h;have q':v=.bl true:=q;subst q';obtain rfl:u=Value.bool true:=r';refine⟨rfl,⟨λb o e=>?_,λb o e=>un.there b o e (by simp)⟩,os,bare⟩
    rcases hO.only b with z | ⟨ob,xs,z⟩ | ⟨hm,z⟩
    ·exact .inl (un.keep b o e z (by intro z; exact absurd (show b∈([]:List MR) from z) (by simp)) (by simp))
    ·have z2:=un.frzs b ob _ z;obtain⟨e1,_⟩:=hok b _ z;obtain⟨e2,_⟩:=hok' b _ z2;rw [e] at e1; cases e1
     exact .inl e2
    ·obtain⟨more,z2⟩:=un.tbls b _ z;have e2:s'.heap.get? b=some (PySem.W.tabObj (#[]++more)):=hok' b _ z2;have e3:=tabO b hm;obtain⟨q,hq,rfl⟩:=LF.mp hm;rw [e] at e3;cases e3;exact .inr (.inl ⟨((hT q hq).1.tab (hT q hq).2).isCodeTable,rfl,#[],more,rfl,e2⟩)
 have tb:∀ b,b∈tabs.map (·.2)->n9 P w (λ_=>none) s₁.heap->dY P w (λ_=>none) s₁.heap b (.tbl #[]):=λb hb _=>tabO b hb
 cases hk:K.lookup a with
 | some o=>
  have e:=KX a o hk;rw [ha] at e;cases e;refine core (λb=>if b∈tabs.map (·.2) then some (.tbl #[]) else none) ⟨λb=>?_,λq hq=>if_pos (List.mem_map_of_mem hq)⟩ (.inr ⟨_,vs.toArray,_,hk,rfl,rfl,rfl,by rw [LI,lenV]; exact hl,by simpa using rv⟩) (λb u z=>?_) (λb z=>?_) λz=>?_
  ·by_cases hm:b∈tabs.map (·.2)
   ·exact .inr (.inr ⟨hm,if_pos hm⟩)
   ·exact .inl (if_neg hm)
  ·by_cases hm:b∈tabs.map (·.2)
   ·have z':=(if_pos hm).symm.trans z;cases z';exact tabO b hm
   ·have z':=(if_neg hm).symm.trans z;cases z'
  ·by_cases hm:b∈tabs.map (·.2)
   ·exact .inr hm
   ·exact absurd (if_neg hm) z
  ·exact absurd (if_neg naT) z
 | none=>
  refine core (λb=>if b=a then some (.frz {cls:=.type "list",data:=.seq vs.toArray} (.lst (ns.map V.int))) else if b∈tabs.map (·.2) then some (.tbl #[]) else none) ⟨λb=>?_,λq hq=>?_⟩ (.inl (.inr ⟨{cls:=.type "list",data:=.seq vs.toArray},if_pos rfl⟩)) (λb u z=>?_) (λb z=>?_) λ_=>hk
  ·by_cases hb:b=a
   ·exact .inr (.inl ⟨_,_,if_pos hb⟩)
   ·by_cases hm:b∈tabs.map (·.2)
    ·exact .inr (.inr ⟨hm,(if_neg hb).trans (if_pos hm)⟩)
    ·exact .inl ((if_neg hb).trans (if_neg hm))
  ·have hm:q.2∈tabs.map (·.2):=List.mem_map_of_mem hq;have hb:q.2≠a:=λz=>naT (z▸hm)
   exact(if_neg hb).trans (if_pos hm)
  ·by_cases hb:b=a
   ·have z':=(if_pos hb).symm.trans z;cases z';subst hb;exact⟨ha,by rw [LG]; exact hl,vs,_,rv,ha⟩
   ·by_cases hm:b∈tabs.map (·.2)
    ·have z':=((if_neg hb).trans (if_pos hm)).symm.trans z;cases z';exact tabO b hm
    ·have z':=((if_neg hb).trans (if_neg hm)).symm.trans z;cases z'
  ·by_cases hb:b=a
   ·exact .inl hb
   ·by_cases hm:b∈tabs.map (·.2)
    ·exact .inr hm
    ·exact absurd ((if_neg hb).trans (if_neg hm)) z
theorem AL {l:PySem.W.OpenLaw} {n k:Nat} {q:MU} {loose:List Str} {XP:(Str->MS MQ)->MX->Prop} {YP:MW->MX->Prop} {d:DefRec} {K:Params->PySem.W.Frag} {CX:MW->Cm} {sp:MW->Sp} {x:Str} {tabs:List (MR×MR)}
  (himp:importsNone q=true) (hn:l.most=some n) (hn2:n<=sizeLine) (hdf:d.params.defaults=[]) (hr:cI k callerA)
  (hY:∀ (w:MW) (h:MX),YP w h->(K w.params).In h) (hnK:∀ w:MW,PySem.W.noTabs (K w.params)=true) (hT:∀ (w:MW) (h:MX),YP w h->PySem.W.TabsAt tabs h)
  (F:∀ (w:MW) (mg:Str->MS MQ) (fa:MR) (h:MX),(K w.params).In h->h.Ns mainGlobals mg->mg d.name=some (.ref fa)->
   ∃ fd:FuncData,(∀ (s:MP) (u:MQ),BindsTo s fd ⟨[u],[]⟩ [(x,u)])/\
    ∀ base:MX,(K w.params).In base->base.Ns mainGlobals mg->mr mg base->PySem.W.CodeAll tabs base->aT l.prog w (K w.params) mg base (CX w) k fa fd [x] (sp w))
  (hsp:∀ (w:MW) (H:Hp) (a:MR) (ns:List Int),ns.length<=n->xB tabs H->ic (K w.params) H a (ns.map V.int)->sp w [.ref a] H (λv _=>v=.bl true) λ_ _ _=>False)
  (hCX:∀ (w:MW) (H:Hp) (s:MP) (e:MQ) (s':MP),CX w [] H s (λ_ _ _=>False) e s'->False):
  PySem.W.WalkO q loose XP YP l.row.toRowW d [] (λf vs=>PySem.call f vs):=by
 refine Att.attach_call hn hdf λw s₀ s₁ mg mb fa o pm cd doc a vs ns G Y ho hd hcd hmg hobj hints hlen hg=>?_
 have KX:=hY w _ Y;obtain⟨fd,hb,hF⟩:=F w mg fa _ KX G.T.g hmg;have hbm:mr mg s₁.heap:=by
  obtain⟨bm,ob,b1,b2,b3,b4,b5,b6⟩:=G.T.bmain;exact⟨⟨bm,ob,b1,b2,b3,b4,b5,b6⟩,G.T.seer himp⟩
 exact yi (hT w _ Y) (hnK w) hbm KX G.T.g G.T.b G.T.builtins G.T.nolimit hg hobj hints (Mi hlen hn2) hr hF hb (λH hO hS=>hsp w H a ns hlen hO hS) λH e s'=>hCX w H s₁ e s'
end L2
namespace DL
open PySem PySem.Spec PyProof.Rows L2
theorem AR {β:Type}:∀ {l:List (MR×β)} {a:MR} {b:β},l.lookup a=some b->(a,b)∈l
 | [],_,_,e=>by cases e
 | (c,x)::r,a,b,e=>by
  rw [List.lookup_cons] at e;cases hb:a == c with
  | true=>rw [hb] at e; cases e; rw [eq_of_beq hb]; exact .head _
  | false=>rw [hb] at e; exact .tail _ (AR e)
def DN (tq:List (MR×Str)):DH:=λb=>(tq.lookup b).map λq=>DO.tbl λH ps=>Ja H q ps
theorem CI {K:Fg} {H:Hp} {a:MR} {ns:List Int} {F:cH} {E:XK} {tabs:List (MR×MR)} {tq:List (MR×Str)} (ho:xB tabs H) (hS:ic K H a (ns.map V.int)) (ht:∀ p∈tq,p.1∈tabs.map (·.2)) (h:F [.rl (ns.map D.int)] (DN tq) (λd _=>d=.bl true)):dk K F [.ref a] H (λv _=>v=.bl true) E:=by
 refine⟨[.rl (ns.map D.int)],DN tq,λd _=>d=.bl true,IsDs.cons (uG.mpr ⟨a,ns.map V.int,rfl,?_,?_⟩) IsDs.nil,λb o e=>?_,h,λd' S' v H' e _ _ i=>?_⟩
 ·rcases hS with (h1 | h1) | h1
  ·rcases ho.only a with z | ⟨o,xs,z⟩ | ⟨_,z⟩
   ·rw [z] at h1; cases h1
   ·rw [z] at h1; cases h1
   ·rw [z] at h1; cases h1
  ·exact .inl h1
  ·exact .inr h1
 ·clear h hS
  induction ns with
  | nil=>exact IsDs.nil
  | cons n ns ih=>exact IsDs.cons (isInt.mpr rfl) ih
 ·unfold DN at e;cases q:tq.lookup b with
  | none=>rw [q] at e; cases e
  | some x=>
   rw [q] at e;cases e;obtain⟨t,ht',e2⟩:=LF.mp (ht _ (AR q));have z:=ho.all t ht';rw [e2] at z;exact⟨#[],z,λH2 _=>⟨trivial,λpos cv z2=>by cases z2⟩⟩
 ·subst e;exact cg.mp i
end DL
namespace L2
open PySem PySem.Spec PyProof.Rows
theorem CU {X:Cx} {n:Nat} (hr:cI n X.A) (hn:33<=n) (hB:mr X.mg X.base) (hT:X.prog.given.tree=none) (hst:X.stack=X.env::X.outer) (hg:X.env.scope.isGenerator=false) (hc:X.env.scope.isCoroutine=false):
  fQ X (binaryOp .FloorDiv) (rI (λ_ j=>j≠0) λi j=>.int (i.fdiv j)):=by
 intro M6 s σ H x y v u Q I rx ry h;obtain⟨i,j,rfl,rfl,hj,q⟩:=h;obtain⟨t,rfl⟩:=rx;obtain⟨t',rfl⟩:=ry;have hd:=hr.dp;have hN:s.heap.NoSeer:=hB.2.keeps I.bk;exact floordiv_int hj ⟨.int (i.fdiv j),H,I.tok _,⟨_,rfl⟩,q⟩ (.inr (PylongRoom.of I.nolimit (by show X.A.depth+100 < recursionLimit; omega) (SeerAt.of hN hT (hst▸I.ok.frames) hg hc I.ok.blt I.ok.glob)))
end L2
namespace DL
open PySem PySem.Spec PyProof.Rows L2
abbrev D6:D2:=Hv (λ_ j=>j≠0) λi j=>.int (i.fdiv j)
theorem lJ {X:Cx} {n:Nat} (hr:cI n X.A) (hB:mr X.mg X.base) (hT:X.prog.given.tree=none) (hst:X.stack=X.env::X.outer) (hg:X.env.scope.isGenerator=false) (hc:X.env.scope.isCoroutine=false) (hn:33<=n):
  fQ X (binaryOp .FloorDiv) (jP X.K D6):=AO (C:=λ_ j=>j≠0) (gV:=λi j=>.int (i.fdiv j)) (CU hr hn hB hT hst hg hc) λ_ _ _=>isInt.mpr rfl
section
variable {X:Cx} {M6:List (MR×M5)} {σ:L2.St} {H:Hp} {s:MP}
theorem BV (I:aD X M6 σ H s) {S:DH} {a c:MR} {ds es:List D} {b:M1} (hS:Hs X.K H S) (h1:S a=some (.lst ds)) (h2:S c=some (.lst es)) (hl:ds.length=es.length) (A:MV) (hu:A.units+8 < cLine) (h:jB (kW 7) ds es=some b):
  SeqAt.RcAt A s (.ref a) (.ref c) b/\SeqAt.RcNeAt A s (.ref a) (.ref c) (!b):=by
 obtain⟨xs,q1,j1⟩:=hS.lst h1;obtain⟨ys,q2,j2⟩:=hS.lst h2;obtain⟨us,r1,p1,_⟩:=I.list (ic.of q1);obtain⟨ws,r2,p2,_⟩:=I.list (ic.of q2);have l1:=j1.length;have l2:=j2.length;have l3:=r1.length;have l4:=r2.length;have hsz:us.toArray.size=ws.toArray.size:=by simp only [LI]; omega
 have he:∀ j (h1:j < us.toArray.size) (h2:j < ws.toArray.size),SeqAt.EqAt A.in1 s us.toArray[j] ws.toArray[j] (i_ (kW 7) ds es j):=λj h1 h2=>by
  simp only [LI] at h1 h2
  obtain⟨d,e,x,y,q1,q2,d1,d2,rx,ry⟩:=tj j1 j2 r1 r2 h1 h2;have:=(qb I 7 A.in1 d e x y us[j] ws[j] _ (by show A.units+1+7 < cLine; omega) (oD h q1 q2) d1 d2 rx ry).1
  simpa using this
 have e:=mf h;rw [hl,Nat.min_self] at e;have e:(List.range us.toArray.size).all (i_ (kW 7) ds es)=b:=by
  simp only [LI];rw [<- l3,<- l1,hl]
  simpa using e
 refine⟨?_,?_⟩
 ·have z:=SeqAt.RcAt.lists p1.isList p2.isList hsz (by omega) he
  rw [e] at z;exact z
 ·have z:=SeqAt.RcNeAt.lists p1.isList p2.isList hsz (by omega) he
  rw [e] at z;exact z
end
def G3:D2:=λd e S k=>match d,e with
 | .ref a,.ref c=>∃ xs ys b,S a=some (.lst xs)/\S c=some (.lst ys)/\xs.length=ys.length/\jB (kW 7) xs ys=some b/\k (.bl b) S
 | d,e=>∃ b,kW 8 d e=some b/\k (.bl b) S
def FT:D2:=λd e S k=>match d,e with
 | .ref a,.ref c=>∃ xs ys b,S a=some (.lst xs)/\S c=some (.lst ys)/\xs.length=ys.length/\jB (kW 7) xs ys=some b/\k (.bl (!b)) S
 | d,e=>∃ b,kW 8 d e=some b/\k (.bl (!b)) S
theorem Ed {X:Cx} {n:Nat} (hr:cI n X.A):fQ X (compareOp .Eq) (jP X.K G3):=by
 intro M6 s σ H x y v u Q I rx ry h;obtain⟨d,e,S,k,i1,i2,hS,r,m⟩:=h;have hu:=hr.units;unfold G3 at r
 split at r
 ·obtain⟨xs,ys,b,h1,h2,h3,h4,w⟩:=r;have e1:=aS.mp i1;have e2:=aS.mp i2;subst e1 e2;cases rx;cases ry;exact(BV I hS h1 h2 h3 X.A (by omega) h4).1 X.prog X.w X.xe _ ⟨.bl b,H,I,rfl,lL m hS w (cg.mpr rfl)⟩
 ·obtain⟨b,h1,w⟩:=r;exact(qb I 8 X.A d e x y v u b (by omega) h1 i1 i2 rx ry).2 X.prog X.w X.xe _ ⟨.bl b,H,I,rfl,lL m hS w (cg.mpr rfl)⟩
theorem D_ {X:Cx} {n:Nat} (hr:cI n X.A):fQ X (compareOp .NotEq) (jP X.K FT):=by
 intro M6 s σ H x y v u Q I rx ry h;obtain⟨d,e,S,k,i1,i2,hS,r,m⟩:=h;have hu:=hr.units;unfold FT at r
 split at r
 ·obtain⟨xs,ys,b,h1,h2,h3,h4,w⟩:=r;have e1:=aS.mp i1;have e2:=aS.mp i2;subst e1 e2;cases rx;cases ry;exact(BV I hS h1 h2 h3 X.A (by omega) h4).2 X.prog X.w X.xe _ ⟨.bl (!b),H,I,rfl,lL m hS w (cg.mpr rfl)⟩
 ·obtain⟨b,h1,w⟩:=r;exact Fb I 8 X.A d e x y v u b (by omega) h1 i1 i2 rx ry X.prog X.w X.xe _ ⟨.bl (!b),H,I,rfl,lL m hS w (cg.mpr rfl)⟩
def AG:cH:=λds S k=>match ds with
 | [.tup xs]=>k (.tup xs) S
 | [.ref a]=>∃ xs,S a=some (.lst xs)/\k (.tup xs) S
 | _=>False
theorem mE {X:Cx}:bW X (.type "tuple") (pB X.K AG):=by
 intro M6 s σ H xs us Q I rs h;obtain⟨ds,S,k,i,hS,r,n⟩:=h;unfold AG at r
 split at r
 ·obtain⟨x,rfl,i1⟩:=dM i;obtain⟨a,vs,rfl,t,j⟩:=bY.mp i1;exact k7 M6 s σ H _ us Q I rs ⟨a,vs,rfl,.inr ⟨t,n _ S _ H r (Kp.refl H) hS i1⟩⟩
 ·obtain⟨x,rfl,i1⟩:=dM i;have e1:=aS.mp i1;subst e1;obtain⟨xs,z,r⟩:=r;obtain⟨vs,hl,j⟩:=hS.lst z;refine k7 M6 s σ H _ us Q I rs ⟨_,vs,rfl,.inl ⟨ic.of hl,λp hp=>?_⟩⟩
  have kp:Kp H (cF H p (.tup vs)):=Kp.new hp;exact n _ S _ _ r kp (hS.new hp) (bY.mpr ⟨p,vs,rfl,ja.of bJ,j.kp kp⟩)
 ·exact r.elim
def HH:D2:=λd e S k=>match d,e with
 | .tup ds,.int i=>∃ c,L2.atI ds i=some c/\k c S
 | .rl ds,.int i=>∃ c,L2.atI ds i=some c/\k c S
 | .ref a,.int i=>∃ ds c,S a=some (.lst ds)/\L2.atI ds i=some c/\k c S
 | _,_=>False
theorem EG {X:Cx}:y_ X (jP X.K HH):=y_.imp IP (jP.imp λd e S k h=>by
 unfold HH at h
 split at h
 ·obtain⟨c,h1,h2⟩:=h;simp only [tZ,h1];exact h2
 ·obtain⟨c,h1,h2⟩:=h;simp only [tZ,h1];exact h2
 ·obtain⟨ds,c,h0,h1,h2⟩:=h;simp only [tZ,h0,h1];exact h2
 ·exact h.elim)
end DL
namespace HT
open PySem PyProof.Rows
theorem AD {prog:MU} {w:MW} {A:MV} {E:MQ->MP->Prop} {s:MP} {t b:MR} {ws:List MQ} {Q:MQ->MP->Prop} (ht:IsTup s.heap t ([]:List MQ).toArray) (hb:IsTup s.heap b ws.toArray)
  (h0:Q (.ref b) s):wpAny (model prog w) A (binaryOp .Add (.ref t) (.ref b)) Q E s:=by
 obtain⟨⟨cls,dd,data,sl⟩,ho,hc,n,hd⟩:=id ht;obtain⟨⟨cls2,dd2,data2,sl2⟩,ho2,hc2,n2,hd2⟩:=id hb;simp only at hc hd hc2 hd2
 subst hc hd hc2 hd2;exact concat_meets ⟨_,ho,rfl⟩ ⟨_,ho2,rfl⟩ noFill_tuple_add seq_tuple_add PySem.F.slot_tuple_add PySem.F.entry_tuple_add (PySem.F.args_tuple_add_2 _ _)
   (tuple_addW0 t b ([]:List MQ).toArray ws.toArray n n2 dd dd2 sl sl2 (by simp)) ⟨ho,ho2,h0⟩
end HT
namespace L2
open PySem PySem.Spec PyProof.Rows
section
variable {X:Cx}
theorem B_:fQ X (binaryOp .Add) (λx y H Q=>∃ a b ys,x=.ref a/\y=.ref b/\ja X.K H a []/\ja X.K H b ys/\Q (.ref b) H):=by
 intro M6 s σ H x y v u Q I rx ry h;obtain⟨a,b,ys,rfl,rfl,ha,hb,q⟩:=h;cases rx;cases ry;obtain⟨its,r1,p1,_⟩:=I.tuple ha;obtain⟨its2,r2,p2,_⟩:=I.tuple hb;have e:its=[]:=r1.nil_iff.mpr rfl;subst e;exact HT.AD p1 p2 ⟨.ref b,H,I,rfl,q⟩
end
end L2
namespace DL
open PySem PySem.Spec PyProof.Rows L2
def ES:D2:=λd e S k=>match d,e with
 | .tup xs,.tup ys=>xs.length+ys.length<=sizeLine/\k (.tup (xs++ys)) S
 | d,e=>Gh d e S k
theorem vH {X:Cx}:fQ X (binaryOp .Add) (jP X.K ES):=by
 intro M6 s σ H x y v u Q I rx ry h;obtain⟨d,e,S,k,i1,i2,hS,r,n⟩:=h;unfold ES at r
 split at r
 ·rename_i xs ys
  obtain⟨hl,r⟩:=r
  by_cases h1:xs=[]
  ·subst h1;obtain⟨a,vs,rfl,t1,j1⟩:=bY.mp i1;obtain⟨b,us,rfl,t2,j2⟩:=bY.mp i2;have e:vs=[]:=by
    have:=j1.length;exact MN.mp this.symm
   subst e;exact B_ M6 s σ H _ _ v u Q I rx ry ⟨a,b,us,rfl,rfl,t1,t2,n _ S _ H r (Kp.refl H) hS i2⟩
  ·by_cases h2:ys=[]
   ·subst h2;obtain⟨a,vs,rfl,t1,j1⟩:=bY.mp i1;obtain⟨b,us,rfl,t2,j2⟩:=bY.mp i2;have e:us=[]:=by
     have:=j2.length;exact MN.mp this.symm
    subst e;rw [L0] at r;exact wS M6 s σ H _ _ v u Q I rx ry ⟨a,b,vs,[],rfl,rfl,t1,t2,nL j1 h1,by rw [<- j1.length]; exact hl,λ_=>n _ S _ H r (Kp.refl H) hS i1,λz=>absurd rfl z⟩
   ·exact cS M6 s σ H x y v u Q I rx ry ⟨_,_,S,k,i1,i2,hS,⟨h1,h2,hl,r⟩,n⟩
 ·exact cS M6 s σ H x y v u Q I rx ry ⟨_,_,S,k,i1,i2,hS,r,n⟩
theorem fj {K:Fg} {H:Hp}:∀ {ns:List Int} {vs:List V},IsDs K H (ns.map D.int) vs->vs=ns.map V.int
 | [],vs,h=>by
  have:=h.length;exact MN.mp this.symm
 | n::ns,vs,h=>by
  obtain⟨u,r,rfl,h1,h2⟩:=cE.mp h;rw [isInt.mp h1,fj h2]
  rfl
end DL
namespace DT
abbrev Mx:=Nat->Nat->Rat
def sm:Nat->(Nat->Rat)->Rat
 | 0,_=>0
 | n+1,f=>sm n f+f n
def sg (n:Nat):Rat:=if n % 2=0 then 1 else -1
def cl (M:Mx) (a:Nat) (u:Nat->Rat):Mx:=λr c=>if c=a then u r else M r c
def JA (M:Mx) (C:Nat->Nat) (k:Nat) (d:Rat) (z:Nat->Nat->Rat) (q x:Nat):Rat:=d*(M q x - sm k λj=>z j x*M q (C j))
def zn (M:Mx) (C:Nat->Nat) (k:Nat) (d:Rat) (z:Nat->Nat->Rat) (l c:Nat):Nat->Nat->Rat:=λj x=>if j=k then JA M C k d z l x / JA M C k d z l c else z j x - z j c*(JA M C k d z l x / JA M C k d z l c)
end DT
namespace DL
open PySem PySem.Spec PyProof.Rows L2
inductive yv (K:Fg):List MQ->List (List Int)->Prop
 | nil:yv K [] []
 | cons {p:MR} {o:M5} {its:MZ MQ} {n:Nat} {ns:List Int} {vs:List MQ} {nss:List (List Int)} (h1:K.lookup p=some o) (h2:o.cls=.type "tuple") (h3:o.data=.seq its n) (h4:its.size<=sizeLine) (h5:aV (ns.map V.int) its.toList) (r:yv K vs nss):yv K (.ref p::vs) (ns::nss)
def A9 (K:Fg) (mg:Str->MS MQ) (x:Str) (nss:List (List Int)):Prop:=∃ p o its n,mg x=some (.ref p)/\K.lookup p=some o/\o.cls=.type "tuple"/\o.data=.seq its n/\its.size<=sizeLine/\yv K its.toList nss
theorem yv.vals {K:Fg}:∀ {vs:List MQ} {nss:List (List Int)},yv K vs nss->∃ us:List V,aV us vs/\∀ H,IsDs K H (nss.map λns=>.tup (ns.map D.int)) us
 | _,_,.nil=>⟨[],.nil,λ_=>IsDs.nil⟩
 | _,_,.cons (p:=p) h1 h2 h3 h4 h5 r=>by
  obtain⟨us,a,b⟩:=r.vals;exact⟨.ref p::us,.cons rfl a,λH=>IsDs.cons (bY.mpr ⟨p,_,rfl,.inr ⟨_,_,_,h1,h2,h3,h4,h5⟩,nV _⟩) (b H)⟩
theorem xk {X:Cx} {x:Str} {nss:List (List Int)} {pos:Pos} (g:A9 X.K X.mg x nss) (hg:Gl X x) (hd:(x == ("__debug__":Str))=false:=by decide):EJ X (.Name x pos) (dC (.tup (nss.map λns=>.tup (ns.map D.int)))):=by
 obtain⟨p,o,its,n,hm,h1,h2,h3,h4,h5⟩:=g;obtain⟨us,a,b⟩:=h5.vals;exact⟨GL (xc (v:=.ref p) hg hm rfl hd) λH=>bY.mpr ⟨p,us,rfl,.inr ⟨o,its,n,h1,h2,h3,h4,a⟩,b H⟩⟩
end DL
namespace L2
open PySem PySem.Spec PyProof.Rows
theorem pP (val:Nat->Int):∀ k,argBest (λi j=>decide (val i > val j)) k<=k/\∀ i,i<=k->val i<=val (argBest (λi j=>decide (val i > val j)) k)
 | 0 => ⟨Nat.le_refl _, fun i h => by have : i = 0 := by omega
                                      subst this; exact Int.le_refl _⟩
 | k+1=>by
  obtain⟨h1,h2⟩:=pP val k;unfold argBest
  by_cases h:val (k+1) > val (argBest (λi j=>decide (val i > val j)) k)
  ·rw [if_pos (decide_eq_true h)];refine⟨LD _,λi hi=>?_⟩
   by_cases e:i=k+1
   ·subst e; exact Int.le_refl _
   ·have:=h2 i (by omega); omega
  ·rw [if_neg (by simpa using h)]
   refine⟨by omega,λi hi=>?_⟩
   by_cases e:i=k+1
   ·subst e; omega
   ·exact h2 i (by omega)
theorem j_:∀ {ns:List Int} {vs:List MQ} {i:Nat} {v:MQ},aV (ns.map V.int) vs->vs[i]?=some v->∃ t,v=.int (ns.getD i 0) t
 | [],_,i,v,.nil,h=>by simp at h
 | n::ns,_,0,v,.cons r _,h=>by
  obtain⟨t,e⟩:=r;simp at h;exact⟨t,by rw [<- h,e]; rfl⟩
 | n::ns,u::us,i+1,v,.cons _ t,h=>by
  have h:us[i]?=some v:=by simpa using h
  obtain⟨t',e⟩:=j_ t h;exact⟨t',by rw [e]; rfl⟩
section
variable {X:Cx}
theorem kF {M6:List (MR×M5)} {σ:St} {H:Hp} {s:MP} {a:MR} {Q:VK} {nm:M3} (I:aD X M6 σ H s) {v:V} {u:MQ} (r:aP v u) (q:Q v H) (h':MX) (tk:Nat)
  (kk:∀ c o,c∉[s.heap.objs.size]->(s.heap.push {cls:=.type nm,data:=.fields #[.ref a,.int 0 0]}).get? c=some o->h'.get? c=some o):EP X M6 σ Q u {s with heap:=h',toks:=tk}:=by
 have I1:aD X M6 σ H {s with heap:=s.heap.push {cls:=.type nm,data:=.fields #[.ref a,.int 0 0]}}:=I.kept (t':=s.toks) λc o e=>Ly _ e
 refine⟨v,H,aD.turnedL (s:={s with heap:=s.heap.push {cls:=.type nm,data:=.fields #[.ref a,.int 0 0]}}) (t':=tk) [s.heap.objs.size] I1 kk (λc hc=>?_),r,q⟩
 have e:c=s.heap.objs.size:=by simpa using hc
 subst e;exact I.fpOk (LD _) (I.hok.fresh (LD _))
theorem uW {s:MP} {a:MR} {o:M5} (hlt:a < s.heap.objs.size) (ho:o.isFreed=false:=by rfl):∀ b∈[s.heap.objs.size,a],b < (s.heap.push o).objs.size:=λb hb=>by
 have hz:s.heap.objs.size < (s.heap.push o).objs.size:=LC (LA _ ho);simp only [LJ,LU,or_false] at hb;rcases hb with e | e
 ·rw [e]; exact hz
 ·rw [e]; exact Nat.lt_trans hlt hz
theorem yV (hc:X.calm=true):bW X (.builtin "max") (λxs H Q=>∃ (p:MR) (ns:List Int),xs=[.ref p]/\ic X.K H p (ns.map V.int)/\ns≠[]/\∀ m:Int,m∈ns->(∀ x∈ns,x<=m)->Q (.int m) H):=by
 intro M6 s σ H xs us Q I r h;obtain⟨p,ns,rfl,hq,hn,q⟩:=h;obtain⟨u,rfl,rx⟩:=gQ r;cases rx;obtain⟨its,rv,pl,hz⟩:=I.list hq;have hl:=rv.length;rw [LG] at hl;have hlt:=pl.lt;have n0:0 < ns.length:=List.length_pos_iff.mpr hn;have hh:X.A.in1.handled=none:=I.ok.hd hc;have hv:∀ i v,its.toArray[i]?=some v->∃ t,v=Value.int (ns.getD i 0) t:=λi v h=>j_ (i:=i) (v:=v) rv (by rw [MJ] at h; exact h)
 refine call_max_walk (wpAny_pyIter_list pl.isList ?_);refine⟨s.heap.objs.size,_,_,_,_,_,λi j=>decide (ns.getD i 0 > ns.getD j 0),rfl,Walks.list hh s.heap.objs.size p (LK hlt) its.toArray,⟨⟨_,LA _ rfl,rfl,rfl⟩,Heap.IsList.at pl.isList λo e=>Ly _ e⟩,uW hlt,by rw [LI]; omega,CmpOf.ints_gt _ hv,λv h' tk hP kk=>?_⟩
 rw [LI,<- hl] at hP;obtain⟨t,rfl⟩:=hv _ _ hP;obtain⟨b1,b2⟩:=pP (λi=>ns.getD i 0) (ns.length - 1)
 have hm:ns.getD (argBest (λi j=>decide (ns.getD i 0 > ns.getD j 0)) (ns.length - 1)) 0∈ns:=by
  have hlt2:argBest (λi j=>decide (ns.getD i 0 > ns.getD j 0)) (ns.length - 1) < ns.length:=by omega
  rw [Md,L6 hlt2];exact MH hlt2
 refine kF I (show aP (.int _) (.int _ t) from⟨t,rfl⟩) (q _ hm λx hx=>?_) h' tk kk
 obtain⟨i,hi,rfl⟩:=List.mem_iff_getElem.mp hx;have:=b2 i (by omega)
 rw [Md,L6 hi] at this;exact this
theorem y6 (hc:X.calm=true):bW X (.builtin "sum") (λxs H Q=>∃ (p:MR) (ns:List Int),xs=[.ref p]/\ic X.K H p (ns.map V.int)/\(∀ j,j < ns.length->InLong (ns.getD j 0)/\InLong (preSum (λi=>ns.getD i 0) (j+1)))/\Q (.int (preSum (λi=>ns.getD i 0) ns.length)) H):=by
 intro M6 s σ H xs us Q I r h;obtain⟨p,ns,rfl,hq,hn,q⟩:=h;obtain⟨u,rfl,rx⟩:=gQ r;cases rx;obtain⟨its,rv,pl,hz⟩:=I.list hq;have hl:=rv.length;rw [LG] at hl;have hlt:=pl.lt;have hh:X.A.in1.handled=none:=I.ok.hd hc;have hv:∀ i v,its.toArray[i]?=some v->∃ t,v=Value.int (ns.getD i 0) t:=λi v h=>j_ (i:=i) (v:=v) rv (by rw [MJ] at h; exact h)
 refine call_sum_walk (wpAny_pyIter_list pl.isList ?_);refine⟨s.heap.objs.size,_,_,_,_,_,λi=>ns.getD i 0,rfl,Walks.list hh s.heap.objs.size p (LK hlt) its.toArray,⟨⟨_,LA _ rfl,rfl,rfl⟩,Heap.IsList.at pl.isList λo e=>Ly _ e⟩,uW hlt,hv,by rw [LI,<- hl]; exact hn,λh' tk t' kk=>?_⟩
 rw [LI,<- hl];exact kF I (show aP (.int _) (.int _ t') from⟨t',rfl⟩) q h' tk kk
end
end L2
namespace DL
open PySem PySem.Spec PyProof.Rows L2
def Ep:cH:=λds S k=>match ds with
 | [.ref a]=>∃ ns:List Int,S a=some (.lst (ns.map D.int))/\ns≠[]/\∀ m:Int,m∈ns->(∀ x∈ns,x<=m)->k (.int m) S
 | ds=>Hf ds S k
def A5:cH:=λds S k=>match ds with
 | [.ref a]=>∃ ns:List Int,S a=some (.lst (ns.map D.int))/\(∀ j,j < ns.length->InLong (ns.getD j 0)/\InLong (preSum (λi=>ns.getD i 0) (j+1)))/\k (.int (preSum (λi=>ns.getD i 0) ns.length)) S
 | _=>False
theorem tU {X:Cx} (hc:X.calm=true:=by rfl):bW X (.builtin "max") (pB X.K Ep):=by
 intro M6 s σ H xs us Q I rs h;obtain⟨ds,S,k,i,hS,r,n⟩:=h;unfold Ep at r
 split at r
 ·obtain⟨x,rfl,i1⟩:=dM i;have e1:=aS.mp i1;subst e1;obtain⟨ns,z,hl,r⟩:=r;obtain⟨vs,q1,j⟩:=hS.lst z;have e:=fj j;subst e;exact yV hc M6 s σ H _ us Q I rs ⟨_,ns,rfl,ic.of q1,hl,λm h1 h2=>n _ _ _ _ (r m h1 h2) (Kp.refl H) hS (isInt.mpr rfl)⟩
 ·exact Ew hc M6 s σ H xs us Q I rs ⟨_,S,k,i,hS,r,n⟩
theorem E4 {X:Cx} (hc:X.calm=true:=by rfl):bW X (.builtin "sum") (pB X.K A5):=by
 intro M6 s σ H xs us Q I rs h;obtain⟨ds,S,k,i,hS,r,n⟩:=h;unfold A5 at r
 split at r
 ·obtain⟨x,rfl,i1⟩:=dM i;have e1:=aS.mp i1;subst e1;obtain⟨ns,z,hl,r⟩:=r;obtain⟨vs,q1,j⟩:=hS.lst z;have e:=fj j;subst e;exact y6 hc M6 s σ H _ us Q I rs ⟨_,ns,rfl,ic.of q1,hl,n _ _ _ _ r (Kp.refl H) hS (isInt.mpr rfl)⟩
 ·exact r.elim
theorem qe:bootBuiltins "sum"=some (.builtin "sum"):=by decide +kernel
end DL
namespace PySem
open Sem (wp)
open Builtin DL
section
variable {prog:MU} {w:MW}
def rJ (c:M3) (d:MR) (i n ep:Nat):M5:={cls:=.type c,dict:=none,data:=.fields #[.ref d,.int i 0,.int n 0,.int ep 0],slots:=#[]}
theorem Lq (it d:MR) (es:MZ M4) (i ep:Nat) (e:M4) (hx:es[i]?=some e):
  MeetsIn prog w (Builtin.«dict_keyiterator.__next__» ⟨[.ref it],[]⟩) (λ_ R s=>s.heap.get? it=some (rJ "dict_keyiterator" d i es.size ep)/\s.heap.get? d=some (jY es ep)/\
   R (.ok (.ret e.key)) {s with heap:=s.heap.update it (Obj.mapFields (·.setIfInBounds 1 (rawInt ((i:Int)+1))))}):=
 .of_wp λA R s h=>by
  obtain⟨hp,g,dr,tk,os⟩:=s;obtain⟨h1,h2,h⟩:=h
  wp_walk
  have z:(if (i:Int) < 0 then none else es[(i:Int).toNat]?)=some e:=by
   rw [if_neg (by omega),ME]; exact hx
  rw [z]
  wp_walk
  exact⟨_,rfl,h⟩
theorem vS {h:MX} {it:MR} (f:M5->M5) (o o':M5):Heap.ExtBut it h (((h.update it f).push o).push o'):=λb u nb e=>
 Ly _ (Ly _ ((L_ _ _ (Ne.symm nb)).trans e))
theorem Lp (it d:MR) (es:MZ M4) (i ep:Nat) (hx:es[i]?=none):
  MeetsIn prog w (Builtin.«dict_keyiterator.__next__» ⟨[.ref it],[]⟩) (λA R s=>A.handled=none/\s.heap.get? it=some (rJ "dict_keyiterator" d i es.size ep)/\s.heap.get? d=some (jY es ep)/\
   (∀ h' e,Heap.ExtBut it s.heap h'->(∃ o,h'.get? e=some o/\o.cls=.type "StopIteration")->R (.error (.ref e)) {s with heap:=h'})):=
 .of_wp λA R s h=>by
  obtain⟨hp,g,dr,tk,os⟩:=s;obtain⟨h0,h1,h2,h⟩:=h
  wp_walk
  have z:(if (i:Int) < 0 then none else es[(i:Int).toNat]?)=none:=by
   rw [if_neg (by omega),ME]; exact hx
  rw [z]
  wp_walk
  unfold raiseNew;refine gt (wpAny_handled ?_);rw [show A.in1.handled=none from h0]
  exact gt (Lz (wpAny_throw (h _ _ (vS _ _ _) ⟨_,LA _ rfl,rfl⟩)))
theorem KW (v d:MR) (es:MZ M4) (ep:Nat):
  MeetsIn prog w (Builtin.«dict_items.__iter__» ⟨[.ref v],[]⟩) (λ_ R s=>s.heap.get? v=some {cls:=.type "dict_items",data:=.fields #[.ref d]}/\s.heap.get? d=some (jY es ep)/\
   R (.ok (.ret (.ref s.heap.objs.size))) {s with heap:=s.heap.push {cls:=.type "dict_itemiterator",data:=.fields #[.none,.bool false,.ref d,.int 0 0,.int es.size 0,.int ep 0,.none,.none]}}):=
 .of_wp λA R s h=>by
  obtain⟨hp,g,dr,tk,os⟩:=s;obtain⟨h1,h2,h⟩:=h
  wp_walk
  exact⟨_,rfl,h⟩
def ya (x d:MQ) (i n ep:Nat) (ok ov:MQ):M5:={cls:=.type "dict_itemiterator",dict:=none,data:=.fields #[x,.bool false,d,.int i 0,.int n 0,.int ep 0,ok,ov],slots:=#[]}
theorem Lj (it d:MR) (es:MZ M4) (i ep:Nat) (e:M4) (ok ov:MQ) (hx:es[i]?=some e):
  MeetsIn prog w (Builtin.«dict_itemiterator.__next__» ⟨[.ref it],[]⟩) (λ_ R s=>s.heap.get? it=some (ya .none (.ref d) i es.size ep ok ov)/\s.heap.get? d=some (jY es ep)/\
   ∀ h',h'.get? it=some (ya (rawInt s.heap.objs.size) (.ref d) (i+1) es.size ep e.key e.val)->h'.get? s.heap.objs.size=some {cls:=.type "tuple",data:=.seq #[e.key,e.val]}->
    (∀ b o,b≠it->s.heap.get? b=some o->h'.get? b=some o)->R (.ok (.ret (.ref s.heap.objs.size))) {s with heap:=h'}):=
 .of_wp λA R s h=>by
  obtain⟨hp,g,dr,tk,os⟩:=s;obtain⟨h1,h2,h⟩:=h;have lt:it < hp.objs.size:=LC h1
  wp_walk
  have z:(if (i:Int) < 0 then none else es[(i:Int).toNat]?)=some e:=by
   rw [if_neg (by omega),ME]; exact hx
  rw [z];have T0:Shared.TypeIs ⟨hp,g,dr,tk,os⟩ (.ref it) "dict_itemiterator":=⟨_,h1,rfl⟩
  refine gt (gt (wpAny_typeNameOfWhole_itemiter T0 (Lz (gt (wpAny_isOneOf_itemiter T0 ?_)))));refine gt (m:=setField (.ref it) 3 (rawInt ((i:Int)+1))) (L4 h1 (by simp) λk1 a1 b1=>?_)
  have a2:k1.get? it=some (ya .none (.ref d) (i+1) es.size ep ok ov):=a1;have T1:Shared.TypeIs ⟨k1,g,dr,tk,os⟩ (.ref it) "dict_itemiterator":=⟨_,a2,rfl⟩
  refine gt (L5 (gt (wpAny_isOneOf_itemiter T1 (gt (wpAny_isOneOf_itemiter T1 ?_)))));refine gt (m:=newTuple [e.key,e.val]) (wpAny_newTuple ?_);have sz:k1.objs.size=hp.objs.size:=b1.1;generalize q2:k1.push {cls:=.type "tuple",data:=.seq #[e.key,e.val]}=k2
  have a3:k2.get? it=some (ya .none (.ref d) (i+1) es.size ep ok ov):=by rw [<- q2]; exact Ly _ a2
  have t3:k2.get? hp.objs.size=some {cls:=.type "tuple",data:=.seq #[e.key,e.val]}:=by rw [<- q2,<- sz]; exact LA _ rfl
  have o3:∀ b o,b≠it->hp.get? b=some o->k2.get? b=some o:=λb o nb x=>by rw [<- q2]; exact Ly _ (b1.extBut b o nb x)
  rw [sz];refine gt (gt (wpAny_field a3 rfl (x:=.none) rfl (Lz ?_)));refine gt (wpAny_field a3 rfl (x:=ok) rfl (gt (wpAny_field a3 rfl (x:=ov) rfl ?_)));refine gt (L4 a3 (by simp) λk3 a4 b4=>gt (L4 a4 (by simp) λk4 a5 b5=>gt (L4 a5 (by simp) λk5 a6 b6=>gt (L4 a6 (by simp) λk6 a7 b7=>?_))))
  have far:∀ b o,b≠it->k2.get? b=some o->k6.get? b=some o:=λb o nb x=>b7.extBut b o nb (b6.extBut b o nb (b5.extBut b o nb (b4.extBut b o nb x)))
  exact gt (MG (Lz (Lz ⟨_,rfl,h k6 a7 (far _ _ (Nat.ne_of_gt lt) t3) λb o nb x=>far b o nb (o3 b o nb x)⟩)))
theorem K5 (it d:MR) (es:MZ M4) (i ep:Nat) (e:M4) (hx:es[i]?=some e):
  MeetsIn prog w (Builtin.«dict_valueiterator.__next__» ⟨[.ref it],[]⟩) (λ_ R s=>s.heap.get? it=some (rJ "dict_valueiterator" d i es.size ep)/\s.heap.get? d=some (jY es ep)/\
   R (.ok (.ret e.val)) {s with heap:=s.heap.update it (Obj.mapFields (·.setIfInBounds 1 (rawInt ((i:Int)+1))))}):=
 .of_wp λA R s h=>by
  obtain⟨hp,g,dr,tk,os⟩:=s;obtain⟨h1,h2,h⟩:=h
  wp_walk
  have z:(if (i:Int) < 0 then none else es[(i:Int).toNat]?)=some e:=by
   rw [if_neg (by omega),ME]; exact hx
  rw [z]
  wp_walk
  exact⟨_,rfl,h⟩
theorem K3 (it d:MR) (es:MZ M4) (i ep:Nat) (hx:es[i]?=none):
  MeetsIn prog w (Builtin.«dict_valueiterator.__next__» ⟨[.ref it],[]⟩) (λA R s=>A.handled=none/\s.heap.get? it=some (rJ "dict_valueiterator" d i es.size ep)/\s.heap.get? d=some (jY es ep)/\
   (∀ h' e,Heap.ExtBut it s.heap h'->(∃ o,h'.get? e=some o/\o.cls=.type "StopIteration")->R (.error (.ref e)) {s with heap:=h'})):=
 .of_wp λA R s h=>by
  obtain⟨hp,g,dr,tk,os⟩:=s;obtain⟨h0,h1,h2,h⟩:=h
  wp_walk
  have z:(if (i:Int) < 0 then none else es[(i:Int).toNat]?)=none:=by
   rw [if_neg (by omega),ME]; exact hx
  rw [z]
  wp_walk
  unfold raiseNew;refine gt (wpAny_handled ?_);rw [show A.in1.handled=none from h0]
  exact gt (Lz (wpAny_throw (h _ _ (vS _ _ _) ⟨_,LA _ rfl,rfl⟩)))
theorem Li (it d:MR) (es:MZ M4) (i ep:Nat) (ok ov:MQ) (hx:es[i]?=none):
  MeetsIn prog w (Builtin.«dict_itemiterator.__next__» ⟨[.ref it],[]⟩) (λA R s=>A.handled=none/\s.heap.get? it=some (ya .none (.ref d) i es.size ep ok ov)/\s.heap.get? d=some (jY es ep)/\
   (∀ h' e,Heap.ExtBut it s.heap h'->(∃ o,h'.get? e=some o/\o.cls=.type "StopIteration")->R (.error (.ref e)) {s with heap:=h'})):=
 .of_wp λA R s h=>by
  obtain⟨hp,g,dr,tk,os⟩:=s;obtain⟨h0,h1,h2,h⟩:=h
  wp_walk
  have z:(if (i:Int) < 0 then none else es[(i:Int).toNat]?)=none:=by
   rw [if_neg (by omega),ME]; exact hx
  rw [z]
  wp_walk
  unfold raiseNew;refine gt (wpAny_handled ?_);rw [show A.in1.handled=none from h0]
  exact gt (Lz (wpAny_throw (h _ _ (vS _ _ _) ⟨_,LA _ rfl,rfl⟩)))
theorem Ls (d:MR) (es:MZ M4) (ep:Nat) (hd:(d == sysModules)=false):
  MeetsIn prog w (Builtin.«dict.__iter__» ⟨[.ref d],[]⟩) (λ_ R s=>s.heap.get? d=some (jY es ep)/\R (.ok (.ret (.ref s.heap.objs.size))) {s with heap:=s.heap.push (rJ "dict_keyiterator" d 0 es.size ep)}):=
 .of_wp λA R s h=>by
  obtain⟨hp,g,dr,tk,os⟩:=s;obtain⟨h2,h⟩:=h
  wp_walk
  exact⟨_,rfl,h⟩
theorem KG (d:MR) (es:MZ M4) (ep:Nat) (hd:(d == sysModules)=false):
  MeetsIn prog w (Builtin.«dict.values» ⟨[.ref d],[]⟩) (λ_ R s=>s.heap.get? d=some (jY es ep)/\R (.ok (.ret (.ref s.heap.objs.size))) {s with heap:=s.heap.push {cls:=.type "dict_values",data:=.fields #[.ref d]}}):=
 .of_wp λA R s h=>by
  obtain⟨hp,g,dr,tk,os⟩:=s;obtain⟨h2,h⟩:=h
  wp_walk
  exact⟨_,rfl,h⟩
theorem Lr (d:MR) (es:MZ M4) (ep:Nat) (hd:(d == sysModules)=false):
  MeetsIn prog w (Builtin.«dict.items» ⟨[.ref d],[]⟩) (λ_ R s=>s.heap.get? d=some (jY es ep)/\R (.ok (.ret (.ref s.heap.objs.size))) {s with heap:=s.heap.push {cls:=.type "dict_items",data:=.fields #[.ref d]}}):=
 .of_wp λA R s h=>by
  obtain⟨hp,g,dr,tk,os⟩:=s;obtain⟨h2,h⟩:=h
  wp_walk
  exact⟨_,rfl,h⟩
theorem K0 (v d:MR) (es:MZ M4) (ep:Nat):
  MeetsIn prog w (Builtin.«dict_values.__iter__» ⟨[.ref v],[]⟩) (λ_ R s=>s.heap.get? v=some {cls:=.type "dict_values",data:=.fields #[.ref d]}/\s.heap.get? d=some (jY es ep)/\
   R (.ok (.ret (.ref s.heap.objs.size))) {s with heap:=s.heap.push (rJ "dict_valueiterator" d 0 es.size ep)}):=
 .of_wp λA R s h=>by
  obtain⟨hp,g,dr,tk,os⟩:=s;obtain⟨h1,h2,h⟩:=h
  wp_walk
  exact⟨_,rfl,h⟩
theorem La (d:MR) (es:MZ M4) (ep:Nat) (hd:(d == sysModules)=false):
  MeetsIn prog w (Builtin.«dict.__len__» ⟨[.ref d],[]⟩) (λ_ R s=>s.heap.get? d=some (jY es ep)/\R (.ok (.ret (.int es.size s.toks))) {s with toks:=s.toks+1}):=
 .of_wp λA R s h=>by
  obtain⟨hp,g,dr,tk,os⟩:=s;obtain⟨h2,h⟩:=h
  wp_walk
  refine⟨_,rfl,?_⟩;rw [show ((es.size:Int)+((0:Nat):Int))=es.size from Int.add_zero _]
  exact h
section
variable {A:MV} {E:MQ->MP->Prop} {s:MP} {it d v:MR} {es:MZ M4} {i ep:Nat} {e:M4} {ok ov:MQ}
theorem rS {Q:MQ->MP->Prop} (hd:(d == sysModules)=false) (h2:s.heap.get? d=some (jY es ep)) (h:Q (.ref s.heap.objs.size) {s with heap:=s.heap.push (rJ "dict_keyiterator" d 0 es.size ep)}):
  wpAny (model prog w) A (pyIter (.ref d)) Q E s:=
 have T:s.TypeIs (.ref d) "dict":=⟨_,h2,rfl⟩
 wpAny_pyIter_slot T F.slot_dict_iter (call_meetsIn F.slot_dict_iter T F.entry_dict_iter (F.args_dict_iter_1 _) (Ls d es ep hd) ⟨h2,"dict_keyiterator",_,⟨_,LA _ rfl,rfl⟩,F.slot_dict_keyiterator_next.lookup,h⟩)
theorem ra {Q:MQ->MP->Prop} (h1:s.heap.get? v=some {cls:=.type "dict_values",data:=.fields #[.ref d]}) (h2:s.heap.get? d=some (jY es ep)) (h:Q (.ref s.heap.objs.size) {s with heap:=s.heap.push (rJ "dict_valueiterator" d 0 es.size ep)}):
  wpAny (model prog w) A (pyIter (.ref v)) Q E s:=
 have T:s.TypeIs (.ref v) "dict_values":=⟨_,h1,rfl⟩
 wpAny_pyIter_slot T F.slot_dict_values_iter (call_meetsIn F.slot_dict_values_iter T F.entry_dict_values_iter (F.args_dict_values_iter_1 _) (K0 v d es ep) ⟨h1,h2,"dict_valueiterator",_,⟨_,LA _ rfl,rfl⟩,F.slot_dict_valueiterator_next.lookup,h⟩)
theorem xV {Q:MQ->MP->Prop} (h1:s.heap.get? v=some {cls:=.type "dict_items",data:=.fields #[.ref d]}) (h2:s.heap.get? d=some (jY es ep)) (h:Q (.ref s.heap.objs.size) {s with heap:=s.heap.push (ya .none (.ref d) 0 es.size ep .none .none)}):
  wpAny (model prog w) A (pyIter (.ref v)) Q E s:=
 have T:s.TypeIs (.ref v) "dict_items":=⟨_,h1,rfl⟩
 wpAny_pyIter_slot T F.slot_dict_items_iter (call_meetsIn F.slot_dict_items_iter T F.entry_dict_items_iter (F.args_dict_items_iter_1 _) (KW v d es ep) ⟨h1,h2,"dict_itemiterator",_,⟨_,LA _ rfl,rfl⟩,F.slot_dict_itemiterator_next.lookup,h⟩)
theorem kP {T id:M3} {f:Builtin} {φ} {Q:MS MQ->MP->Prop} (hs:Slot T "__next__" id) (hT:s.TypeIs (.ref it) T) (he:entryFor table id=some f) (ha:argsOk id ⟨[.ref it],[]⟩) (hm:MeetsIn prog w (f ⟨[.ref it],[]⟩) φ)
  (h:φ A (wants (λu s'=>Q (some u) s') λe s'=>(∃ a o,e=.ref a/\s'.heap.get? a=some o/\o.cls=.type "StopIteration")/\Q none s') s):wpAny (model prog w) A (pyNext (.ref it)) Q E s:=by
 unfold pyNext;refine gt (wpAny_attempt (wpAny_callSpecial?_slot (name:=Str.ofString "__next__") hT hs (Mg (call_meetsIn hs hT he ha hm h) (λu s' q=>Lz q) λe s' q=>?_)))
 obtain⟨⟨a,o,rfl,g,c⟩,q⟩:=q;exact gt (wpAny_isInstance (T:="StopIteration") (b:=true) ⟨_,g,c⟩ isSubtype_stop (Lz q))
inductive oN where
 | k | v
def oN.nm:oN->M3
 | .k=>"dict_keyiterator"
 | .v=>"dict_valueiterator"
def oN.of (e:M4):oN->MQ
 | .k=>e.key
 | .v=>e.val
theorem FI (c:oN) {h:MX} {it d:MR} {i n ep:Nat} (h1:h.get? it=some (rJ c.nm d i n ep)):(h.update it (Obj.mapFields (·.setIfInBounds 1 (rawInt ((i:Int)+1))))).get? it=some (rJ c.nm d (i+1) n ep):=
 Mm _ h1 rfl
theorem xP (c:oN) {Q:MS MQ->MP->Prop} (h1:s.heap.get? it=some (rJ c.nm d i es.size ep)) (h2:s.heap.get? d=some (jY es ep)) (hx:es[i]?=some e)
  (h:∀ h',h'.get? it=some (rJ c.nm d (i+1) es.size ep)->(∀ b o,b≠it->s.heap.get? b=some o->h'.get? b=some o)->Q (some (oN.of e c)) {s with heap:=h'}):wpAny (model prog w) A (pyNext (.ref it)) Q E s:=by
 have far:∀ b o,b≠it->s.heap.get? b=some o->(s.heap.update it (Obj.mapFields (·.setIfInBounds 1 (rawInt ((i:Int)+1))))).get? b=some o:=λb o nb x=>(L_ _ _ (Ne.symm nb)).trans x
 have z:=h _ (FI c h1) far;cases c with
 | k=>exact kP F.slot_dict_keyiterator_next ⟨_,h1,rfl⟩ F.entry_dict_keyiterator_next (F.args_dict_keyiterator_next_1 _) (Lq it d es i ep e hx) ⟨h1,h2,z⟩
 | v=>exact kP F.slot_dict_valueiterator_next ⟨_,h1,rfl⟩ F.entry_dict_valueiterator_next (F.args_dict_valueiterator_next_1 _) (K5 it d es i ep e hx) ⟨h1,h2,z⟩
theorem uA (c:oN) {Q:MS MQ->MP->Prop} (hh:A.handled=none) (h1:s.heap.get? it=some (rJ c.nm d i es.size ep)) (h2:s.heap.get? d=some (jY es ep)) (hx:es[i]?=none)
  (h:∀ h',(∀ b o,b≠it->s.heap.get? b=some o->h'.get? b=some o)->Q none {s with heap:=h'}):wpAny (model prog w) A (pyNext (.ref it)) Q E s:=by
 cases c with
 | k=>exact kP F.slot_dict_keyiterator_next ⟨_,h1,rfl⟩ F.entry_dict_keyiterator_next (F.args_dict_keyiterator_next_1 _) (Lp it d es i ep hx) ⟨hh,h1,h2,λh' e x z9=>by obtain⟨o,y1,y2⟩:=z9; exact⟨⟨e,o,rfl,y1,y2⟩,h h' x⟩⟩
 | v=>exact kP F.slot_dict_valueiterator_next ⟨_,h1,rfl⟩ F.entry_dict_valueiterator_next (F.args_dict_valueiterator_next_1 _) (K3 it d es i ep hx) ⟨hh,h1,h2,λh' e x z9=>by obtain⟨o,y1,y2⟩:=z9; exact⟨⟨e,o,rfl,y1,y2⟩,h h' x⟩⟩
theorem DY {Q:MS MQ->MP->Prop} (h1:s.heap.get? it=some (ya .none (.ref d) i es.size ep ok ov)) (h2:s.heap.get? d=some (jY es ep)) (hx:es[i]?=some e)
  (h:∀ h',h'.get? it=some (ya (rawInt s.heap.objs.size) (.ref d) (i+1) es.size ep e.key e.val)->h'.get? s.heap.objs.size=some {cls:=.type "tuple",data:=.seq #[e.key,e.val]}->(∀ b o,b≠it->s.heap.get? b=some o->h'.get? b=some o)->
   Q (some (.ref s.heap.objs.size)) {s with heap:=h'}):wpAny (model prog w) A (pyNext (.ref it)) Q E s:=
 kP F.slot_dict_itemiterator_next ⟨_,h1,rfl⟩ F.entry_dict_itemiterator_next (F.args_dict_itemiterator_next_1 _) (Lj it d es i ep e ok ov hx) ⟨h1,h2,λh' a b c=>h h' a b c⟩
theorem A1 {Q:MS MQ->MP->Prop} (hh:A.handled=none) (h1:s.heap.get? it=some (ya .none (.ref d) i es.size ep ok ov)) (h2:s.heap.get? d=some (jY es ep)) (hx:es[i]?=none)
  (h:∀ h',(∀ b o,b≠it->s.heap.get? b=some o->h'.get? b=some o)->Q none {s with heap:=h'}):wpAny (model prog w) A (pyNext (.ref it)) Q E s:=
 kP F.slot_dict_itemiterator_next ⟨_,h1,rfl⟩ F.entry_dict_itemiterator_next (F.args_dict_itemiterator_next_1 _) (Li it d es i ep ok ov hx) ⟨hh,h1,h2,λh' e x z9=>by obtain⟨o,y1,y2⟩:=z9; exact⟨⟨e,o,rfl,y1,y2⟩,h h' x⟩⟩
theorem Jv {elts:List MT} {x1} {pos:Pos} {T:MR} {Q:Unit->MP->Prop} (h1:s.heap.get? it=some (ya (rawInt T) (.ref d) i es.size ep ok ov))
  (h:∀ h',h'.get? it=some (ya .none (.ref d) i es.size ep ok ov)->(∀ b o,b≠it->s.heap.get? b=some o->h'.get? b=some o)->Q () {s with heap:=h'}):wpAny (model prog w) A (letOwnedTupleGo (.Tuple elts x1 pos) (.ref it) (.ref T)) Q E s:=
 wpAny_letOwnedTupleGo_items h1 λh' a b=>h h' a λc o n x=>b.extBut c o n x
theorem xI (c:oN) {n:Nat} {Q:MQ->MP->Prop} (h1:s.heap.get? it=some (rJ c.nm d i n ep)) (h:Q (.ref it) s):wpAny (model prog w) A (pyIter (.ref it)) Q E s:=by
 cases c with
 | k=>exact wpAny_pyIter_keyiter ⟨_,h1,rfl,rfl⟩ h
 | v=>exact wpAny_pyIter_valiter ⟨_,h1,rfl,rfl⟩ h
theorem Da {n:Nat} {x:MQ} {Q:MQ->MP->Prop} (h1:s.heap.get? it=some (ya x (.ref d) i n ep ok ov)) (h:Q (.ref it) s):wpAny (model prog w) A (pyIter (.ref it)) Q E s:=by
 have T:s.TypeIs (.ref it) "dict_itemiterator":=⟨_,h1,rfl⟩
 have en:entryFor table "dict_itemiterator.__iter__"=some Builtin.«dict_keyiterator.__iter__»:=PySem.W.kcp_entry
 refine wpAny_pyIter_slot T F.slot_dict_itemiterator_iter (wpAny_call_entry F.slot_dict_itemiterator_iter T en ?_ (F.args_dict_itemiterator_iter_1 _));exact Lz ⟨_,rfl,"dict_itemiterator",_,T,F.slot_dict_itemiterator_next.lookup,h⟩
end
end
end PySem
namespace DL
open PySem PySem.Spec PyProof.Rows L2
def cz (k:List Int):D:=.tup (k.map .int)
def de (kvs:List (List Int×D)) (k:List Int):MS D:=(kvs.find? λp=>decide (p.1=k)).map (·.2)
def fk (kvs:List (List Int×D)) (k:List Int) (d:D):List (List Int×D):=if (de kvs k).isSome then kvs.map (λp=>if p.1=k then(p.1,d) else p) else kvs++[(k,d)]
section
variable {K:Fg} {H H':Hp} {S:DH} {p:MR}
theorem yj.step' {a:MR} {o:DO} (z:yj K H a o) (k:Kp H H') (s:H' a=H a):yj K H' a o:=
 Hs.step (S:=λb=>if b=a then some o else none) (λb u e=>by
  by_cases q:b=a
  ·subst q; cases (if_pos rfl).symm.trans e; exact z
  ·cases (if_neg q).symm.trans e) k (λb u e=>by
  by_cases q:b=a
  ·subst q; exact s
  ·cases (if_neg q).symm.trans e) a o (if_pos rfl)
theorem Hs.setG {o u:HO} {g:EU} (h:Hs K H S) (e:H p=some u) (n:¬ JH u) (r:pf K (cF H p o) p g):Hs K (cF H p o) (put S p (.gen g)):=λa ob q=>by
 by_cases z:a=p
 ·subst z;rw [ak] at q;cases q;exact r
 ·rw [bI z] at q;exact yj.step' (h a ob q) (Kp.mut e n) (aO z)
theorem Hs.newG {o:HO} {g:EU} (h:Hs K H S) (e:H p=none) (r:pf K (cF H p o) p g):Hs K (cF H p o) (put S p (.gen g)):=λa ob q=>by
 by_cases z:a=p
 ·subst z;rw [ak] at q;cases q;exact r
 ·rw [bI z] at q;exact yj.step' (h a ob q) (Kp.new e) (aO z)
theorem Hs.dT {kvs:List (List Int×D)} {ep:Nat} (h:Hs K H S) (e:S p=some (.gen (.dT kvs ep))):∃ xs,H p=some (.ext (jZ p xs ep))/\kL K H kvs xs:=h p _ e
theorem jc:∀ {k:List Int} {xs:List V},IsDs K H (k.map D.int) xs↔xs=k.map V.int
 | [],xs=>ib
 | i::k,xs=>by
  rw [LP,LP,cE]
  constructor
  ·rintro⟨v,r,rfl,h1,h2⟩;rw [isInt.mp h1,jc.mp h2]
  ·rintro rfl;exact⟨_,_,rfl,isInt.mpr rfl,jc.mpr rfl⟩
theorem nX {k:List Int} {v:V}:ce K H (cz k) v↔∃ b,v=.ref b/\ja K H b (k.map V.int):=by
 unfold cz;rw [bY]
 constructor
 ·rintro⟨a,xs,e,t,j⟩;rw [jc.mp j] at t;exact⟨a,e,t⟩
 ·rintro⟨b,e,t⟩;exact⟨b,_,e,t,jc.mpr rfl⟩
variable {kvs:List (List Int×D)} {xs:List (List Int×MR×MQ)}
theorem kL.get (r:kL K H kvs xs) (k:List Int):(de kvs k=none/\atKey xs k=none)\/∃ d b u v,de kvs k=some d/\atKey xs k=some (b,u)/\aP v u/\ce K H d v:=by
 induction r with
 | nil=>exact .inl ⟨rfl,rfl⟩
 | @cons p q ps qs h t ih=>
  obtain⟨h1,h2,v,h3,h4⟩:=h
  by_cases e:p.1=k
  ·exact .inr ⟨p.2,q.2.1,q.2.2,v,by simp [de,LS,e],by simp [atKey,LS,h1.symm.trans e],h3,h4⟩
  ·have e':¬ q.1=k:=λz=>e (h1.trans z)
   have a1:de (p::ps) k=de ps k:=by simp [de,LS,e]
   have a2:atKey (q::qs) k=atKey qs k:=by simp [atKey,LS,e']
   rw [a1,a2];exact ih
theorem kL.isSome (r:kL K H kvs xs) (k:List Int):(de kvs k).isSome=(atKey xs k).isSome:=by
 rcases r.get k with ⟨a,b⟩ | ⟨d,b,u,v,a,c,_⟩
 ·rw [a,b]; rfl
 ·rw [a,c]; rfl
theorem kL.put (r:kL K H kvs xs) {k:List Int} {b:MR} {d:D} {v:V} {u:MQ} (hb:ja K H b (k.map V.int)) (rv:aP v u) (hd:ce K H d v):kL K H (fk kvs k d) (storedH xs k b u):=by
 unfold fk storedH;rw [r.isSome k]
 by_cases q:(atKey xs k).isSome=true
 ·rw [if_pos q,if_pos q];clear q
  induction r with
  | nil=>exact .nil
  | @cons p q ps qs h t ih=>
   rw [LP,LP];refine .cons ?_ ih;obtain⟨h1,h2,v',h3,h4⟩:=h;unfold putAt
   by_cases e:p.1=k
   ·rw [if_pos e,if_pos (h1.symm.trans e)]; exact⟨h1,h2,v,rv,hd⟩
   ·rw [if_neg e,if_neg (λz=>e (h1.trans z))]; exact⟨h1,h2,v',h3,h4⟩
 ·rw [if_neg q,if_neg q];exact Paired.snoc r ⟨rfl,hb,v,rv,hd⟩
theorem kL.length (r:kL K H kvs xs):kvs.length=xs.length:=Paired.length r
theorem kL.at_:∀ {kvs:List (List Int×D)} {xs:List (List Int×MR×MQ)} {i:Nat} {p:List Int×D},kL K H kvs xs->kvs[i]?=some p->∃ q,xs[i]?=some q/\p.1=q.1/\ja K H q.2.1 (p.1.map V.int)/\∃ v,aP v q.2.2/\ce K H p.2 v
 | _,_,0,_,.cons h _,e=>by cases e; exact⟨_,rfl,h⟩
 | _,_,i+1,_,.cons _ t,e=>kL.at_ (i:=i) t e
end
section
variable {X:Cx} {M6:List (MR×M5)} {σ:L2.St} {H:Hp} {s:MP} {a b:MR} {kvs:List (List Int×D)} {xs:List (List Int×MR×MQ)} {ep:Nat} {k:List Int}
theorem items_int {P:MU} {w:MW}:∀ {ks:List Int} {us:List MQ},aV (ks.map V.int) us->PySem.ItemsAre (intKind P w) ks us
 | [],_,r=>by rw [List.map_nil] at r; cases r; exact .nil
 | k::ks,_,r=>by
  rw [LP] at r;cases r with
  | cons h t=>
   obtain⟨tk,rfl⟩:=h;exact .cons (by simp [intKind,Value.isInt]) (items_int t)
theorem kR (I:aD X M6 σ H s) (h:ja X.K H b (k.map V.int)):(tupleKind (intKind X.prog X.w)).is s.heap k b:=by
 obtain⟨its,r,⟨o,h1,h2,n,h3⟩,_⟩:=I.tuple h;exact⟨o,its.toArray,n,h1,h2,h3,by simpa using items_int r⟩
theorem bV (I:aD X M6 σ H s) (e:H a=some (.ext (jZ a xs ep))):(a == sysModules)=false/\xs.length<=sizeLine/\(xs.map (·.1)).Nodup/\s.heap.get? a=some (jY (xs.map eT).toArray ep):=(I.hok a _ e).1
theorem pV (I:aD X M6 σ H s) (e:H a=some (.ext (jZ a xs ep))) (r:kL X.K H kvs xs):s.heap.DictOfH (tupleKind (intKind X.prog X.w)) a xs:=by
 obtain⟨_,z,nd,g⟩:=bV I e;refine⟨_,_,ep,g,⟨rfl,rfl,rfl⟩,rfl,rfl,?_,nd⟩;clear z nd g e
 induction r with
 | nil=>intro x hx; exact nomatch hx
 | @cons p q ps qs h t ih=>
  intro x hx;rcases LJ.mp hx with e | hx
  ·subst e;rw [<- h.1];exact kR I h.2.1
  ·exact ih x hx
theorem wH {P:MU} {w:MW} {h:MX} (hd:(a == sysModules)=false) (z:xs.length<=sizeLine) (m:h.DictOfH (tupleKind (intKind P w)) a xs):∃ ep,jZ a xs ep h:=by
 obtain⟨⟨c,d,dt,sl⟩,es,ep,g,⟨c1,c2,c3⟩,c4,c5,_,nd⟩:=m;have q:es=(xs.map eT).toArray:=by
  have:es.toList=xs.map eT:=c5;rw [<- this]
 refine⟨ep,hd,z,nd,?_⟩;rw [g];cases c1; cases c2; cases c3; cases c4
 rw [q]
 rfl
theorem nR {P:MU} {w:MW} {h:MX} (m:jZ a xs ep h):dY P w H h a (.ext (jZ a xs ep)):=
 ⟨m,⟨_,m.2.2.2⟩,λh1 h2 p q=>⟨p.1,p.2.1,p.2.2.1,q _ p.2.2.2⟩⟩
theorem iz (xs:List (List Int×MR×MQ)) (k:List Int) (b:MR) (u:MQ):(storedH xs k b u).length<=xs.length+1:=by
 unfold storedH
 split
 ·rw [LG]; omega
 ·rw [LY]; exact LD _
theorem un1 {n:Nat} {A:MV} (hr:cI n A):A.units+1 < cLine:=by have:=hr.un; omega
def xr (go gi:DE):DE:=λL S k=>go L S λd S1=>gi L S1 λe S2=>match d with
 | .ref a=>∃ kvs ep ks c,S2 a=some (.gen (.dT kvs ep))/\e=cz ks/\de kvs ks=some c/\k c S2
 | _=>False
def Gm (K:Fg) (to ti:TE):TE:=fun σ H Q=>to σ H λx H1=>ti σ H1 λy H2=>∃ a b kvs xs ep ks p v,x=.ref a/\y=.ref b/\H2 a=some (.ext (jZ a xs ep))/\kL K H2 kvs xs/\ja K H2 b (ks.map V.int)/\atKey xs ks=some p/\aP v p.2/\Q v H2
theorem AT {o i:MT} {to ti:TE} {pos:Pos} {n:Nat} (hr:cI n X.A) (ho:PE X o to) (hi:PE X i ti) (hs:E2 i):PE X (.Subscript o i pos) (Gm X.K to ti):=by
 intro M6 s σ H Q I h;refine C9 PySem.F.slot_dict_getitem.lookup hs (cR (ho M6 s σ H _ I h) λu s1 ⟨x,H1,I1,rx,h1⟩=>cR (hi M6 s1 σ H1 _ I1 h1) λiv s2 z9=>?_)
 obtain⟨y,H2,I2,ry,a,b,kvs,xs,ep,ks,p,v,ex,ey,e1,r1,t1,z2,z3,q⟩:=z9;subst ex ey;obtain rfl:u=Value.ref a:=rx;cases (show iv=Value.ref b from ry)
 have dd:=pV I2 e1 r1;exact⟨dd.typeIs,wpAny_getItem_heap (tupleKind_room_in1 (un1 hr)) (kR I2 t1) dd z2 ⟨v,H2,I2.tok _,z3,q⟩⟩
theorem gG {o i:MT} {go gi:DE} {pos:Pos} {n:Nat} (hr:cI n X.A) (ho:EJ X o go) (hi:EJ X i gi) (hs:E2 i):EJ X (.Subscript o i pos) (xr go gi):=
 ⟨PE.imp (AT hr ho.h hi.h hs) fun σ H Q ⟨L,S,k,hL,hS,h,m⟩=>up.go hL hS h λd S1 x H1 h1 k1 hL1 hS1 i1=>up.go hL1 hS1 h1 λe S2 y H2 h2 k2 hL2 hS2 i2=>by
  cases d with
  | ref a=>
   obtain⟨kvs,ep,ks,c,g1,rfl,g3,h2⟩:=h2;obtain⟨xs,e1,r1⟩:=hS2.dT g1;obtain⟨b,rfl,t1⟩:=nX.mp i2;have ex:=aS.mp i1;subst ex;rcases r1.get ks with ⟨z,_⟩ | ⟨d,b',w,v,z1,z2,z3,z4⟩
   ·rw [g3] at z; cases z
   ·rw [g3] at z1;cases z1;exact⟨a,b,kvs,xs,ep,ks,_,v,rfl,rfl,e1,r1,t1,z2,z3,m c S2 v H2 h2 (k1.trans k2) hS2 z4⟩
  | _=>exact(show False from h2).elim⟩
def IZ (K:Fg):CW:=λx y v H Q=>∃ a b kvs xs ep ks,x=.ref a/\y=.ref b/\H a=some (.ext (jZ a xs ep))/\kL K H kvs xs/\ja K H b (ks.map V.int)/\xs.length < sizeLine/\∀ u ep',aP v u->Q (cF H a (.ext (jZ a (storedH xs ks b u) ep')))
theorem zm {n:Nat} (hr:cI n X.A):GU X (IZ X.K):=by
 intro M6 s σ H o i v ov iv u Q I ro ri rv h;obtain⟨a,b,kvs,xs,ep,ks,rfl,rfl,e1,r1,t1,z,q⟩:=h;cases (show ov=Value.ref a from ro)
 cases (show iv=Value.ref b from ri)
 have hd:=(bV I e1).1;refine wpAny_setItem_heap (hsz:=Nat.le_of_lt z) (tupleKind_room_in1 (un1 hr)) (kR I t1) (pV I e1 r1) λh' dd' hs=>?_
 have z':(storedH xs ks b u).length<=sizeLine:=by have:=iz xs ks b u; omega
 obtain⟨ep',m⟩:=wH hd z' dd';exact⟨_,xj I (by rw [e1]; exact True.intro) hs ⟨_,m.2.2.2⟩ (nR m),q u ep' rv⟩
def AW (go gi:DE):DG:=λd L S k=>go L S λo S1=>gi L S1 λi S2=>match o with
 | .ref a=>∃ kvs ep ks,S2 a=some (.gen (.dT kvs ep))/\i=cz ks/\kvs.length < sizeLine/\∀ ep',k L (put S2 a (.gen (.dT (fk kvs ks d) ep')))
 | _=>False
theorem dQ {o i:MT} {go gi:DE} {pos:Pos} {n:Nat} (hr:cI n X.A) (ho:EJ X o go) (hi:EJ X i gi)
  (ha:∀ v,assign (.Subscript o i pos) X.env v=(do
   let ov <- holding [v] (eval o X.env)
   let iv <- holding [v,ov] (eval i X.env)
   standAt pos
   holding [v,ov,iv] (setItem ov iv v)
   release [v,ov,iv] []):=by intro _; rfl):GJ X (.Subscript o i pos) (AW go gi):=
 ⟨PG.imp (Bb ho.h hi.h (zm hr) ha) λv σ H Q ⟨d,L,S,k,i1,hL,hS,h,m⟩=>up.go hL hS h λc S1 u H1 h1 k1 hL1 hS1 j1=>up.go hL1 hS1 h1 λc2 S2 u2 H2 h2 k2 hL2 hS2 j2=>by
  cases c with
  | ref a=>
   obtain⟨kvs,ep,ks,g1,rfl,z,h2⟩:=h2;obtain⟨xs,e1,r1⟩:=hS2.dT g1;obtain⟨b,rfl,t1⟩:=nX.mp j2;have ex:=aS.mp j1;subst ex;refine⟨a,b,kvs,xs,ep,ks,rfl,rfl,e1,r1,t1,by rw [<- r1.length]; exact z,λw ep' rw'=>?_⟩
   have k3:Kp H2 (cF H2 a (.ext (jZ a (storedH xs ks b w) ep'))):=Kp.mut e1 (λz=>z)
   exact m L _ σ _ (h2 ep') (k1.trans (k2.trans k3)) (hL2.kp k3) (hS2.setG e1 (λz=>z) ⟨_,bJ,(r1.put t1 rw' (i1.kp (k1.trans k2))).kp k3⟩)
  | _=>exact(show False from h2).elim⟩
def EL:DE:=λ_ S k=>∀ p,S p=none->∀ ep,k (.ref p) (put S p (.gen (.dT [] ep)))
theorem rA (h:MX) (hb:sysModules < h.objs.size):jZ h.objs.size [] 0 (h.push {cls:=.type "dict",data:=.dict #[]}):=
 ⟨beq_eq_false_iff_ne.mpr (Ne.symm (LK hb)),Mw _,List.nodup_nil,LA _ rfl⟩
theorem eW {pos:Pos}:EJ X (.Dict [] [] pos) EL:=⟨λM6 s σ H Q I ⟨L,S,k,hL,hS,h,m⟩=>by
 have hn:=I.hok.fresh (LD s.heap.objs.size);refine wpAny_Dict_empty ⟨.ref s.heap.objs.size,_,I.laid (a:=s.heap.objs.size) (o:=.ext (jZ s.heap.objs.size [] 0)) (t':=s.toks) (λ_ _ q=>Ly _ q) (LD _) (nR (rA s.heap I.big)),rfl,?_⟩
 exact m _ _ _ _ (h _ (hS.free hn) 0) (Kp.new hn) (hS.newG hn ⟨[],bJ,.nil⟩) (aS.mpr rfl)⟩
end
end DL
namespace L2
open PySem PySem.Spec PyProof.Rows
theorem wU {X:Cx} {M6:List (MR×M5)} {σ:St} {H:Hp} {s:MP} {a:MR} {xs ys:List (List Int×MR×MQ)} {ep ep' i:Nat} {x:List Int×MR×MQ} (I:aD X M6 σ H s) (e1:H a=some (.ext (DL.jZ a xs ep))) (e2:H a=some (.ext (DL.jZ a ys ep')))
  (hx:xs[i]?=some x):∃ y,ys[i]?=some y/\DL.eT y=DL.eT x:=by
 have g1:=(DL.bV I e1).2.2.2;have g2:=(DL.bV I e2).2.2.2;have z:=Ma (g1.symm.trans g2);have q:xs.map DL.eT=ys.map DL.eT:=by
  unfold DL.jY at z;injection z with _ _ z _
  injection z with z _
  exact congrArg Array.toList z
 have w:(ys.map DL.eT)[i]?=some (DL.eT x):=by rw [<- q,L8,hx]; rfl
 rw [L8] at w;exact Mq.mp w
def JJ (c:oN) (a:MR) (ep n:Nat):It:=
 ⟨λi H => ∃ xs x v, H a = some (.ext (DL.jZ a xs ep)) ∧ xs[i]? = some x ∧ xs.length = n ∧ aP v (oN.of (DL.eT x) c),
  λi H v H'=>H'=H/\∀ xs,H a=some (.ext (DL.jZ a xs ep))->∃ x,xs[i]?=some x/\aP v (oN.of (DL.eT x) c),
  λi H=>∃ xs,H a=some (.ext (DL.jZ a xs ep))/\xs.length=n/\n<=i⟩
theorem rM {P:MU} {w:MW} {K:PySem.W.Frag} {tg:MT} (c:oN) (a it:MR) (ep n:Nat):vm P w K tg (JJ c a ep n) [it] it (λi h=>h.get? it=some (rJ c.nm a i n ep)) where
 mem:=by simp
 obj:=λi h st b hb=>by
  have e:b=it:=by simpa using hb
  subst e;exact⟨_,st,λv z=>by cases z⟩
 keep:=λi h h' st k=>k it (by simp) _ st
 item:=by
  intro X hP hw hK hc i M6 s σ H E I hf st hg;subst hP hw hK;obtain⟨xs,x,v,e1,hx,hn,rv⟩:=hg;have g:=(DL.bV I e1).2.2.2;have sz:(xs.map DL.eT).toArray.size=n:=by simp [hn]
  obtain⟨f0,f1,f2,f3,f4,f5⟩:=hf it (by simp)
  refine xP c (e:=DL.eT x) (by rw [sz]; exact st) g (by simp [hx]) λh' st' kk=>?_
  have I1:aD X M6 σ H {s with heap:=h'}:=I.turned (t':=s.toks) kk f0 f1 f3 f4 f5
  rw [sz] at st';refine⟨_,rfl,rL (s:={s with heap:=h'}) (n:=c.nm) st' rfl rfl (by cases c <;> decide) ⟨v,H,I1,rv,⟨rfl,λys ey=>?_⟩,st',λb hb=>(hf b hb).1⟩⟩
  obtain⟨y,y1,y2⟩:=wU I e1 ey hx;exact⟨y,y1,by rw [y2]; exact rv⟩
 done:=by
  intro X hP hw hK hc i M6 s σ H E I hf st hg;subst hP hw hK;obtain⟨xs,e1,hn,hi⟩:=hg;have g:=(DL.bV I e1).2.2.2;have sz:(xs.map DL.eT).toArray.size=n:=by simp [hn]
  obtain⟨f0,f1,f2,f3,f4,f5⟩:=hf it (by simp)
  exact uA c (I.ok.hd hc) (by rw [sz]; exact st) g (by simp; omega) λh' kk=>⟨rfl,I.turned (t':=s.toks) kk f0 f1 f3 f4 f5⟩
 self:=λ_ _ _ _ _ st h=>xI c st h
def KC (a:MR) (ep n:Nat):It:=
 ⟨λi H => ∃ xs x v, H a = some (.ext (DL.jZ a xs ep)) ∧ xs[i]? = some x ∧ xs.length = n ∧ aP v x.2.2,
  λi H u H'=>∃ T b v,u=.ref T/\H T=none/\H'=cF H T (.tup [.ref b,v])/\∀ xs,H a=some (.ext (DL.jZ a xs ep))->∃ x,xs[i]?=some x/\b=x.2.1/\aP v x.2.2,
  λi H=>∃ xs,H a=some (.ext (DL.jZ a xs ep))/\xs.length=n/\n<=i⟩
theorem wg {P:MU} {w:MW} {K:PySem.W.Frag} {es:List MT} {k:Nat} {pos:Pos} (a it:MR) (ep n:Nat) (ne:it≠a):vm P w K (.Tuple es k pos) (KC a ep n) [it] it (λi h=>∃ ok ov,h.get? it=some (ya .none (.ref a) i n ep ok ov)) where
 mem:=by simp
 obj:=λi h st b hb=>by
  have e:b=it:=by simpa using hb
  subst e;obtain⟨ok,ov,st⟩:=st;exact⟨_,st,λv z=>by cases z⟩
 keep:=λi h h' ⟨ok,ov,st⟩ k=>⟨ok,ov,k it (by simp) _ st⟩
 item:=by
  intro X hP hw hK hc i M6 s σ H E I hf st hg;subst hP hw hK;obtain⟨ok,ov,st⟩:=st;obtain⟨xs,x,v,e1,hx,hn,rv⟩:=hg;have g:=(DL.bV I e1).2.2.2;have sz:(xs.map DL.eT).toArray.size=n:=by simp [hn]
  have hT:H s.heap.objs.size=none:=I.hok.fresh (LD _);have old:it≠s.heap.objs.size:=LK (LC st);refine DY (e:=DL.eT x) (es:=(xs.map DL.eT).toArray) (by rw [sz]; exact st) g (by simp [hx]) λh' st' tp kk=>?_
  rw [sz] at st';have hfi:∀ b∈[it],kS X M6 H b:=λb hb=>by
   have e:b=it:=by simpa using hb
   subst e;exact hf b (by simp)
  have I1:aD X M6 σ (cF H s.heap.objs.size (.tup [.ref x.2.1,v])) {s with heap:=h'}:=I.turnedNew (t':=s.toks) [it] (λb o hb e=>kk b o (λq=>hb (by simp [q])) e) hfi (LD _)
   ⟨LV rfl,[_,_],.cons rfl (.cons rv .nil),⟨_,tp,rfl,_,rfl⟩⟩
  refine⟨_,rfl,Jv (s:={s with heap:=h'}) (es:=(xs.map DL.eT).toArray) (by rw [sz]; exact st') λh2 st2 kk2=>?_⟩
  rw [sz] at st2;refine⟨.ref s.heap.objs.size,_,I1.turnedL (t':=s.toks) [it] (λb o hb e=>kk2 b o (λq=>hb (by simp [q])) e) (λb hb=>?_),rfl,⟨_,_,v,rfl,hT,rfl,λys ey=>?_⟩,⟨_,_,st2⟩,λb hb=>?_⟩
  ·have e:b=it:=by simpa using hb
   subst e;obtain⟨f0,f1,f2,f3,f4,f5⟩:=hf b (by simp)
   exact⟨by rw [aO old]; exact f0,f1,f2,f3,f4,f5⟩
  ·obtain⟨y,y1,y2⟩:=wU I e1 ey hx;have q1:y.2.1=x.2.1:=Value.ref.inj (congrArg DictEntry.key y2);have q2:y.2.2=x.2.2:=congrArg DictEntry.val y2;exact⟨y,y1,q1.symm,by rw [q2]; exact rv⟩
  ·have e:b=it:=by simpa using hb
   subst e;rw [aO old];exact(hf b (by simp)).1
 done:=by
  intro X hP hw hK hc i M6 s σ H E I hf st hg;subst hP hw hK;obtain⟨ok,ov,st⟩:=st;obtain⟨xs,e1,hn,hi⟩:=hg;have g:=(DL.bV I e1).2.2.2;have sz:(xs.map DL.eT).toArray.size=n:=by simp [hn]
  obtain⟨f0,f1,f2,f3,f4,f5⟩:=hf it (by simp)
  exact A1 (I.ok.hd hc) (by rw [sz]; exact st) g (by simp; omega) λh' kk=>⟨rfl,I.turned (t':=s.toks) kk f0 f1 f3 f4 f5⟩
 self:=λ_ _ _ _ _ ⟨_,_,st⟩ h=>Da st h
section
variable {X:Cx} {tg l o:MT} {tl to:TE} {apos cpos:Pos}
def Jf (tl:TE):TI:=fun σ H R=>tl σ H λx H1=>∃ a ep xs,x=.ref a/\H1 a=some (.ext (DL.jZ a xs ep))/\R (JJ .k a ep xs.length) H1
theorem C7 (hl:PE X l tl):PI X tg l (Jf tl):=by
 intro M6 s σ H R I h;refine cR (hl M6 s σ H _ I h) λv s1 z9=>?_
 obtain⟨x,H1,I1,r1,a,ep,xs,ex,e1,q⟩:=z9;subst ex;cases (show v=Value.ref a from r1)
 obtain⟨hd,_,_,g⟩:=DL.bV I1 e1;refine rS hd g ⟨s1.heap.objs.size,[s1.heap.objs.size],_,_,H1,rfl,I1.kept (t':=s1.toks) λb o e=>Ly _ e,rM .k a _ ep xs.length,?_,λb hb=>?_,q⟩
 ·show(s1.heap.push _).get? _=_
  rw [LA _ rfl];simp [oN.nm]
 ·have e:b=s1.heap.objs.size:=by simpa using hb
  subst e;exact I1.fpOk (LD _) (I1.hok.fresh (LD _))
def Hx (to:TE):TI:=fun σ H R=>to σ H λx H1=>∃ a ep xs,x=.ref a/\H1 a=some (.ext (DL.jZ a xs ep))/\R (JJ .v a ep xs.length) H1
theorem D0 (ho:PE X o to) (hbase:attributeBase o "values" X.env (eval o X.env)=eval o X.env:=by rfl) (hline:(apos.endLine == cpos.line)=true:=by rfl):PI X tg (.Call (.Attribute o "values" apos) [] [] cpos) (Hx to):=by
 intro M6 s σ H R I h;refine wpAny_Call_method0_late hbase hline (cR (ho M6 s σ H _ I h) λv s1 z9=>?_)
 obtain⟨x,H1,I1,r1,a,ep,xs,ex,e1,q⟩:=z9;subst ex;cases (show v=Value.ref a from r1)
 obtain⟨hd,_,_,g⟩:=DL.bV I1 e1;refine⟨"dict","dict.values",F.plainAttrs_dict,F.slot_dict_values,F.type_dict_values,⟨_,g,rfl⟩,λb e=>by cases e; exact⟨_,g,rfl⟩,Calls.callWith_builtin rfl (PySem.evalArgs_none ?_)⟩
 refine call_meetsIn F.slot_dict_values ⟨_,g,rfl⟩ F.entry_dict_values (F.args_dict_values_1 _) (KG a _ ep hd) ⟨g,?_⟩;have I2:aD X M6 σ H1 {s1 with heap:=s1.heap.push {cls:=.type "dict_values",data:=.fields #[.ref a]}}:=I1.kept (t':=s1.toks) λb o e=>Ly _ e
 refine ra (s:={s1 with heap:=s1.heap.push {cls:=.type "dict_values",data:=.fields #[.ref a]}}) (LA _ rfl) (Ly _ g) ⟨_,[_],_,_,H1,rfl,I2.kept (t':=s1.toks) λb o e=>Ly _ e,rM .v a _ ep xs.length,?_,λb hb=>?_,q⟩
 ·show(Heap.push _ _).get? _=_
  rw [LA _ rfl];simp [oN.nm]
 ·have e:b=(s1.heap.push {cls:=.type "dict_values",data:=.fields #[.ref a]}).objs.size:=by simpa using hb
  subst e;exact I2.fpOk (LD _) (I2.hok.fresh (LD _))
def E9 (to:TE):TI:=fun σ H R=>to σ H λx H1=>∃ a ep xs,x=.ref a/\H1 a=some (.ext (DL.jZ a xs ep))/\R (KC a ep xs.length) H1
theorem Au {es:List MT} {k:Nat} {pos:Pos} (ho:PE X o to) (hbase:attributeBase o "items" X.env (eval o X.env)=eval o X.env:=by rfl) (hline:(apos.endLine == cpos.line)=true:=by rfl):PI X (.Tuple es k pos) (.Call (.Attribute o "items" apos) [] [] cpos) (E9 to):=by
 intro M6 s σ H R I h;refine wpAny_Call_method0_late hbase hline (cR (ho M6 s σ H _ I h) λv s1 z9=>?_)
 obtain⟨x,H1,I1,r1,a,ep,xs,ex,e1,q⟩:=z9;subst ex;cases (show v=Value.ref a from r1)
 obtain⟨hd,_,_,g⟩:=DL.bV I1 e1;refine⟨"dict","dict.items",F.plainAttrs_dict,F.slot_dict_items,F.type_dict_items,⟨_,g,rfl⟩,λb e=>by cases e; exact⟨_,g,rfl⟩,Calls.callWith_builtin rfl (PySem.evalArgs_none ?_)⟩
 refine call_meetsIn F.slot_dict_items ⟨_,g,rfl⟩ F.entry_dict_items (F.args_dict_items_1 _) (Lr a _ ep hd) ⟨g,?_⟩;have I2:aD X M6 σ H1 {s1 with heap:=s1.heap.push {cls:=.type "dict_items",data:=.fields #[.ref a]}}:=I1.kept (t':=s1.toks) λb o e=>Ly _ e
 have ne:(s1.heap.push {cls:=.type "dict_items",data:=.fields #[.ref a]}).objs.size≠a:=Nat.ne_of_gt (LN (LC g) (by rw [Heap.size_push]; omega))
 refine xV (s:={s1 with heap:=s1.heap.push {cls:=.type "dict_items",data:=.fields #[.ref a]}}) (LA _ rfl) (Ly _ g) ⟨_,[_],_,_,H1,rfl,I2.kept (t':=s1.toks) λb o e=>Ly _ e,wg a _ ep xs.length ne,⟨.none,.none,?_⟩,λb hb=>?_,q⟩
 ·show(Heap.push _ _).get? _=_
  rw [LA _ rfl];simp
 ·have e:b=(s1.heap.push {cls:=.type "dict_items",data:=.fields #[.ref a]}).objs.size:=by simpa using hb
  subst e;exact I2.fpOk (LD _) (I2.hok.fresh (LD _))
end
end L2
namespace DL
open PySem PySem.Spec PyProof.Rows L2
abbrev yK:=Lo->DH->(List D->(DH->Prop)->DH->Prop)->Prop
structure Dg (K:Fg) (H1:Hp) (J:It) (ds:List D) (ok:DH->Prop):Prop where
 go:∀ i d S2 H2,ds[i]?=some d->Kp H1 H2->Hs K H2 S2->ok S2->J.go i H2/\∀ x H',J.yld i H2 x H'->Kp H2 H'/\Hs K H' S2/\ce K H' d x
 stop:∀ S2 H2,Kp H1 H2->Hs K H2 S2->ok S2->J.stop ds.length H2
def J8 (K:Fg) (g:yK):TI:=fun σ H R=>∃ L S k,Lc K H L σ/\Hs K H S/\g L S k/\∀ ds ok S' H' J,k ds ok S'->Kp H H'->Lc K H' L σ->Hs K H' S'->Dg K H' J ds ok->R J H'
structure IJ (X:Cx) (tg iter:MT) (g:yK):Prop where
 h:PI X tg iter (J8 X.K g)
def D4 (gi:yK) (g:DG) (b:DS):DS:=λM L S=>gi L S λds ok S1=>iA ok g b M ds L S1
def o7 (cap:List (MS Nat)) (gi:yK) (g:DG) (bd:DB):DE:=λL S k=>gi L S λds ok S1=>∀ p,S1 p=none->aX ok p g bd k ds [] (xU cap L) (put S1 p (.lst []))
section
variable {K:Fg} {ok:DH->Prop} {gg:DG} {ge:DE} {gc:DT} {k:DK} {ds:List D} {L:Lo} {S:DH} {σ:L2.St} {H:Hp} {J:It} {p:MR} {Q:V->Hp->Prop}
theorem sK (hL:Lc K H L σ) (hS:Hs K H S) (hp:H p=none) (h:aX ok p gg (lT gc ge) k ds [] L (put S p (.lst [])))
  (n:∀ d S' v H',k d S'->Kp H H'->Hs K H' S'->ce K H' d v->Q v H') (G:Dg K H J ds ok):
  ∃ W:Nat->Nat->L2.St->Hp->Prop,(∃ m,W 0 m σ (cF H p (.lst [])))/\∀ i m σ' H',W i m σ' H'->
   (J.stop i H'/\Q (.ref p) H')\/(J.go i H'/\∃ N:L2.St->Hp->Prop,(∀ σ2 H2,N σ2 H2->∃ m',m' < m/\W (i+1) m' σ2 H2)/\∀ x H2,J.yld i H' x H2->CC K gg x σ' H2 fun σ3 H3=>t7 K gc σ3 H3 λb H3'=>if b=true then up K ge σ3 H3' λv H4=>∃ ys,H4 p=some (.lst ys)/\ys.length < sizeLine/\N σ3 (cF H4 p (.lst (ys++[v]))) else N σ3 H3'):=by
 refine⟨λi m σ1 H1=>m=ds.length - i/\i<=ds.length/\∃ acc L1 S1,Lc K H1 L1 σ1/\Hs K H1 S1/\Kp H H1/\aX ok p gg (lT gc ge) k (ds.drop i) acc L1 S1,⟨ds.length,by simp,Mw _,[],L,_,hL.kp (Kp.new hp),hS.newL hp IsDs.nil,Kp.new hp,h⟩,?_⟩
 rintro i m σ1 H1 ⟨rfl,hi,acc,L1,S1,hL1,hS1,k1,w1⟩
 by_cases hlt:i < ds.length
 ·have e:ds.drop i=ds[i]::ds.drop (i+1):=Ms hlt;rw [e] at w1;obtain⟨o1,w1⟩:=w1;obtain⟨g1,y1⟩:=G.go i ds[i] S1 H1 (by simp [hlt]) k1 hS1 o1
  refine .inr ⟨g1,fun σ' H'=>i+1<=ds.length/\∃ acc L' S',Lc K H' L' σ'/\Hs K H' S'/\Kp H H'/\aX ok p gg (lT gc ge) k (ds.drop (i+1)) acc L' S',fun σ' H' z9=>by obtain⟨q1,q2⟩:=z9; exact⟨ds.length - (i+1),by omega,rfl,q1,q2⟩,λx H' y=>?_⟩
  obtain⟨k0,hS0,ix⟩:=y1 x H' y;refine⟨ds[i],L1,S1,_,ix,hL1.kp k0,hS0,w1,λL2 S2 σ2 H2 q k2 hL2 hS2=>t7.go hL2 hS2 q λb S2' H2' h2 k2' hL2' hS2'=>?_⟩
  have kk:=((k1.trans k0).trans k2).trans k2';cases b with
  | true=>
   rw [if_pos rfl] at h2 ⊢;refine up.go hL2' hS2' h2 λd S3 v H3 h3 k3 hL3 hS3 i3=>?_
   obtain⟨z1,z2,z3⟩:=h3;obtain⟨xs,hl,j⟩:=hS3.lst z1;have k4:Kp H3 (cF H3 p (.lst (xs++[v]))):=Kp.mut hl (λz=>z)
   exact⟨xs,hl,by rw [<- j.length]; exact z2,hlt,_,L2,_,hL3.kp k4,hS3.setL hl (j.append (IsDs.cons i3 IsDs.nil)),(kk.trans k3).trans k4,z3⟩
  | false=>
   rw [if_neg LH] at h2 ⊢;exact⟨hlt,acc,L2,_,hL2',hS2',kk,h2⟩
 ·have e:i=ds.length:=by omega
  subst e;rw [List.drop_length] at w1;obtain⟨o1,w1⟩:=w1;exact .inl ⟨G.stop S1 H1 k1 hS1 o1,n _ S1 _ H1 w1 k1 hS1 (aS.mpr rfl)⟩
end
section
variable {X:Cx} {tg iter elt c:MT} {gi:yK} {gg:DG} {g:DS} {ge:DE} {gc:DT} {body:List MY} {pos:Pos} {scope:Scope} {cl:List (Str×MR)} {N:List Str} {cap:List (MS Nat)}
theorem da (hp:PassesOwn (model X.prog X.w) X.A X.env X.xe) (hc:X.calm=true) (hi:IJ X tg iter gi) (hg:GJ X tg gg) (hb:zc X body g) (hs:∀ x,foldedSetIterable iter X.env x=pure x:=by intro _; rfl):
  SJ X (.For tg iter body [] pos) (D4 gi gg g):=
 ⟨PS.imp (sD hp hc hi.h hg.h hb.h hs) λN σ H z9=>by obtain⟨L,S,M,hL,hS,h,r⟩:=z9; exact⟨L,S,_,hL,hS,h,λds ok S1 H1 J h1 k1 hL1 hS1 G=>yR hL1 hS1 h1 (r.kp k1) G.go G.stop⟩⟩
theorem Ar {K:Fg}:∀ σ H Q,up K (o7 cap gi gg (eQ ge)) σ H Q->B9 cap (J8 K gi) (CC K gg) (up K ge) σ H Q:=fun σ H Q ⟨L,S,k,hL,hS,h,n⟩=>
 ⟨L,S,_,hL,hS,h,λds ok S1 H1 J h1 k1 hL1 hS1 G D hD=>pc (hL1.cap cap) hS1 hD (h1 D (hS1.free hD)) (λd S' v H' q k3=>n d S' v H' q (k1.trans k3)) G.go G.stop⟩
theorem oU {K:Fg}:∀ σ H Q,up K (o7 cap gi gg (lT gc ge)) σ H Q->tG cap (J8 K gi) (CC K gg) (t7 K gc) (up K ge) σ H Q:=fun σ H Q ⟨L,S,k,hL,hS,h,n⟩=>
 ⟨L,S,_,hL,hS,h,λds ok S1 H1 J h1 k1 hL1 hS1 G D hD=>sK (hL1.cap cap) hS1 hD (h1 D (hS1.free hD)) (λd S' v H' q k3=>n d S' v H' q (k1.trans k3)) G⟩
theorem i7 (hc:X.calm=true) (Sc:cZ X scope cl N cap) (hi:IJ X tg iter gi) (hg:∀ s0 H0 ex C,GJ (fI X scope cl N s0 H0 ex C) tg gg) (he:∀ s0 H0 ex C,EJ (fI X scope cl N s0 H0 ex C) elt ge)
  (hs:∀ x,foldedSetIterable iter X.env x=pure x:=by intro _; rfl):EJ X (.ListComp elt [⟨tg,iter,[],0⟩] scope pos) (o7 cap gi gg (eQ ge)):=
 ⟨PE.imp (tQ hc Sc hi.h (λs0 H0 ex C=>(hg s0 H0 ex C).h) (λs0 H0 ex C=>(he s0 H0 ex C).h) hs) Ar⟩
theorem qd (hc:X.calm=true) (Sc:cZ X scope cl N cap) (hi:IJ X tg iter gi) (hg:∀ s0 H0 ex C,GJ (fI X scope cl N s0 H0 ex C) tg gg) (hcnd:∀ s0 H0 ex C,TJ (fI X scope cl N s0 H0 ex C) c gc) (he:∀ s0 H0 ex C,EJ (fI X scope cl N s0 H0 ex C) elt ge)
  (hs:∀ x,foldedSetIterable iter X.env x=pure x:=by intro _; rfl):EJ X (.ListComp elt [⟨tg,iter,[c],0⟩] scope pos) (o7 cap gi gg (lT gc ge)):=
 ⟨PE.imp (rX hc Sc hi.h (λs0 H0 ex C=>(hg s0 H0 ex C).h) (λs0 H0 ex C=>(hcnd s0 H0 ex C).h) (λs0 H0 ex C=>(he s0 H0 ex C).h) hs) oU⟩
theorem qI {xv:Str} {iv:Nat} {pv sv:Pos} (hNv:X.N.Nodup) (hc:X.calm=true) (Sc:cZ X scope cl N cap) (hi:IJ X tg iter gi) (hg:∀ s0 H0 ex C,GJ (fI X scope cl N s0 H0 ex C) tg gg) (hcnd:∀ s0 H0 ex C,TJ (fI X scope cl N s0 H0 ex C) c gc) (he:∀ s0 H0 ex C,EJ (fI X scope cl N s0 H0 ex C) elt ge)
  (hs:∀ x,foldedSetIterable iter X.env x=pure x:=by intro _; rfl) (hiv:X.N[iv]?=some xv:=by rfl) (hxv:X.env.scope.names.lookup xv=some .local:=by rfl) (hswv:swapsWith (.ListComp elt [⟨tg,iter,[c],0⟩] scope pos) (some (.Name xv pv)) sv.line X.env=pure true:=by rfl):
  SJ X (.Assign [.Name xv pv] (.ListComp elt [⟨tg,iter,[c],0⟩] scope pos) sv) (uB iv (o7 cap gi gg (lT gc ge))):=
 ⟨PS.imp (wM hNv hiv hxv hswv hc Sc hi.h (λs0 H0 ex C=>(hg s0 H0 ex C).h) (λs0 H0 ex C=>(hcnd s0 H0 ex C).h) (λs0 H0 ex C=>(he s0 H0 ex C).h) hs) (Dl oU)⟩
end
def sB (c:oN) (kvs:List (List Int×D)):List D:=kvs.map λp=>match c with
 | .k=>cz p.1
 | .v=>p.2
def cn (kvs:List (List Int×D)):List D:=kvs.map λp=>.tup [cz p.1,p.2]
def Dp (gi:DE) (f:List (List Int×D)->List D):yK:=λL S k=>gi L S λd S1=>match d with
 | .ref a=>∃ kvs ep,S1 a=some (.gen (.dT kvs ep))/\k (f kvs) (λS=>S a=some (.gen (.dT kvs ep))) S1
 | _=>False
theorem rE (c:oN) {K:Fg} {H1:Hp} {a:MR} {kvs:List (List Int×D)} {ep:Nat}:Dg K H1 (JJ c a ep kvs.length) (sB c kvs) (λS=>S a=some (.gen (.dT kvs ep))) where
 go:=λi d S2 H2 e k2 hS2 ok=>by
  obtain⟨xs,e1,r1⟩:=hS2.dT ok;unfold sB at e;rw [L8] at e;obtain⟨p,hp,rfl⟩:=Mq.mp e;obtain⟨q,hq,h1,h2,v,h3,h4⟩:=r1.at_ hp;cases c with
  | k=>
   refine⟨⟨xs,q,.ref q.2.1,e1,hq,r1.length.symm,rfl⟩,?_⟩;rintro x H' ⟨rfl,al⟩;obtain⟨q',hq',rv⟩:=al xs e1;rw [hq] at hq';cases hq';rw [aP.inj (show aP x (Value.ref q.2.1) from rv) (show aP (.ref q.2.1) (Value.ref q.2.1) from rfl)]
   exact⟨Kp.refl _,hS2,nX.mpr ⟨_,rfl,h2⟩⟩
  | v=>
   refine⟨⟨xs,q,v,e1,hq,r1.length.symm,h3⟩,?_⟩;rintro x H' ⟨rfl,al⟩;obtain⟨q',hq',rv⟩:=al xs e1;rw [hq] at hq';cases hq';rw [aP.inj (show aP x q.2.2 from rv) h3]
   exact⟨Kp.refl _,hS2,h4⟩
 stop:=λS2 H2 k2 hS2 ok=>by
  obtain⟨xs,e1,r1⟩:=hS2.dT ok;exact⟨xs,e1,r1.length.symm,by unfold sB; rw [LG]; exact LD _⟩
theorem v5 {K:Fg} {H1:Hp} {a:MR} {kvs:List (List Int×D)} {ep:Nat}:Dg K H1 (KC a ep kvs.length) (cn kvs) (λS=>S a=some (.gen (.dT kvs ep))) where
 go:=λi d S2 H2 e k2 hS2 ok=>by
  obtain⟨xs,e1,r1⟩:=hS2.dT ok;unfold cn at e;rw [L8] at e;obtain⟨p,hp,rfl⟩:=Mq.mp e;obtain⟨q,hq,h1,h2,v,h3,h4⟩:=r1.at_ hp;refine⟨⟨xs,q,v,e1,hq,r1.length.symm,h3⟩,?_⟩;rintro x H' ⟨T,b,v',rfl,hT,rfl,al⟩;obtain⟨q',hq',rfl,rv⟩:=al xs e1;rw [hq] at hq';cases hq';rw [aP.inj rv h3];have kn:Kp H2 (cF H2 T (.tup [.ref q.2.1,v])):=Kp.new hT;exact⟨kn,hS2.new hT,bY.mpr ⟨T,_,rfl,ja.of bJ,IsDs.cons (nX.mpr ⟨_,rfl,kn.tup h2⟩) (IsDs.cons (h4.kp kn) IsDs.nil)⟩⟩
 stop:=λS2 H2 k2 hS2 ok=>by
  obtain⟨xs,e1,r1⟩:=hS2.dT ok;exact⟨xs,e1,r1.length.symm,by unfold cn; rw [LG]; exact LD _⟩
section
variable {X:Cx} {tg o:MT} {go:DE} {apos cpos:Pos}
theorem fJ (ho:EJ X o go):IJ X tg o (Dp go (sB .k)):=⟨PI.imp (C7 ho.h) fun σ H R ⟨L,S,k,hL,hS,h,n⟩=>up.go hL hS h λd S1 v H1 h1 k1 hL1 hS1 i1=>by
  cases d with
  | ref a=>
   obtain⟨kvs,ep,g1,h1⟩:=h1;obtain⟨xs,e1,r1⟩:=hS1.dT g1;have ex:=aS.mp i1;subst ex;exact⟨a,ep,xs,rfl,e1,n _ _ _ _ _ h1 k1 hL1 hS1 (r1.length▸rE .k)⟩
  | _=>exact(show False from h1).elim⟩
theorem xl (ho:EJ X o go) (hbase:attributeBase o "values" X.env (eval o X.env)=eval o X.env:=by rfl) (hline:(apos.endLine == cpos.line)=true:=by rfl):IJ X tg (.Call (.Attribute o "values" apos) [] [] cpos) (Dp go (sB .v)):=⟨PI.imp (D0 ho.h hbase hline) fun σ H R ⟨L,S,k,hL,hS,h,n⟩=>up.go hL hS h λd S1 v H1 h1 k1 hL1 hS1 i1=>by
  cases d with
  | ref a=>
   obtain⟨kvs,ep,g1,h1⟩:=h1;obtain⟨xs,e1,r1⟩:=hS1.dT g1;have ex:=aS.mp i1;subst ex;exact⟨a,ep,xs,rfl,e1,n _ _ _ _ _ h1 k1 hL1 hS1 (r1.length▸rE .v)⟩
  | _=>exact(show False from h1).elim⟩
theorem gU {es:List MT} {k:Nat} {pos:Pos} (ho:EJ X o go) (hbase:attributeBase o "items" X.env (eval o X.env)=eval o X.env:=by rfl) (hline:(apos.endLine == cpos.line)=true:=by rfl):IJ X (.Tuple es k pos) (.Call (.Attribute o "items" apos) [] [] cpos) (Dp go cn):=⟨PI.imp (Au ho.h hbase hline) fun σ H R ⟨L,S,k,hL,hS,h,n⟩=>up.go hL hS h λd S1 v H1 h1 k1 hL1 hS1 i1=>by
  cases d with
  | ref a=>
   obtain⟨kvs,ep,g1,h1⟩:=h1;obtain⟨xs,e1,r1⟩:=hS1.dT g1;have ex:=aS.mp i1;subst ex;exact⟨a,ep,xs,rfl,e1,n _ _ _ _ _ h1 k1 hL1 hS1 (r1.length▸v5)⟩
  | _=>exact(show False from h1).elim⟩
end
section
variable {X:Cx} {o e f:MT} {go ge gf:DE} {to te tf:TE} {apos cpos:Pos}
def FL (K:Fg) (to te tf:TE):TE:=fun σ H Q=>to σ H λx H1=>∃ a xs ep,x=.ref a/\H1 a=some (.ext (jZ a xs ep))/\te σ H1 λy H2=>tf σ H2 λz H3=>∃ b kvs xs ep ks v,y=.ref b/\H3 a=some (.ext (jZ a xs ep))/\kL K H3 kvs xs/\ja K H3 b (ks.map V.int)/\(∀ r,aP z r->aP v (((atKey xs ks).map (·.2)).getD r))/\Q v H3
theorem zo {n:Nat} (hr:cI n X.A) (ho:PE X o to) (he:PE X e te) (hf:PE X f tf) (m:M2 X o "get" apos e f cpos):PE X (.Call (.Attribute o "get" apos) [e,f] [] cpos) (FL X.K to te tf):=by
 intro M6 s σ H Q I h;refine wpAny_Call_method m.base m.few m.line PySem.F.plainAttrs_dict PySem.F.slot_dict_get PySem.F.type_dict_get (cR (ho M6 s σ H _ I h) λu s1 z9=>?_)
 obtain⟨x,H1,I1,rx,a,xs,ep,ex,e1,q1⟩:=z9;subst ex;obtain rfl:u=Value.ref a:=rx;have g:=(bV I1 e1).2.2.2;refine⟨⟨_,g,rfl⟩,λb eb=>by cases eb; exact⟨_,g,rfl⟩,?_⟩
 rw [m.trees];refine Calls.callWith_builtin rfl (Calls.evalArgs_plain (Calls.spliced_cons (cR (he M6 s1 σ H1 _ I1 q1) λiv s2 z9=>?_)))
 obtain⟨y,H2,I2,ry,q2⟩:=z9;refine Calls.spliced_cons (cR (hf M6 s2 σ H2 _ I2 q2) λr s3 z9=>?_)
 obtain⟨z,H3,I3,rz,b,kvs,xs,ep,ks,v,ey,e3,r3,t3,g3,q3⟩:=z9;refine Calls.spliced_nil ?_;subst ey;cases (show iv=Value.ref b from ry)
 have dd:=pV I3 e3 r3;exact call_meetsIn PySem.F.slot_dict_get dd.typeIs PySem.F.entry_dict_get (PySem.F.args_dict_get_3 _ _ _) (meetsH_dict_get_default (tupleKind (intKind X.prog X.w)) a b (bV I3 e3).1 r) ⟨tupleKind_room_in1 (un1 hr),ks,xs,kR I3 t3,dd,v,H3,I3.tok _,g3 r rz,q3⟩
def IA (go ge gf:DE):DE:=λL S k=>go L S λd S1=>match d with
 | .ref a=>(∃ kvs ep,S1 a=some (.gen (.dT kvs ep)))/\ge L S1 λy S2=>gf L S2 λz S3=>∃ kvs ep ks,S3 a=some (.gen (.dT kvs ep))/\y=cz ks/\k ((de kvs ks).getD z) S3
 | _=>False
theorem oQ {n:Nat} (hr:cI n X.A) (ho:EJ X o go) (he:EJ X e ge) (hf:EJ X f gf) (m:M2 X o "get" apos e f cpos:=by exact⟨rfl,rfl,rfl,rfl⟩):EJ X (.Call (.Attribute o "get" apos) [e,f] [] cpos) (IA go ge gf):=
 ⟨PE.imp (zo hr ho.h he.h hf.h m) fun σ H Q ⟨L,S,k,hL,hS,h,n⟩=>up.go hL hS h λd S1 x H1 h1 k1 hL1 hS1 i1=>by
  cases d with
  | ref a=>
   obtain⟨⟨kvs,ep,g1⟩,h1⟩:=h1;obtain⟨xs,e1,_⟩:=hS1.dT g1;have ex:=aS.mp i1;subst ex;refine⟨a,xs,ep,rfl,e1,up.go hL1 hS1 h1 λy S2 vy H2 h2 k2 hL2 hS2 i2=>up.go hL2 hS2 h2 λz S3 vz H3 h3 k3 hL3 hS3 i3=>?_⟩
   obtain⟨kvs,ep,ks,g3,rfl,h3⟩:=h3;obtain⟨xs,e3,r3⟩:=hS3.dT g3;obtain⟨b,rfl,t3⟩:=nX.mp (i2.kp k3);have kk:=(k1.trans k2).trans k3;rcases r3.get ks with ⟨z1,z2⟩ | ⟨d,b',w,v,z1,z2,z3,z4⟩
   ·rw [z1] at h3;exact⟨b,kvs,xs,ep,ks,vz,rfl,e3,r3,t3,λr q=>by rw [z2]; exact q,n _ _ _ _ h3 kk hS3 i3⟩
   ·rw [z1] at h3;exact⟨b,kvs,xs,ep,ks,v,rfl,e3,r3,t3,λr q=>by rw [z2]; exact z3,n _ _ _ _ h3 kk hS3 z4⟩
  | _=>exact(show False from h1).elim⟩
def EW:cH:=λds S k=>match ds with
 | [.ref a]=>∃ kvs ep,S a=some (.gen (.dT kvs ep))/\k (.int kvs.length) S
 | _=>False
theorem Ft:bW X (.builtin "len") (pB X.K EW):=by
 intro M6 s σ H xs us Q I rs h;obtain⟨ds,S,k,i,hS,r,n⟩:=h;unfold EW at r
 split at r
 ·rename_i a
  obtain⟨kvs,ep,g1,r⟩:=r;obtain⟨v,rfl,j⟩:=dM i;have ex:=aS.mp j;subst ex;obtain⟨ys,e1,r1⟩:=hS.dT g1;obtain⟨u,rfl,ru⟩:=gQ rs;cases (show u=Value.ref a from ru)
  obtain⟨hd,z,_,g⟩:=bV I e1;have T:s.TypeIs (.ref a) "dict":=⟨_,g,rfl⟩
  have sz:(ys.map eT).toArray.size=kvs.length:=by simp [r1.length]
  have hl:(kvs.length:Int) < 2 ^ 63:=by rw [r1.length]; rw [sizeLine_eq] at z; omega
  refine PyProof.Rows.call_len_slot (n:=kvs.length) T F.slot_dict_len (λQ' q=>call_meetsIn F.slot_dict_len T F.entry_dict_len (F.args_dict_len_1 _) (La a _ ep hd) ⟨g,?_⟩) (by omega) (by omega) ⟨.int kvs.length,H,I.tok _,⟨_,rfl⟩,n _ _ _ _ r (Kp.refl H) hS (isInt.mpr rfl)⟩
  rw [sz];exact q
 ·exact r.elim
def Ev:cH:=λds S k=>match ds with
 | [.ref a,.ty c]=>∃ kvs ep,S a=some (.gen (.dT kvs ep))/\k (.bl (Go .dic c)) S
 | _=>False
theorem Fk:bW X (.builtin "isinstance") (pB X.K Ev):=by
 intro M6 s σ H xs us Q I rs h;obtain⟨ds,S,k,i,hS,r,n⟩:=h;unfold Ev at r
 split at r
 ·rename_i a c
  obtain⟨kvs,ep,g1,r⟩:=r;obtain⟨x,y,rfl,i1,i2⟩:=rN i;have e2:=G6.mp i2;have e1:=aS.mp i1;subst e2 e1;obtain⟨u,w',rfl,r1,r2⟩:=uO rs;cases (show w'=Value.type c.name from r2)
  cases (show u=Value.ref a from r1)
  obtain⟨ys,e1,_⟩:=hS.dT g1;exact PySem.W.kia_one PySem.W.kitx_dict I.kIn ⟨_,(bV I e1).2.2.2,rfl⟩ (GH .dic c) (λz=>nomatch z) λtk=>⟨.bl (Go .dic c),H,I.tok tk,rfl,n _ _ _ _ r (Kp.refl H) hS (cg.mpr rfl)⟩
 ·exact r.elim
end
abbrev CP:=Lo->DH->(List (D×D)->DH->Prop)->Prop
def Az:CP:=λ_ S k=>k [] S
def qh (gk gv:DE) (t:CP):CP:=λL S k=>gk L S λx S1=>gv L S1 λy S2=>t L S2 λps S3=>k ((x,y)::ps) S3
abbrev Fq (K:Fg) (H:Hp):List (D×D)->List (V×V)->Prop:=Paired λd p=>ce K H d.1 p.1/\ce K H d.2 p.2
def Kd (K:Fg) (t:CP):L2.St->Hp->(List (V×V)->Hp->Prop)->Prop:=fun σ H Q=>∃ L S k,Lc K H L σ/\Hs K H S/\t L S k/\∀ ds S' ps H',k ds S'->Kp H H'->Hs K H' S'->Fq K H' ds ps->Q ps H'
structure PJ (X:Cx) (pos:Pos) (keys:List (MS MT)) (values:List MT) (t:CP):Prop where
 h:∀ (M6:List (MR×M5)) (s:MP) (σ:L2.St) (H:Hp) (Q:List (V×V)->Hp->Prop),aD X M6 σ H s->Kd X.K t σ H Q->
  wpAny (model X.prog X.w) X.A (evalPairs (pairTrees keys values X.env pos)) (λvs s'=>∃ ps H',aD X M6 σ H' s'/\VV ps vs/\Q ps H') X.xe s
section
variable {X:Cx} {pos:Pos}
theorem iM:PJ X pos [] [] Az:=⟨λM6 s σ H Q I z9=>by obtain⟨L,S,k,hL,hS,h,n⟩:=z9; exact pairTrees_nil_walk ⟨[],H,I,.nil,n [] S [] H h (Kp.refl H) hS .nil⟩⟩
theorem br {a b:MT} {ks:List (MS MT)} {vs:List MT} {ga gb:DE} {t:CP} (ha:EJ X a ga) (hb:EJ X b gb) (hr:PJ X pos ks vs t):PJ X pos (some a::ks) (b::vs) (qh ga gb t):=
 ⟨λM6 s σ H Q I ⟨L,S,k,hL,hS,h,n⟩=>by
  refine pairTrees_cons_walk (cR (ha.h M6 s σ H (λx H1=>up X.K gb σ H1 λy H2=>Kd X.K t σ H2 λps H3=>Q ((x,y)::ps) H3) I ?_) λu s1 ⟨x,H1,I1,rx,q1⟩=>cR (hb.h M6 s1 σ H1 _ I1 q1) λw2 s2 ⟨y,H2,I2,ry,q2⟩=>
   cR (hr.h M6 s2 σ H2 _ I2 q2) λws s3 ⟨ps,H3,I3,rel,q3⟩=>⟨(x,y)::ps,H3,I3,.cons ⟨rx,ry⟩ rel,q3⟩)
  exact up.go hL hS h λd S1 v H1 h1 k1 hL1 hS1 i1=>up.go hL1 hS1 h1 λe S2 u H2 h2 k2 hL2 hS2 i2=>⟨L,S2,_,hL2,hS2,h2,λds S3 ps H3 h3 k3 hS3 i3=>n _ S3 _ H3 h3 ((k1.trans k2).trans k3) hS3 (.cons ⟨i1.kp (k2.trans k3),i2.kp k3⟩ i3)⟩⟩
end
section
variable {prog:MU} {w:MW} {A:MV} {E:MQ->MP->Prop} {d:MR}
theorem rF (hu:A.units < cLine):∀ (vs:List (MQ×MQ)) (ks acc:List (List Int×MR×MQ)) (s:MP) (Q:PUnit->MP->Prop),Paired (λv k=>v.1=.ref k.2.1/\v.2=k.2.2) vs ks->
  (∀ k∈ks,(tupleKind (intKind prog w)).is s.heap k.1 k.2.1)->s.heap.DictOfH (tupleKind (intKind prog w)) d acc->acc.length+ks.length<=sizeLine->
  (∀ h' tk,h'.DictOfH (tupleKind (intKind prog w)) d (ks.foldl (λacc k=>storedH acc k.1 k.2.1 k.2.2) acc)->Heap.SameBut d s.heap h'->Q PUnit.unit {s with heap:=h',toks:=tk})->
  wpAny (model prog w) A (forIn vs PUnit.unit fun(x:MQ×MQ) (_:PUnit)=>(do dictSet d x.1 x.2; pure (ForInStep.yield PUnit.unit):Sem (ForInStep PUnit))) Q E s
 | _,_,acc,s,Q,.nil,_,hm,_,hQ=>by
  rw [List.forIn_nil];exact Lz (hQ s.heap s.toks hm (Heap.SameBut.refl _ _))
 | (_,_)::vs,k::ks,acc,s,Q,.cons h t,hk,hm,hz,hQ=>by
  obtain⟨h1,h2⟩:=h;simp only at h1 h2
  subst h1 h2;rw [LQ] at hz;rw [List.forIn_cons];have hl:=iz acc k.1 k.2.1 k.2.2;refine gt (gt (wpAny_dictSet_heap (hsz:=by omega) (show (tupleKind (intKind prog w)).room A from hu) (hk k (by simp)) hm λh1 m1 s1=>Lz (rF hu vs ks (storedH acc k.1 k.2.1 k.2.2) _ Q t (λq hq=>?_) m1 (by omega) λh' tk m' s'=>hQ h' tk m' (s1.trans s'))))
  obtain⟨o,es,ep,g,_,dt,_⟩:=hm;exact(tupleKind (intKind prog w)).keeps (hk q (by simp [hq])) g dt s1
end
def aZ (acc kvs:List (List Int×D)):List (List Int×D):=kvs.foldl (λacc kv=>fk acc kv.1 kv.2) acc
theorem kL.merge {K:Fg} {H:Hp}:∀ {kvs:List (List Int×D)} {xs:List (List Int×MR×MQ)} {acc:List (List Int×D)} {ys:List (List Int×MR×MQ)},kL K H kvs xs->kL K H acc ys->kL K H (aZ acc kvs) (xs.foldl (λacc k=>storedH acc k.1 k.2.1 k.2.2) ys)
 | _,_,_,_,.nil,r=>r
 | (k,d)::_,x::_,_,_,.cons h t,r=>by
  obtain⟨h1,h2,v,h3,h4⟩:=h;simp only at h1;subst h1
  rename_i t1 t2 a b
  exact kL.merge (kvs:=t1) (xs:=t2) (acc:=fk a x.1 d) (ys:=storedH b x.1 x.2.1 x.2.2) t (r.put h2 h3 h4)
theorem nh:∀ (ks acc:List (List Int×MR×MQ)),(ks.foldl (λacc k=>storedH acc k.1 k.2.1 k.2.2) acc).length<=acc.length+ks.length
 | [],acc=>LD _
 | k::ks,acc=>by
  have h1:=nh ks (storedH acc k.1 k.2.1 k.2.2);have h2:=iz acc k.1 k.2.1 k.2.2;rw [List.foldl_cons,LQ];omega
theorem zH {K:Fg} {H:Hp}:∀ {kvs:List (List Int×D)} {ps:List (V×V)} {vs:List (MQ×MQ)},Fq K H (kvs.map λkv=>(cz kv.1,kv.2)) ps->VV ps vs->∃ xs,kL K H kvs xs/\Paired (λv (k:List Int×MR×MQ)=>v.1=.ref k.2.1/\v.2=k.2.2) vs xs
 | [],_,_,r,q=>by rw [List.map_nil] at r; cases r; cases q; exact⟨[],.nil,.nil⟩
 | kv::kvs,_,_,r,q=>by
  rw [LP] at r;cases r with
  | @cons _ p _ _ h t=>
   cases q with
   | @cons _ b _ _ h' t'=>
    obtain⟨xs,a1,a2⟩:=zH t t';obtain⟨c,e,t1⟩:=nX.mp h.1;have h1:=h'.1;rw [e] at h1;exact⟨(kv.1,c,b.2)::xs,.cons ⟨rfl,t1,p.2,h'.2,h.2⟩ a1,.cons ⟨h1,rfl⟩ a2⟩
def FZ (K:Fg) (t:L2.St->Hp->(List (V×V)->Hp->Prop)->Prop):TE:=fun σ H Q=>∀ p,H p=none->t σ (cF H p (.ext (jZ p [] 0))) λps H2=>∃ ep,H2 p=some (.ext (jZ p [] ep))/\∃ kvs:List (List Int×D),Fq K H2 (kvs.map λkv=>(cz kv.1,kv.2)) ps/\kvs.length<=15/\
 ∀ xs ep',kL K H2 kvs xs->Q (.ref p) (cF H2 p (.ext (jZ p (xs.foldl (λacc k=>storedH acc k.1 k.2.1 k.2.2) []) ep')))
theorem Ay {X:Cx} {pos:Pos} {keys:List (MS MT)} {values:List MT} {t:CP} {n:Nat} (hr:cI n X.A) (h:PJ X pos keys values t) (hall:keys.all (·.isSome)=true:=by rfl) (hl:keys.length=values.length:=by rfl) (h0:keys≠[]:=by simp)
  (h15:keys.length<=15:=by decide):PE X (.Dict keys values pos) (FZ X.K (Kd X.K t)):=by
 intro M6 s σ H Q I q;have hn:=I.hok.fresh (LD s.heap.objs.size);have hlen:=pairTrees_length keys values X.env pos hall hl;have I1:=I.laid (a:=s.heap.objs.size) (o:=.ext (jZ s.heap.objs.size [] 0)) (h':=s.heap.push {cls:=.type "dict",data:=.dict #[]}) (t':=s.toks) (λ_ _ q=>Ly _ q) (LD _) (nR (rA s.heap I.big))
 rw [arm_eval_Dict,zip_pairTrees keys values X.env pos hall hl,dictDisplay_pairs _ (λe=>h0 (by rw [e] at hlen; exact MN.mp hlen.symm)) (by omega)]
 refine gt (wpAny_standAt (gt ?_));unfold subDict;refine gt (wpAny_alloc (gt (L5 ?_)));rw [if_pos (by omega)]
 refine gt (cR (h.h M6 _ σ _ _ I1 (q _ hn)) λws s2 z9=>?_)
 obtain⟨ps,H2,I2,rel,ep,e2,kvs,r2,lk,q2⟩:=z9;refine L5 (gt ?_);obtain⟨xs,rx,rw'⟩:=zH r2 rel;have hd:=(bV I2 e2).1;have hz:xs.length<=15:=by rw [<- rx.length]; exact lk
 refine rF (Nat.lt_of_succ_lt (un1 hr)) ws xs [] s2 _ rw' (λx hx=>?_) (pV I2 e2 (kvs:=[]) .nil) (by rw [sizeLine_eq,List.length_nil]; omega) λh' tk dd' hs=>?_
 ·clear rw' hz q2;clear r2 lk
  induction rx with
  | nil=>exact nomatch hx
  | @cons p q ps qs h t ih=>
   rcases LJ.mp hx with e | hx
   ·subst e;rw [<- h.1];exact kR I2 h.2.1
   ·exact ih hx
 ·have z':(xs.foldl (λacc k=>storedH acc k.1 k.2.1 k.2.2) []).length<=sizeLine:=by have:=nh xs []; rw [List.length_nil] at this; rw [sizeLine_eq]; omega
  obtain⟨ep',m⟩:=wH hd z' dd';exact Lz (Lz (Lz ⟨.ref s.heap.objs.size,_,xj (t':=tk) I2 (by rw [e2]; exact True.intro) hs ⟨_,m.2.2.2⟩ (nR m),rfl,q2 xs ep' rx⟩))
def Ab (t:CP):DE:=λL S k=>∀ p,S p=none->∀ ep,t L (put S p (.gen (.dT [] ep))) λds S2=>∃ ep' kvs,S2 p=some (.gen (.dT [] ep'))/\ds=kvs.map (λ(kv:List Int×D)=>(cz kv.1,kv.2))/\kvs.length<=15/\∀ ep2,k (.ref p) (put S2 p (.gen (.dT (aZ [] kvs) ep2)))
theorem fF {X:Cx} {pos:Pos} {keys:List (MS MT)} {values:List MT} {t:CP} {n:Nat} (hr:cI n X.A) (h:PJ X pos keys values t) (hall:keys.all (·.isSome)=true:=by rfl) (hl:keys.length=values.length:=by rfl) (h0:keys≠[]:=by simp)
  (h15:keys.length<=15:=by decide):EJ X (.Dict keys values pos) (Ab t):=
 ⟨PE.imp (Ay hr h hall hl h0 h15) fun σ H Q ⟨L,S,k,hL,hS,h,n⟩ p hp=>by
  refine⟨L,_,_,hL.kp (Kp.new hp),hS.newG (g:=.dT [] 0) hp ⟨[],bJ,.nil⟩,h p (hS.free hp) 0,λds S2 ps H2 h2 k2 hS2 i2=>?_⟩
  obtain⟨ep',kvs,g2,rfl,lk,h2⟩:=h2;obtain⟨ys,e2,r2⟩:=hS2.dT g2;cases r2;refine⟨ep',e2,kvs,i2,lk,λxs ep2 rx=>?_⟩
  have k3:Kp H2 (cF H2 p (.ext (jZ p (xs.foldl (λacc k=>storedH acc k.1 k.2.1 k.2.2) []) ep2))):=Kp.mut e2 (λz=>z)
  exact n _ _ _ _ (h2 ep2) (((Kp.new hp).trans k2).trans k3) (hS2.setG e2 (λz=>z) ⟨_,bJ,(rx.merge .nil).kp k3⟩) (aS.mpr rfl)⟩
end DL
namespace PySem
open Sem (wp)
open Builtin DL
section
variable {prog:MU} {w:MW} {A:MV} {E:MQ->MP->Prop}
theorem sN:typeLookup (.type "list") "keys"=pure none:=by rw [typeLookup_type,builtinLookup_eq_fast]; kernel_rfl
theorem yu {a:MR} {xs:MZ MQ} {k:Nat} {u:Tok} {s:MP} {R:Result->MP->Prop} (hx:s.heap.get? a=some {cls:=.type "list",dict:=none,data:=.seq xs k,slots:=#[]}) (hA:A.handled=none)
  (h:∀ h' tk e,Heap.NewAttrErr s.heap h' e (.ref a) "keys"->R (.error (.ref e)) {s with heap:=h',toks:=tk}):codeAny (model prog w) A (.call (.builtin "list.__getattribute__") ⟨[.ref a,.str "keys" u],[]⟩) R s:=
 have T:s.TypeIs (.ref a) "list":=⟨_,hx,rfl⟩
 codeAny_call_builtin F.slot_list_getattribute.plain am_entry_list_getattribute (F.slot_list_getattribute.check _ _ _ _ _ _ _ _ T (F.args_list_getattribute_2 _ _) (meets_getattribute_miss_list a xs k #[] "keys" _ sN (by decide) (by rw [sizeLine_eq]; decide) prog w A _ _ ⟨hx,hA,h⟩))
theorem yC {a:MR} {xs:MZ MQ} {k:Nat} {s:MP} {Q:MS MQ->MP->Prop} (hx:s.heap.get? a=some {cls:=.type "list",dict:=none,data:=.seq xs k,slots:=#[]}) (hA:A.handled=none)
  (h:∀ h' tk,(∀ b o,s.heap.get? b=some o->h'.get? b=some o)->Q none {s with heap:=h',toks:=tk}):wpAny (model prog w) A (getAttr? (.ref a) "keys") Q E s:=by
 obtain⟨hp,g,d,tk,os⟩:=s;have hT:∀ tk',(⟨hp,g,d,tk',os⟩:MP).TypeIs (.ref a) "list":=λ_=>⟨_,hx,rfl⟩
 have c1:=sub_AttributeError;have c2:=F.slot_list_getattribute.lookup;have c3:=F.slot_list_getattribute.bind (.ref a);have c4:=am_list_getattr_none;unfold getAttr? getAttrBy? getAttrBy
 repeat (any_goals (first | assumption | exact hT _ | wp_step))
 refine yu (s:=⟨hp,g,d,tk+1,os⟩) hx hA λh' tk' e ne=>?_
 obtain⟨t',u',he⟩:=ne.there;have z:=h h' tk' ne.keeps
 show wpAny _ _ (getattributeRaised _ _ _ _ _ _ _) _ _ _
 unfold getattributeRaised
 repeat (any_goals (first | assumption | wp_step))
theorem wV:entryFor table "dict.update.loop"=some Builtin.«dict.update.loop»:=entryFor_of_tree (by kernel_rfl)
theorem oE:plainId "dict.update.loop"=true:=by decide +kernel
theorem yH {d it l T:MR} {its:MZ MQ} {i n:Nat} {key val:MQ} {s:MP} {R:Result->MP->Prop} {dd:MS MR} {sl:MZ (MS MQ)} (hx:its[i]?=some (.ref T)) (st:s.heap.IsListIter it l i) (hl:s.heap.IsList l its)
  (hT:s.heap.get? T=some {cls:=.type "tuple",dict:=dd,data:=.seq #[key,val] n,slots:=sl}) (ne:T≠it)
  (h:∀ h',h'.IsListIter it l (i+1)->Heap.SameBut it s.heap h'->wpAny (model prog w) A.in1 (dictSet d key val) (λ_ s'=>codeAny (model prog w) A (.builtin "dict.update.loop" ⟨[.ref d,.ref it,rawInt ((i:Int)+1),.none],[]⟩) R s') (λe s'=>R (.error e) s') {s with heap:=h'}):
  codeAny (model prog w) A (.builtin "dict.update.loop" ⟨[.ref d,.ref it,rawInt i,.none],[]⟩) R s:=by
 refine Mc wV ?_;rw [LZ oE _];refine gt (m:=pyNext (.ref it)) (wpAny_pyNext_list_item st hl hx λh' st' sb=>?_)
 obtain⟨hp,g,dr,tk,os⟩:=s;have hT':Heap.get? h' T=some {cls:=.type "tuple",dict:=dd,data:=.seq #[key,val] n,slots:=sl}:=(sb.2 T ne).trans hT
 have z:=h h' st' sb;refine gt (L5 (gt (MD ?_)))
 repeat (any_goals (first | assumption | (with_reducible show wpAny _ _ (dictSet _ _ _) _ _ _; refine Mg z (λ_ s' q=>Lz ⟨plainId_quiet oE _,q⟩) λ_ _ q=>q) | wp_step))
abbrev y9 (prog:MU) (w:MW):HeapKind prog w (List Int):=tupleKind (intKind prog w)
theorem uh {h h':MX} {d it:MR} {c:M3} {acc:List (List Int×MR×MQ)} (m:h.DictOfH (y9 prog w) d acc) (ci:∃ o,h.get? it=some o/\o.cls=.type c) (nt:(Value.type "tuple" == Value.type c)=false) (hd:d≠it)
  (k:∀ b o,b≠it->h.get? b=some o->h'.get? b=some o):h'.DictOfH (y9 prog w) d acc:=by
 obtain⟨o,es,ep,g,e1,e2,e3,e4,nd⟩:=m;refine⟨o,es,ep,k _ _ hd g,e1,e2,e3,λx hx=>?_,nd⟩
 obtain⟨q,its,n,g1,g2,g3⟩:=e4 x hx;refine⟨q,its,n,k _ _ (λz=>?_) g1,g2,g3⟩
 obtain⟨q',y1,y2⟩:=ci;rw [z,y1] at g1;cases g1;rw [y2] at g2;rw [g2] at nt;simp at nt
theorem AB {d it l:MR} {R:Result->MP->Prop} (hu:A.units+1 < cLine) (hh:A.handled=none) (ts:List (MR×List Int×MR×MQ)) (hd:d≠it) (hl:l≠it) (hld:l≠d):
  ∀ (k i:Nat) (s:MP) (acc:List (List Int×MR×MQ)),ts.length - i=k->i<=ts.length->s.heap.IsListIter it l i->s.heap.IsList l (ts.map λt=>Value.ref t.1).toArray->
  (∀ t∈ts,(∃ dd n sl,s.heap.get? t.1=some {cls:=.type "tuple",dict:=dd,data:=.seq #[.ref t.2.2.1,t.2.2.2] n,slots:=sl})/\(y9 prog w).is s.heap t.2.1 t.2.2.1)->
  s.heap.DictOfH (y9 prog w) d acc->acc.length+(ts.length - i)<=sizeLine->
  (∀ h' tk,(∀ b o,b≠it->b≠d->s.heap.get? b=some o->h'.get? b=some o)->h'.DictOfH (y9 prog w) d ((ts.drop i).foldl (λacc t=>storedH acc t.2.1 t.2.2.1 t.2.2.2) acc)->R (.ok (.ret .none)) {s with heap:=h',toks:=tk})->
  codeAny (model prog w) A (.builtin "dict.update.loop" ⟨[.ref d,.ref it,rawInt i,.none],[]⟩) R s:=by
 intro k
 induction k with
 | zero=>
  intro i s acc hk hi st hL hts hm hz hR;have e:i=ts.length:=by omega
  subst e;refine Mc wV ?_;rw [LZ oE _];have ci:∃ o,s.heap.get? it=some o/\o.cls=.type "list_iterator":=let ⟨o,a,b,_⟩:=st; ⟨o,a,b⟩
  refine gt (m:=pyNext (.ref it)) (wpAny_pyNext_list_end (A:=A.in1) hh st hL (by simp) λh' eb=>?_)
  have z:=hR h' s.toks (λb o n1 _ x=>eb b o n1 x) (by rw [List.drop_length]; exact uh hm ci (by decide) hd eb)
  exact gt (Lz (Lz z))
 | succ k ih=>
  intro i s acc hk hi st hL hts hm hz hR;have hlt:i < ts.length:=by omega
  have mem:ts[i]∈ts:=MH hlt;obtain⟨⟨dd,n,sl,gT⟩,ik⟩:=hts _ mem;have ci:∃ o,s.heap.get? it=some o/\o.cls=.type "list_iterator":=let ⟨o,a,b,_⟩:=st; ⟨o,a,b⟩
  have cd:∃ o,s.heap.get? d=some o/\o.cls=.type "dict":=let ⟨o,_,_,a,b,_⟩:=hm; ⟨o,a,b.1⟩
  have tni:∀ {b:MR} {o:M5},s.heap.get? b=some o->o.cls=.type "tuple"->b≠it:=λg c z=>by
   obtain⟨q,y1,y2⟩:=ci;rw [z,y1] at g;cases g;rw [y2] at c;simp at c
  have tnd:∀ {b:MR} {o:M5},s.heap.get? b=some o->o.cls=.type "tuple"->b≠d:=λg c z=>by
   obtain⟨q,y1,y2⟩:=cd;rw [z,y1] at g;cases g;rw [y2] at c;simp at c
  have hlen:=iz acc ts[i].2.1 ts[i].2.2.1 ts[i].2.2.2;refine yH (T:=ts[i].1) (by simp [hlt]) st hL gT (tni gT rfl) λh1 st1 sb=>?_
  have kk:∀ b o,b≠it->s.heap.get? b=some o->h1.get? b=some o:=λb o n1 x=>(sb.2 b n1).trans x
  have isk:∀ t∈ts,(y9 prog w).is h1 t.2.1 t.2.2.1:=λt ht=>by
   obtain⟨q,its,m,g1,g2,g3⟩:=(hts t ht).2;exact⟨q,its,m,kk _ _ (tni g1 g2) g1,g2,g3⟩
  have hm1:h1.DictOfH (y9 prog w) d acc:=uh hm ci (by decide) hd kk
  refine wpAny_dictSet_heap (hsz:=by omega) (show (y9 prog w).room A.in1 from hu) (isk _ mem) hm1 λh2 hm2 sb2=>?_
  have e:(rawInt ((i:Int)+1))=rawInt ((i+1:Nat):Int):=rfl;rw [e];have k2:∀ b o,b≠d->h1.get? b=some o->h2.get? b=some o:=λb o n1 x=>(sb2.2 b n1).trans x
  refine ih (i+1) _ _ (by omega) hlt (st1.at λo x=>k2 _ _ (Ne.symm hd) x) ((hL.at λo x=>kk _ _ hl x).at λo x=>k2 _ _ hld x) (λt ht=>?_) hm2 (by omega) λh' tk q1 q2=>?_
  ·obtain⟨⟨dd,n,sl,g⟩,_⟩:=hts t ht;obtain⟨o,es,ep,g',_,dt,_⟩:=hm1;exact⟨⟨dd,n,sl,k2 _ _ (tnd g rfl) (kk _ _ (tni g rfl) g)⟩,(y9 prog w).keeps (isk t ht) g' dt sb2⟩
  ·refine hR h' tk (λb o n1 n2 x=>q1 b o n1 n2 (k2 b o n2 (kk b o n1 x))) ?_
   rw [Ms hlt,List.foldl_cons];exact q2
theorem pD {l:MR} {s:MP} {n:Nat} (hu:A.units+2 < cLine) (hh:A.handled=none) (hb:sysModules < s.heap.objs.size) (ts:List (MR×List Int×MR×MQ)) {Q:MQ->MP->Prop}
  (gl:s.heap.get? l=some {cls:=.type "list",dict:=none,data:=.seq (ts.map λt=>Value.ref t.1).toArray n,slots:=#[]})
  (hts:∀ t∈ts,(∃ dd n sl,s.heap.get? t.1=some {cls:=.type "tuple",dict:=dd,data:=.seq #[.ref t.2.2.1,t.2.2.2] n,slots:=sl})/\(y9 prog w).is s.heap t.2.1 t.2.2.1) (hz:ts.length<=sizeLine)
  (h:∀ h' tk,(∀ b o,s.heap.get? b=some o->h'.get? b=some o)->h'.DictOfH (y9 prog w) s.heap.objs.size (ts.foldl (λacc t=>storedH acc t.2.1 t.2.2.1 t.2.2.2) [])->Q (.ref s.heap.objs.size) {s with heap:=h',toks:=tk}):
  wpAny (model prog w) A (call (.type "dict") [.ref l]) Q E s:=by
 refine callType_codes (Q₁:=λob s1=>ob=.ref s.heap.objs.size/\s1={s with heap:=s.heap.push {cls:=.type "dict",data:=.dict #[]}}) F.kt_called_dict (F.kt_typeCall_dict_1 _) F.entry_dict_init (kt_code_dict_new _ ⟨rfl,rfl⟩) ?_
 rintro ob s1 ⟨rfl,rfl⟩;have hl:l < s.heap.objs.size:=LC gl;have gl1:(s.heap.push {cls:=.type "dict",data:=.dict #[]}).get? l=some {cls:=.type "list",dict:=none,data:=.seq (ts.map λt=>Value.ref t.1).toArray n,slots:=#[]}:=Ly _ gl
 have gd1:(s.heap.push {cls:=.type "dict",data:=.dict #[]}).get? s.heap.objs.size=some (jY #[] 0):=LA _ rfl
 refine⟨⟨_,gd1,rfl⟩,F.args_dict_init_2 _ _,?_⟩;generalize hH:s.heap.push {cls:=.type "dict",data:=.dict #[]}=H1 at gl1 gd1
 have kH:∀ b o,s.heap.get? b=some o->H1.get? b=some o:=λb o x=>by rw [<- hH]; exact Ly _ x
 obtain⟨hp,g,dr,tk,os⟩:=s;have T1:(⟨H1,g,dr,tk,os⟩:MP).TypeIs (.ref hp.objs.size) "dict":=⟨_,gd1,rfl⟩
 have hT2:(⟨H1,g,dr,tk,os⟩:MP).TypeIs (.ref l) "list":=⟨_,gl1,rfl⟩
 refine gt (m:=Dict.selfAndRest "__init__" _) ?_
 unfold Dict.selfAndRest;refine gt (wpAny_notOrdered_dict T1 ?_)
 show wpAny _ _ (pure (hp.objs.size,[Value.ref l])) _ _ _
 refine Lz ?_
 show wpAny _ _ (Dict.updateFrom "dict.__init__" hp.objs.size (.ref l) [] .none) _ _ _
 unfold Dict.updateFrom;refine gt (wpAny_typeOf hT2 ?_);rw [if_pos (by decide)]
 refine gt (yC (s:=⟨H1,g,dr,tk,os⟩) gl1 hh λh' tk' kk=>?_)
 rw [if_pos (show (none:MS MQ).isNone=true from rfl)]
 refine gt (wpAny_rule (gt ?_));have gl2:=kk _ _ gl1;have gd2:=kk _ _ gd1;have iL:h'.IsList l (ts.map λt=>Value.ref t.1).toArray:=⟨_,gl2,rfl,_,rfl⟩
 refine wpAny_pyIter_list (s:=⟨h',g,dr,tk',os⟩) iL (Lz ⟨plainId_quiet oE _,?_⟩);have z1:hp.objs.size < h'.objs.size:=LC gd2;refine AB (A:=A.in1) (by show A.units+1+1 < cLine; omega) hh ts (LK z1) (LK (Nat.lt_trans hl z1)) (LK hl) ts.length 0 ⟨h'.push {cls:=.type "list_iterator",data:=.fields #[.ref l,.int 0 0]},g,dr,tk',os⟩ [] rfl (Mw _) ⟨_,LA _ rfl,rfl,rfl⟩ (iL.push _) (λt ht=>?_) ?_ (by rw [List.length_nil]; omega) λh2 tk2 q1 q2=>⟨rfl,h h2 tk2 (λb o x=>?_) q2⟩
 ·obtain⟨⟨dd,n',sl,g1⟩,o,its,m,g2,g3⟩:=hts t ht;have up:∀ b o,hp.get? b=some o->(h'.push {cls:=.type "list_iterator",data:=.fields #[.ref l,.int 0 0]}).get? b=some o:=λb o x=>Ly _ (kk _ _ (kH _ _ x))
  exact⟨⟨dd,n',sl,up _ _ g1⟩,o,its,m,up _ _ g2,g3⟩
 ·exact⟨_,#[],0,Ly _ gd2,⟨rfl,rfl,rfl⟩,rfl,rfl,(by intro x hx; simp at hx),List.nodup_nil⟩
 ·have b1:b < hp.objs.size:=LC x;exact q1 b o (LK (Nat.lt_trans b1 z1)) (LK b1) (Ly _ (kk _ _ (kH _ _ x)))
theorem vj (c:Int):∀ l:List M4,(l.map (·.hash)).Nodup->(l.filter (·.hash == c)).length<=1
 | [],_=>Mw _
 | e::l,h=>by
  rw [LP,Mn] at h;rw [List.filter_cons]
  by_cases q:(e.hash == c)=true
  ·rw [if_pos q];have z:l.filter (·.hash == c)=[]:=by
    rw [List.filter_eq_nil_iff];intro x hx y;refine h.1 (LF.mpr ⟨x,hx,?_⟩);simp only [beq_iff_eq] at q y
    rw [q,y]
   rw [z];exact LD _
  ·rw [if_neg q];exact vj c l h.2
theorem sa {id:M3} {o:MR} {es:MZ M4} {ep:Nat} {s:MP} {Q:MZ M4->MP->Prop} (g:s.heap.get? o=some (jY es ep)) (hk:∀ e∈es.toList,∃ b q,e.key=.ref b/\s.heap.get? b=some q/\q.cls=.type "tuple") (hn:(es.toList.map (·.hash)).Nodup) (h:Q es s):
  wpAny (model prog w) A (Dict.entriesForEmpty id o) Q E s:=by
 unfold Dict.entriesForEmpty;refine gt (Mt g rfl ?_);refine gt ?_;rw [<- Array.forIn_toList];refine wpAny_forIn_list _ (λam _ s'=>s'=s/\∀ e∈am,e∈es.toList) _ ?_ ?_ es.toList _ ⟨rfl,λe he=>he⟩
 ·rintro e am _ s' ⟨rfl,hr⟩;have me:=hr e (by simp)
  obtain⟨b,q,kb,gb,cb⟩:=hk e me;have one:¬ (es.filter (·.hash == e.hash)).size > 1:=by
   have z:=vj e.hash es.toList hn;rw [<- MF,Array.toList_filter];omega
  rw [kb];have T:s'.TypeIs (.ref b) "tuple":=⟨q,gb,cb⟩
  refine gt (gt (wpAny_specialOf T F.slot_tuple_eq.lookup (Lz ?_)));rw [if_pos (by decide),if_neg one]
  exact Lz ⟨rfl,λx hx=>hr x (by simp [hx])⟩
 ·rintro _ s' ⟨rfl,_⟩;exact Lz h
theorem z7 {d o:MR} {es:MZ M4} {ep:Nat} {s:MP} {Q:Unit->MP->Prop} (ne:d≠o) (ho:(o == sysModules)=false) (gd:s.heap.get? d=some (jY #[] 0)) (go:s.heap.get? o=some (jY es ep))
  (hk:∀ e∈es.toList,∃ b q,e.key=.ref b/\s.heap.get? b=some q/\q.cls=.type "tuple") (hn:(es.toList.map (·.hash)).Nodup) (hz:es.size<=sizeLine) (h:∀ h' ep',h'.get? d=some (jY es ep')->Heap.SameBut d s.heap h'->Q () {s with heap:=h'}):
  wpAny (model prog w) A (Dict.mergeDict "dict.__init__" d o) Q E s:=by
 have nb:(d == o)=false:=by simpa using ne
 unfold Dict.mergeDict Dict.showsAll;rw [if_neg (by rw [nb]; exact LH),if_neg (by rw [ho]; exact LH)]
 refine gt (Lz (gt (Mt go rfl ?_)));cases hes:es.toList with
 | nil=>
  have e0:es=#[]:=by cases es; simp at hes; rw [hes]
  subst e0;have z:=h s.heap 0 gd (Heap.SameBut.refl _ _);dsimp only;rw [if_neg (by simp)]
  refine gt (wpAny_dictEpoch go rfl (gt (Mt go rfl ?_)));rw [Std.Legacy.Range.forIn_eq_forIn_range'];exact gt (Lz (Lz z))
 | cons e r=>
  obtain⟨b,q,kb,gb,cb⟩:=hk e (by rw [hes]; simp)
  have few:(es.size<=8 && es.all λe=>(keyPart e.key).isSome)=false:=by
   have:(es.all λe=>(keyPart e.key).isSome)=false:=by
    rw [<- Array.all_toList,hes,List.all_cons,kb]
    rfl
   rw [this,Bool.and_false]
  dsimp only;rw [if_pos (by rw [few]; rfl)]
  refine gt (Mt gd rfl ?_);rw [if_pos (by rfl)]
  refine gt (sa go (by rw [hes]; rw [hes] at hk; exact hk) hn ?_)
  have ne0:(!es.isEmpty)=true:=by
   cases es;simp at hes;rw [hes]
   rfl
  rw [if_pos ne0];have up:(s.heap.update d (Obj.mapDictKeys λ_=>es)).get? d=_:=Mm (Obj.mapDictKeys λ_=>es) gd rfl
  refine gt (wpAny_updateDictKeysTo gd rfl ?_ (Nat.le_succ_of_le hz));exact Lz (h _ _ up (MO ..))
theorem pA {o:MR} {es:MZ M4} {ep:Nat} {s:MP} {Q:MQ->MP->Prop} (ho:(o == sysModules)=false) (go:s.heap.get? o=some (jY es ep))
  (hk:∀ e∈es.toList,∃ b q,e.key=.ref b/\s.heap.get? b=some q/\q.cls=.type "tuple") (hn:(es.toList.map (·.hash)).Nodup) (hz:es.size<=sizeLine)
  (h:∀ h' ep',h'.get? s.heap.objs.size=some (jY es ep')->(∀ b q,s.heap.get? b=some q->h'.get? b=some q)->Q (.ref s.heap.objs.size) {s with heap:=h'}):wpAny (model prog w) A (call (.type "dict") [.ref o]) Q E s:=by
 refine callType_codes (Q₁:=λob s1=>ob=.ref s.heap.objs.size/\s1={s with heap:=s.heap.push {cls:=.type "dict",data:=.dict #[]}}) F.kt_called_dict (F.kt_typeCall_dict_1 _) F.entry_dict_init (kt_code_dict_new _ ⟨rfl,rfl⟩) ?_
 rintro ob s1 ⟨rfl,rfl⟩;have lo:o < s.heap.objs.size:=LC go;have go1:=Ly {cls:=.type "dict",data:=.dict #[]} go
 have gd1:(s.heap.push {cls:=.type "dict",data:=.dict #[]}).get? s.heap.objs.size=some (jY #[] 0):=LA _ rfl
 have T1:({s with heap:=s.heap.push {cls:=.type "dict",data:=.dict #[]}}:MP).TypeIs (.ref s.heap.objs.size) "dict":=⟨_,gd1,rfl⟩
 have T2:({s with heap:=s.heap.push {cls:=.type "dict",data:=.dict #[]}}:MP).TypeIs (.ref o) "dict":=⟨_,go1,rfl⟩
 refine⟨T1,F.args_dict_init_2 _ _,gt (m:=Dict.selfAndRest "__init__" _) ?_⟩
 unfold Dict.selfAndRest;refine gt (wpAny_notOrdered_dict T1 (Lz (a:=(s.heap.objs.size,[Value.ref o])) ?_))
 show wpAny _ _ (Dict.updateFrom "dict.__init__" s.heap.objs.size (.ref o) [] .none) _ _ _
 unfold Dict.updateFrom;refine gt (wpAny_typeOf T2 ?_);rw [if_neg (by decide)]
 refine gt ?_;unfold Dict.merge;refine gt ?_;unfold Dict.readDirectly;refine gt (wpAny_isInstance T2 isSubtype_dict_dict ?_);rw [if_neg (by decide)]
 refine gt (wpAny_specialOf T2 F.slot_dict_iter.lookup (Lz ?_));rw [if_pos (by decide)]
 refine gt (Lz (z7 (Nat.ne_of_gt lo) ho gd1 go1 (λe he=>?_) hn hz λh' ep' g sb=>?_))
 ·obtain⟨b,q,x1,x2,x3⟩:=hk e he;exact⟨b,q,x1,Ly _ x2,x3⟩
 ·exact gt (Lz (Lz ⟨rfl,h h' ep' g λb q x=>(sb.2 b (LK (LC x))).trans (Ly _ x)⟩))
theorem Ie (p q:MR) (a b c d:Int) (t1 t2 t3 t4:Tok) (n n':Nat) (dd dd':MS MR) (sl sl':MZ (MS MQ)):
  MeetsIn prog w (Builtin.«tuple.__gt__» ⟨[.ref p,.ref q],[]⟩) (λA R s=>A.units+1 < cLine/\s.heap.get? p=some ⟨.type "tuple",dd,.seq #[.int a t1,.int b t2] n,sl⟩/\s.heap.get? q=some ⟨.type "tuple",dd',.seq #[.int c t3,.int d t4] n',sl'⟩/\
   R (.ok (.ret (.bool (decide (c < a) || (decide (a=c) && decide (d < b)))))) s):=
 .of_wp λA R s h=>by
  obtain⟨hp,g,dr,tk,os⟩:=s;obtain⟨hu,h1,h2,h⟩:=h;have f:=AutoSeq1.sub_tuple_tuple;have stp:∀ {x y:Int} {u v:Tok} {Q:M1->MP->Prop} {s:MP},Q (x == y) s->wpAny (model prog w) A.in1 (eqBool (.int x u) (.int y v)) Q (λe s'=>R (.error e) s') s:=λh=>wpAny_eqBool_int h
  have gtp:∀ {x y:Int} {u v:Tok} {Q:MQ->MP->Prop} {s:MP},Q (.bool (decide (y < x))) s->wpAny (model prog w) A.in1 (richCompare .Gt (.int x u) (.int y v)) Q (λe s'=>R (.error e) s') s:=λh=>PyProof.Rows.gt_int h
  by_cases e1:a=c
  ·subst e1
   by_cases e2:b=d
   ·subst e2
    repeat (any_goals (first | assumption | (with_reducible refine stp ?_) | (with_reducible refine gtp ?_) | wp_step))
    refine⟨_,rfl,?_⟩;simp only [Int.lt_irrefl,decide_false,Bool.and_false,Bool.or_false] at h;exact h
   ·have e3:(b == d)=false:=by simpa using e2
    repeat (any_goals (first | assumption | (with_reducible refine stp ?_) | (with_reducible refine gtp ?_) | wp_step))
    refine⟨_,rfl,?_⟩;simp only [Int.lt_irrefl,decide_false,Bool.false_or,decide_true,Bool.true_and] at h;exact h
  ·have e3:(a == c)=false:=by simpa using e1
   repeat (any_goals (first | assumption | (with_reducible refine stp ?_) | (with_reducible refine gtp ?_) | wp_step))
   refine⟨_,rfl,?_⟩;simp only [Mv e1,Bool.false_and,Bool.or_false] at h;exact h
theorem Df {I S:MR} {fp wr:List MR} {n:Nat} {P:Nat->MQ->Prop} {St:Nat->MX->Prop} {R:Result->MP->Prop} (W:Walks prog w A.in1 I fp wr n P St) (bt:Nat->Nat->M1) (Φ:MX->Prop) (hS:S∉fp)
  (kΦ:∀ h h',Φ h->(∀ b o,b∉wr->b≠S->h.get? b=some o->h'.get? b=some o)->Φ h')
  (cmp:∀ i j u v (s:MP) (Q:MQ->MP->Prop) (E:MQ->MP->Prop),Φ s.heap->P i u->P j v->Q (.bool (bt i j)) s->wpAny (model prog w) A.in1 (richCompare .Gt u v) Q E s):
  ∀ (k j:Nat) (s:MP) (vb:MQ) (c:Nat),n - (j+1)=k->j+1<=n->Φ s.heap->St (j+1) s.heap->P (argBest bt j) vb->s.heap.get? S=some {cls:=.type "list",dict:=none,data:=.seq #[vb,vb] c,slots:=#[]}->
  (∀ v h' tk,P (argBest bt (n - 1)) v->(∀ b o,b∉wr->b≠S->s.heap.get? b=some o->h'.get? b=some o)->R (.ok (.ret v)) {s with heap:=h',toks:=tk})->codeAny (model prog w) A (.builtin "max.loop" ⟨[.ref I,.none,.ref S],[]⟩) R s:=by
 have nw:S∉wr:=λz=>hS (W.sub _ z)
 have nm:((toString "max"++toString ".loop":M3))="max.loop":=by decide
 intro k
 induction k with
 | zero=>
  intro j s vb c hk hj ph st pb gS fin;have ej:n=j+1:=by omega
  refine Mc F.entry_max_loop ?_;rw [LZ L9 _];refine gt (m:=seqItems? (.ref S)) (Mb gS rfl (gt (MD (m:=pyNext (.ref I)) (W.done s _ _ (by rw [ej]; exact st) λh' tk far=>?_))))
  have g1:=far S _ nw gS;refine gt (m:=updateSeq S λ_=>#[]) (wpAny_updateSeq g1 rfl (gt (MG (Lz (fin vb _ tk (by rw [ej]; exact pb) λb o n1 n2 x=>?_)))))
  exact(L_ _ _ (Ne.symm n2)).trans (far b o n1 x)
 | succ k ih=>
  intro j s vb c hk hj ph st pb gS fin;have lt:j+1 < n:=by omega
  refine Mc F.entry_max_loop ?_;rw [LZ L9 _];refine gt (m:=seqItems? (.ref S)) (Mb gS rfl (gt (MD (m:=pyNext (.ref I)) (W.item (j+1) s _ _ lt st λv h' tk pv st1 far=>?_))))
  have g1:=far S _ nw gS;have ph1:=kΦ _ _ ph λb o n1 _ x=>far b o n1 x
  refine gt (Lz (gt (MD (L5 (gt (m:=richCompare .Gt v vb) (cmp (j+1) (argBest bt j) v vb _ _ _ ph1 pv pb (gt (L5 (wpAny_truthy_bool (gt (MG (Lz ?_))))))))))))
  by_cases hb:bt (j+1) (argBest bt j)=true
  ·rw [hb,if_pos rfl];refine gt (m:=updateSeq S λ_=>#[v,v]) (wpAny_updateSeq g1 rfl (gt (MG ?_)))
   have oth:∀ b o,b≠S->h'.get? b=some o->(h'.update S (Obj.mapSeq λ_=>#[v,v])).get? b=some o:=λb o n2 x=>(L_ _ _ (Ne.symm n2)).trans x
   rw [nm];refine Lz ⟨plainId_quiet L9 _,ih (j+1) _ v _ (by omega) lt (kΦ _ _ ph1 λb o _ n2 x=>oth b o n2 x) (W.frame _ _ _ st1 λb hb' o x=>oth b o (λz=>hS (z▸hb')) x) (by unfold argBest; rw [hb,if_pos rfl]; exact pv) (Mm _ g1 rfl) λu h2 tk2 pu far2=>?_⟩
   exact fin u h2 tk2 pu λb o n1 n2 x=>far2 b o n1 n2 (oth b o n2 (far b o n1 x))
  ·have hb':bt (j+1) (argBest bt j)=false:=by simpa using hb
   rw [hb',if_neg LH];refine gt (MG ?_);rw [nm];refine Lz ⟨plainId_quiet L9 _,ih (j+1) _ vb c (by omega) lt ph1 st1 (by unfold argBest; rw [hb',if_neg LH]; exact pb) g1 λu h2 tk2 pu far2=>?_⟩
   exact fin u h2 tk2 pu λb o n1 n2 x=>far2 b o n1 n2 (far b o n1 x)
theorem Cu {x:MQ} {s:MP} {Q:MQ->MP->Prop} (h:wpAny (model prog w) A.in1 (pyIter x) (λit s2=>∃ I fp wr n P St bt,∃ Φ:MX->Prop,it=.ref I/\Walks prog w A.in1 I fp wr n P St/\St 0 s2.heap/\(∀ b∈fp,b < s2.heap.objs.size)/\0 < n/\Φ s2.heap/\
   (∀ S,s2.heap.objs.size<=S->∀ h h',Φ h->(∀ b o,b∉wr->b≠S->h.get? b=some o->h'.get? b=some o)->Φ h')/\
   (∀ i j u v (s:MP) (Q:MQ->MP->Prop) (E:MQ->MP->Prop),Φ s.heap->P i u->P j v->Q (.bool (bt i j)) s->wpAny (model prog w) A.in1 (richCompare .Gt u v) Q E s)/\
   ∀ v h' tk,P (argBest bt (n - 1)) v->(∀ b o,b∉wr->s2.heap.get? b=some o->h'.get? b=some o)->Q v {s2 with heap:=h',toks:=tk}) E s):wpAny (model prog w) A (call (.builtin "max") [x]) Q E s:=by
 have nm:((toString "max"++toString ".loop":M3))="max.loop":=by decide
 refine call_function_tree F.kind_max F.plain_max F.entry_max (F.args_max1 _) (gt (m:=Builtin.Builtins.bindParams "max" ["key","default"] 0 ⟨[],[]⟩) (wpAny_of_eq (a:=[none,none]) rfl (gt (Lz (gt (Mg h (λit s2 h2=>?_) λ_ _ e=>e))))))
 obtain⟨I,fp,wr,n,P,St,bt,Φ,rfl,W,st,below,n0,ph,kΦ,cmp,fin⟩:=h2;refine gt (L7 ?_);have hS:s2.heap.objs.size∉fp:=λm=>Mz _ (below _ m)
 have nw:s2.heap.objs.size∉wr:=λm=>hS (W.sub _ m)
 have kp:∀ b o,s2.heap.get? b=some o->(s2.heap.push {cls:=.type "list",data:=.seq #[]}).get? b=some o:=λb o x=>Ly _ x
 have gS:(s2.heap.push {cls:=.type "list",data:=.seq #[]}).get? s2.heap.objs.size=some {cls:=.type "list",dict:=none,data:=.seq #[] 0,slots:=#[]}:=LA _ rfl
 have ph0:=kΦ _ (LD _) _ _ ph λb o _ _ x=>kp b o x
 have st0:=W.frame 0 _ _ st λb _ o x=>kp b o x
 rw [nm];refine Lz ⟨plainId_quiet L9 _,Mc F.entry_max_loop ?_⟩;rw [LZ L9 _];refine gt (m:=seqItems? (.ref s2.heap.objs.size)) (Mb gS rfl (gt (MD (m:=pyNext (.ref I)) (W.item 0 _ _ _ n0 st0 λv h' tk pv st1 far=>?_))))
 have g1:=far _ _ nw gS;have ph1:=kΦ _ (LD _) _ _ ph0 λb o n1 _ x=>far b o n1 x
 have oth:∀ b o,b≠s2.heap.objs.size->h'.get? b=some o->(h'.update s2.heap.objs.size (Obj.mapSeq λ_=>#[v,v])).get? b=some o:=λb o n2 x=>(L_ _ _ (Ne.symm n2)).trans x
 refine gt (Lz (gt (m:=updateSeq s2.heap.objs.size λ_=>#[v,v]) (wpAny_updateSeq g1 rfl ?_)))
 rw [nm];refine Lz ⟨plainId_quiet L9 _,Df W bt Φ hS (kΦ _ (LD _)) cmp _ 0 _ v _ rfl n0 (kΦ _ (LD _) _ _ ph1 λb o _ n2 x=>oth b o n2 x) (W.frame _ _ _ st1 λb hb o x=>oth b o (λz=>hS (z▸hb)) x) pv (Mm _ g1 rfl) λu h2 tk2 pu far2=>?_⟩
 exact fin u h2 tk2 pu λb o n1 x=>by
  have nb:b≠s2.heap.objs.size:=LK (LC x);exact far2 b o n1 nb (oth b o nb (far b o n1 (kp b o x)))
theorem uQ (c:oN) (hh:A.handled=none) (I d:MR) (ne:d≠I) (es:MZ M4) (ep:Nat):Walks prog w A I [I,d] [I] es.size (λi v=>∃ e,es[i]?=some e/\v=oN.of e c) (λi h=>h.get? I=some (rJ c.nm d i es.size ep)/\h.get? d=some (jY es ep)) where
 sub:=λb hb=>by simp at hb; simp [hb]
 frame:=λ_ _ _ st k=>⟨k I (by simp) _ st.1,k d (by simp) _ st.2⟩
 item:=λi s Q E hi st fin=>xP c (e:=es[i]) st.1 st.2 (by simp [hi]) λh' a k=>fin _ h' s.toks ⟨es[i],by simp [hi],rfl⟩ ⟨a,k _ _ ne st.2⟩ λb o hb x=>k b o (λz=>hb (by simp [z])) x
 done:=λs Q E st fin=>uA c hh st.1 st.2 (by simp) λh' k=>fin h' s.toks λb o hb x=>k b o (λz=>hb (by simp [z])) x
 self:=λ_ _ _ _ st q=>xI c st.1 q
end
end PySem
namespace DL
open PySem PySem.Spec PyProof.Rows L2
theorem rW {X:Cx} {M6:List (MR×M5)} {σ:L2.St} {H:Hp} {s:MP} (I:aD X M6 σ H s):∀ {kvs:List (List Int×D)} {xs:List V} {us:List MQ},IsDs X.K H (cn kvs) xs->aV xs us->
  ∃ ts:List (MR×List Int×MR×MQ),us=ts.map (λt=>Value.ref t.1)/\kL X.K H kvs (ts.map (·.2))/\
   ∀ t∈ts,(∃ dd n sl,s.heap.get? t.1=some {cls:=.type "tuple",dict:=dd,data:=.seq #[.ref t.2.2.1,t.2.2.2] n,slots:=sl})/\(y9 X.prog X.w).is s.heap t.2.1 t.2.2.1
 | [],xs,us,i,r=>by
  have e:xs=[]:=ib.mp i;subst e;cases r;exact⟨[],rfl,.nil,λt ht=>nomatch ht⟩
 | kv::kvs,xs,us,i,r=>by
  obtain⟨v,vs,rfl,h1,h2⟩:=cE.mp (show IsDs X.K H (.tup [cz kv.1,kv.2]::cn kvs) xs from i)
  cases r with
  | @cons _ u _ us r1 r2=>
   obtain⟨ts,e,q1,q2⟩:=rW I h2 r2;obtain⟨T,ys,rfl,t1,j⟩:=bY.mp h1;obtain⟨y1,y2,rfl,j1,j2⟩:=rN j;obtain⟨b,rfl,tb⟩:=nX.mp j1;cases (show u=Value.ref T from r1)
   obtain⟨its,rv,⟨⟨cls,dd,data,sl⟩,g1,g2,n,g3⟩,_⟩:=I.tuple t1;obtain⟨w1,w2,rfl,rw1,rw2⟩:=uO rv;cases (show w1=Value.ref b from rw1)
   simp only at g2 g3
   subst g2 g3;refine⟨(T,kv.1,b,w2)::ts,by rw [e]; rfl,.cons ⟨rfl,tb,y2,rw2,j2⟩ q1,λt ht=>?_⟩
   rcases LJ.mp ht with e2 | ht2
   ·subst e2;exact⟨⟨dd,n,sl,g1⟩,kR I tb⟩
   ·exact q2 t ht2
theorem yZ (ts:List (MR×List Int×MR×MQ)):∀ acc,ts.foldl (λacc t=>storedH acc t.2.1 t.2.2.1 t.2.2.2) acc=(ts.map (·.2)).foldl (λacc k=>storedH acc k.1 k.2.1 k.2.2) acc:=by
 induction ts with
 | nil=>intro acc; rfl
 | cons t ts ih=>intro acc; exact ih _
def Ei:cH:=λds S k=>match ds with
 | [.ref a]=>(∃ kvs ep,S a=some (.gen (.dT kvs ep))/\(kvs.map λp=>jU p.1).Nodup/\∀ p,S p=none->∀ ep',k (.ref p) (put S p (.gen (.dT kvs ep'))))\/
   ∃ kvs,S a=some (.lst (cn kvs))/\∀ p,S p=none->∀ ep',k (.ref p) (put S p (.gen (.dT (aZ [] kvs) ep')))
 | _=>False
theorem vV {X:Cx} {n:Nat} (hr:cI n X.A):bW X (.type "dict") (pB X.K Ei):=by
 intro M6 s σ H xs us Q I rs h;obtain⟨ds,S,k,i,hS,r,m⟩:=h;unfold Ei at r
 split at r
 ·rename_i a
  obtain⟨v,rfl,j⟩:=dM i;have ex:=aS.mp j;subst ex;obtain⟨u,rfl,ru⟩:=gQ rs;cases (show u=Value.ref a from ru)
  have hn:=I.hok.fresh (LD s.heap.objs.size);have hb:(s.heap.objs.size == sysModules)=false:=beq_eq_false_iff_ne.mpr (Ne.symm (LK I.big));have hun:=hr.un;rcases r with ⟨kvs,ep,g1,nd,r⟩ | ⟨kvs,g1,r⟩
  ·obtain⟨ys,e1,r1⟩:=hS.dT g1;obtain⟨hd,z,ndk,g⟩:=bV I e1;have hash:(ys.map λy=>jU y.1)=kvs.map λp=>jU p.1:=by
    clear e1 z ndk g nd g1 r
    induction r1 with
    | nil=>rfl
    | cons h t ih=>exact congr (congrArg List.cons (congrArg jU h.1.symm)) ih
   refine pA hd g (λe he=>?_) ?_ (by simp; omega) λh' ep' g' kk=>?_
   ·simp only [LF] at he;obtain⟨y,hy,rfl⟩:=he;have dd:=pV I e1 r1;obtain⟨_,_,_,_,_,_,_,al,_⟩:=dd;obtain⟨q,its,n',q1,q2,_⟩:=al y hy;exact⟨y.2.1,q,rfl,q1,q2⟩
   ·show((ys.map eT).map (·.hash)).Nodup
    rw [Mk,show((λx:M4=>x.hash) ∘ eT)=λy:List Int×MR×MQ=>jU y.1 from rfl,hash]
    exact nd
   ·have new:jZ s.heap.objs.size ys ep' h':=⟨hb,z,ndk,g'⟩;refine⟨.ref s.heap.objs.size,_,I.laid (o:=.ext (jZ s.heap.objs.size ys ep')) (t':=s.toks) kk (LD _) (nR new),rfl,?_⟩;exact m _ _ _ _ (r _ (hS.free hn) ep') (Kp.new hn) (hS.newG hn ⟨ys,bJ,r1.kp (Kp.new hn)⟩) (aS.mpr rfl)
  ·obtain⟨vs,hl,jl⟩:=hS.lst g1;obtain⟨z,its,c,rv,gl⟩:=(show dY X.prog X.w H s.heap a (.lst vs) from I.hok a _ hl)
   obtain⟨ts,rfl,q1,q2⟩:=rW I jl rv;have hz:ts.length<=sizeLine:=by
    have:=rv.length;rw [LG] at this;omega
   refine pD (by omega) hr.hd I.big ts gl q2 hz λh' tk kk dd=>?_
   rw [yZ] at dd;have z':((ts.map (·.2)).foldl (λacc k=>storedH acc k.1 k.2.1 k.2.2) []).length<=sizeLine:=by have:=nh (ts.map (·.2)) []; rw [LG,List.length_nil] at this; omega
   obtain⟨ep',new⟩:=wH hb z' dd;refine⟨.ref s.heap.objs.size,_,I.laid (o:=.ext (jZ s.heap.objs.size _ ep')) (t':=tk) kk (LD _) (nR new),rfl,?_⟩;exact m _ _ _ _ (r _ (hS.free hn) ep') (Kp.new hn) (hS.newG hn ⟨_,bJ,(q1.merge .nil).kp (Kp.new hn)⟩) (aS.mpr rfl)
 ·exact r.elim
def pZ:List Int->List Int->M1
 | [a,b],[c,d]=>decide (c < a) || (decide (a=c) && decide (d < b))
 | _,_=>false
theorem wQ (key:Nat->List Int) (h2:∀ i,∃ a b,key i=[a,b]):∀ k,argBest (λi j=>pZ (key i) (key j)) k<=k/\∀ i,i<=k->pZ (key i) (key (argBest (λi j=>pZ (key i) (key j)) k))=false
 | 0=>⟨LD _,λi h=>by
   have:i=0:=by omega
   subst this;obtain⟨a,b,e⟩:=h2 0
   show pZ (key 0) (key 0)=false
   rw [e];simp [pZ]⟩
 | k+1=>by
  obtain⟨b1,b2⟩:=wQ key h2 k;obtain⟨a,b,e1⟩:=h2 (k+1);obtain⟨c,d,e2⟩:=h2 (argBest (λi j=>pZ (key i) (key j)) k)
  unfold argBest
  by_cases h:pZ (key (k+1)) (key (argBest (λi j=>pZ (key i) (key j)) k))=true
  ·rw [if_pos h];refine⟨LD _,λi hi=>?_⟩
   obtain⟨x,y,e3⟩:=h2 i;rw [e1,e2] at h;rw [e1,e3]
   by_cases q:i=k+1
   ·subst q;rw [e1] at e3;injection e3 with z1 z2
    injection z2 with z2 _
    subst z1 z2;simp [pZ]
   ·have z:=b2 i (by omega)
    rw [e2,e3] at z;simp only [pZ,Bool.or_eq_true,Mj,decide_eq_true_eq,Bool.or_eq_false_iff,Bool.and_eq_false_iff,decide_eq_false_iff_not] at h z ⊢
    omega
  ·rw [if_neg h];refine⟨by omega,λi hi=>?_⟩
   by_cases q:i=k+1
   ·subst q; simpa using h
   ·exact b2 i (by omega)
def mw (ys:List (List Int×MR×MQ)) (i:Nat):List Int:=(ys[i]?.map (·.1)).getD [0,0]
theorem jw {ys:List (List Int×MR×MQ)} {i:Nat} {y:List Int×MR×MQ} (h:ys[i]?=some y):mw ys i=y.1:=by unfold mw; rw [h]; rfl
def ET:cH:=λds S k=>match ds with
 | [.ref a]=>∃ kvs ep,S a=some (.gen (.dT kvs ep))/\kvs≠[]/\(∀ p∈kvs,∃ i j,p.1=[i,j])/\∀ m∈kvs,(∀ p∈kvs,pZ p.1 m.1=false)->k (cz m.1) S
 | _=>False
theorem BG {X:Cx} {n:Nat} (hr:cI n X.A):bW X (.builtin "max") (pB X.K ET):=by
 intro M6 s σ H xs us Q I rs h;obtain⟨ds,S,k,i,hS,r,m⟩:=h;unfold ET at r
 split at r
 ·rename_i a
  obtain⟨v,rfl,j⟩:=dM i;have ex:=aS.mp j;subst ex;obtain⟨u,rfl,ru⟩:=gQ rs;cases (show u=Value.ref a from ru)
  obtain⟨kvs,ep,g1,ne,two,r⟩:=r;obtain⟨ys,e1,r1⟩:=hS.dT g1;obtain⟨hd,z,ndk,g⟩:=bV I e1;have hun:=hr.un;have la:a < s.heap.objs.size:=LC g;have len:=r1.length;have n0:0 < ys.length:=by rw [<- len]; exact List.length_pos_iff.mpr ne
  have tup:∀ y∈ys,∃ i j dd sl t1 t2 c,y.1=[i,j]/\s.heap.get? y.2.1=some ⟨.type "tuple",dd,.seq #[.int i t1,.int j t2] c,sl⟩:=λy hy=>by
   obtain⟨q,hq,rfl⟩:=List.mem_iff_getElem.mp hy;obtain⟨p',hp1,hp2,hp3,_⟩:=r1.at_ (i:=q) (p:=kvs[q]'(by omega)) (by simp)
   rw [L6 hq] at hp1;cases hp1;obtain⟨i,j,ee⟩:=two _ (MH (by omega:q < kvs.length))
   rw [ee] at hp2 hp3
   obtain⟨its,rv,⟨⟨cls,dd,data,sl⟩,h1,h2,c,h3⟩,_⟩:=I.tuple hp3;obtain⟨w1,w2,rfl,rw1,rw2⟩:=uO rv;obtain⟨t1,rfl⟩:=rw1;obtain⟨t2,rfl⟩:=rw2;simp only at h2 h3
   subst h2 h3;exact⟨i,j,dd,sl,t1,t2,c,hp2.symm,h1⟩
  have hz:ys.length<=sizeLine:=z;have szE:(ys.map eT).toArray.size=ys.length:=by simp
  have keyOk:∀ i,∃ a b,mw ys i=[a,b]:=λi=>by
   unfold mw;cases q:ys[i]? with
   | none=>exact⟨0,0,rfl⟩
   | some y=>
    obtain⟨a,b,_,_,_,_,_,e,_⟩:=tup y (List.mem_of_getElem? q);exact⟨a,b,e⟩
  refine Cu (rS (A:=X.A.in1) hd g ?_);refine⟨s.heap.objs.size,_,_,_,_,_,λi j=>pZ (mw ys i) (mw ys j),λh=>∀ y∈ys,∃ i j dd sl t1 t2 c,y.1=[i,j]/\h.get? y.2.1=some ⟨.type "tuple",dd,.seq #[.int i t1,.int j t2] c,sl⟩,rfl,
   uQ .k (show X.A.in1.handled=none from hr.hd) s.heap.objs.size a (LK la) _ ep,⟨LA _ rfl,Ly _ g⟩,uW la,by rw [szE]; exact n0,λy hy=>?_,λS' hS' h h' ph far y hy=>?_,λi j u v s' Q' E' ph pu pv q=>?_,λv h' tk pv far=>?_⟩
  ·obtain⟨i,j,dd,sl,t1,t2,c,ee,gg⟩:=tup y hy;exact⟨i,j,dd,sl,t1,t2,c,ee,Ly _ gg⟩
  ·obtain⟨i0,j0,dd0,sl0,t10,t20,c0,ee0,gg0⟩:=tup y hy;have ly:y.2.1 < s.heap.objs.size:=LC gg0;obtain⟨i,j,dd,sl,t1,t2,c,ee,gg⟩:=ph y hy;have sp:s.heap.objs.size < S':=LN (LC (LA s.heap (o:=rJ "dict_keyiterator" a 0 (ys.map eT).toArray.size ep) rfl)) hS'
   exact⟨i,j,dd,sl,t1,t2,c,ee,far _ _ (by simp; exact LK ly) (LK (Nat.lt_trans ly sp)) gg⟩
  ·obtain⟨e,he,rfl⟩:=pu;obtain⟨e',he',rfl⟩:=pv;simp only [MJ,L8] at he he'
   obtain⟨y,hy,rfl⟩:=Mq.mp he;obtain⟨y',hy',rfl⟩:=Mq.mp he';obtain⟨a1,b1,dd,sl,t1,t2,c,ee,gg⟩:=ph y (List.mem_of_getElem? hy);obtain⟨a2,b2,dd',sl',t1',t2',c',ee',gg'⟩:=ph y' (List.mem_of_getElem? hy');have T1:s'.TypeIs (.ref y.2.1) "tuple":=⟨_,gg,rfl⟩
   simp only [jw hy,jw hy',ee,ee',pZ] at q;have fin:Value.bool (decide (a2 < a1) || (decide (a1=a2) && decide (b2 < b1)))≠.notImplemented/\Q' (.bool (decide (a2 < a1) || (decide (a1=a2) && decide (b2 < b1)))) s':=⟨(by intro z; cases z),q⟩
   exact wpAny_richCompare_same_room (op:=.Gt) T1 ⟨_,gg',rfl⟩ F.slot_tuple_gt (call_meetsIn F.slot_tuple_gt T1 F.entry_tuple_gt (F.args_tuple_gt_2 _ _) (Ie y.2.1 y'.2.1 a1 b1 a2 b2 t1 t2 t1' t2' c c' dd dd' sl sl') ⟨by show X.A.units+1+1 < cLine; omega,gg,gg',fin⟩) (by show X.A.units+1 < cLine; omega)
  ·obtain⟨e,he,rfl⟩:=pv;simp only [MJ,L8] at he;rw [szE] at he;obtain⟨y,hy,rfl⟩:=Mq.mp he;obtain⟨b1,b2⟩:=wQ (mw ys) keyOk (ys.length - 1);generalize argBest (λi j=>pZ (mw ys i) (mw ys j)) (ys.length - 1)=bi at b1 b2 hy
   have lb:bi < kvs.length:=by omega
   obtain⟨q,hq,f1,f2,_⟩:=r1.at_ (i:=bi) (p:=kvs[bi]) (by simp)
   rw [hy] at hq;cases hq;have kq:=r kvs[bi] (MH lb) λp hp=>by
    obtain⟨x,hx,rfl⟩:=List.mem_iff_getElem.mp hp;obtain⟨q',hq',f1',_⟩:=r1.at_ (i:=x) (p:=kvs[x]) (by simp)
    have z:=b2 x (by omega)
    rw [jw hq',jw hy,<- f1',<- f1] at z;exact z
   have I1:aD X M6 σ H {s with heap:=s.heap.push (rJ "dict_keyiterator" a 0 (ys.map eT).toArray.size ep)}:=I.kept (t':=s.toks) λc o e=>Ly _ e
   refine⟨.ref y.2.1,H,aD.turnedL (s:={s with heap:=s.heap.push (rJ "dict_keyiterator" a 0 (ys.map eT).toArray.size ep)}) (t':=tk) [s.heap.objs.size] I1 far (λc hc=>?_),rfl,m _ S _ H kq (Kp.refl H) hS (nX.mpr ⟨_,rfl,f2⟩)⟩
   have e:c=s.heap.objs.size:=by simpa using hc
   subst e;exact I.fpOk (LD _) (I.hok.fresh (LD _))
 ·exact r.elim
end DL
namespace L2
open PySem PySem.Spec PyProof.Rows
def Hn (p a:MR):MX->Prop:=λh=>h.get? p=some {cls:=.type "dict_values",data:=.fields #[.ref a]}
section
variable {X:Cx} {o:MT} {to:TE} {apos cpos pos p0:Pos}
def IL (to:TE):TE:=fun σ H Q=>to σ H λx H1=>∃ a xs ep,x=.ref a/\H1 a=some (.ext (DL.jZ a xs ep))/\∀ p,H1 p=none->Q (.ref p) (cF H1 p (.ext (Hn p a)))
theorem CB (ho:PE X o to) (hbase:attributeBase o "values" X.env (eval o X.env)=eval o X.env:=by rfl) (hline:(apos.endLine == cpos.line)=true:=by rfl):PE X (.Call (.Attribute o "values" apos) [] [] cpos) (IL to):=by
 intro M6 s σ H Q I h;refine wpAny_Call_method0_late hbase hline (cR (ho M6 s σ H _ I h) λv s1 z9=>?_)
 obtain⟨x,H1,I1,r1,a,xs,ep,ex,e1,q⟩:=z9;subst ex;cases (show v=Value.ref a from r1)
 obtain⟨hd,_,_,g⟩:=DL.bV I1 e1;refine⟨"dict","dict.values",F.plainAttrs_dict,F.slot_dict_values,F.type_dict_values,⟨_,g,rfl⟩,λb e=>by cases e; exact⟨_,g,rfl⟩,Calls.callWith_builtin rfl (PySem.evalArgs_none ?_)⟩
 refine call_meetsIn F.slot_dict_values ⟨_,g,rfl⟩ F.entry_dict_values (F.args_dict_values_1 _) (KG a _ ep hd) ⟨g,?_⟩;have hn:=I1.hok.fresh (LD s1.heap.objs.size);have gp:(s1.heap.push {cls:=.type "dict_values",data:=.fields #[.ref a]}).get? s1.heap.objs.size=some {cls:=.type "dict_values",data:=.fields #[.ref a]}:=LA _ rfl
 exact⟨.ref s1.heap.objs.size,_,I1.laid (o:=.ext (Hn s1.heap.objs.size a)) (t':=s1.toks) (λb o e=>Ly _ e) (LD _) ⟨gp,⟨_,gp⟩,λh1 h2 z k=>k _ z⟩,rfl,q _ hn⟩
theorem BF {P:MU} {w:MW} {p a:MR} {es:MZ M4} {ep:Nat}:PySem.W.KdlSrc P w "dict_values" p a es.size (λi v=>∃ e,es[i]?=some e/\v=oN.of e .v) (λh=>Hn p a h/\h.get? a=some (DL.jY es ep)) where
 type:=λs ok=>⟨_,ok.1,rfl⟩
 there:=λh ok=>⟨LC ok.1,LC ok.2⟩
 keep:=λh h' ok k=>⟨k p (.inl rfl) _ ok.1,k a (.inr rfl) _ ok.2⟩
 notList:=by decide
 notTuple:=by decide
 hint:=λA E s Q ok q=>PySem.W.kdl_hint_values ⟨_,ok.1,rfl⟩ q
 iter:=λA s hh ok=>⟨rJ "dict_valueiterator" a 0 es.size ep,_,λE Q q=>ra ok.1 ok.2 q,uQ .v hh s.heap.objs.size a (LK (LC ok.2)) es ep,⟨LA _ rfl,Ly _ ok.2⟩⟩
def GW:List V->Hp->VK->Prop:=λxs H Q=>∃ p a ys ep vs,xs=[.ref p]/\H p=some (.ext (Hn p a))/\H a=some (.ext (DL.jZ a ys ep))/\aV vs (ys.map (·.2.2))/\∀ q,H q=none->Q (.ref q) (cF H q (.lst vs))
theorem vG (hc:X.calm=true):bW X (.type "list") GW:=by
 intro M6 s σ H xs us Q I rs h;obtain⟨p,a,ys,ep,vs,rfl,e1,e2,rv,q⟩:=h;obtain⟨u,rfl,ru⟩:=gQ rs;cases (show u=Value.ref p from ru)
 have g1:=(I.hok p _ e1).1;obtain⟨_,z,_,g2⟩:=DL.bV I e2;have hn:=I.hok.fresh (LD s.heap.objs.size);have sz:(ys.map DL.eT).toArray.size=ys.length:=by simp
 refine PySem.W.kdl_call (BF (p:=p) (a:=a) (es:=(ys.map DL.eT).toArray) (ep:=ep)) (I.ok.hd hc) ⟨g1,g2⟩ (by rw [sz]; exact z) λh' tk acc' c' kk gn it=>?_
 have ev:acc'.toList=ys.map (·.2.2):=by
  obtain⟨l1,l2⟩:=it;apply List.ext_getElem?;intro i;rw [Array.getElem?_toList,L8];cases q1:acc'[i]? with
  | none=>
   have:acc'.size<=i:=by simpa using q1
   rw [l1,sz] at this;rw [List.getElem?_eq_none this]
   rfl
  | some v=>
   obtain⟨e,he,rfl⟩:=l2 i v q1;simp only [MJ,L8] at he;obtain⟨y,hy,rfl⟩:=Mq.mp he;rw [hy]
   rfl
 have ea:acc'=(ys.map (·.2.2)).toArray:=by rw [<- ev]
 refine⟨.ref s.heap.objs.size,_,I.laid (o:=.lst vs) (t':=tk) kk (LD _) ⟨?_,_,c',rv,by rw [gn,ea]⟩,rfl,q _ hn⟩
 rw [rv.length,LG];exact z
end
end L2
namespace DL
open PySem PySem.Spec PyProof.Rows L2
theorem kL.vals {K:Fg} {H:Hp}:∀ {kvs:List (List Int×D)} {xs:List (List Int×MR×MQ)},kL K H kvs xs->∃ vs,aV vs (xs.map (·.2.2))/\IsDs K H (kvs.map (·.2)) vs
 | _,_,.nil=>⟨[],.nil,IsDs.nil⟩
 | _,_,.cons ⟨_,_,v,h3,h4⟩ t=>by
  obtain⟨vs,a,b⟩:=kL.vals t;exact⟨v::vs,.cons h3 a,IsDs.cons h4 b⟩
def Hb (go:DE):DE:=λL S k=>go L S λd S1=>match d with
 | .ref a=>∃ kvs ep,S1 a=some (.gen (.dT kvs ep))/\∀ p,S1 p=none->k (.ref p) (put S1 p (.lst (kvs.map (·.2))))
 | _=>False
theorem zq {X:Cx} {o:MT} {go:DE} {apos cpos pos p0:Pos} (hc:X.calm=true) (hg:Gl X "list") (hm:X.mg "list"=none) (ho:EJ X o go) (hbase:attributeBase o "values" X.env (eval o X.env)=eval o X.env:=by rfl) (hline:(apos.endLine == cpos.line)=true:=by rfl):
  EJ X (.Call (.Name "list" p0) [.Call (.Attribute o "values" apos) [] [] cpos] [] pos) (Hb go):=
 ⟨PE.imp (nG (vG hc) hg hm (by decide +kernel) (mO (CB ho.h hbase hline) pO rfl)) fun σ H Q ⟨L,S,k,hL,hS,h,n⟩=>up.go hL hS h λd S1 v H1 h1 k1 hL1 hS1 i1=>by
  cases d with
  | ref a=>
   obtain⟨kvs,ep,g1,h1⟩:=h1;obtain⟨xs,e1,r1⟩:=hS1.dT g1;have ex:=aS.mp i1;subst ex;refine⟨a,xs,ep,rfl,e1,λp hp=>?_⟩
   obtain⟨vs,q1,q2⟩:=r1.vals;have kn:Kp H1 (cF H1 p (.ext (Hn p a))):=Kp.new hp;have na:a≠p:=cc e1 hp;refine⟨p,a,xs,ep,vs,rfl,bJ,by rw [aO na]; exact e1,q1,λq hq=>?_⟩
   have hS2:Hs X.K (cF H1 p (.ext (Hn p a))) S1:=hS1.new hp;exact n _ _ _ _ (h1 q (hS2.free hq)) ((k1.trans kn).trans (Kp.new hq)) (hS2.newL hq (q2.kp kn)) (aS.mpr rfl)
  | _=>exact(show False from h1).elim⟩
end DL
namespace PySem
namespace F
theorem args_max1K (a d:MQ):argsOk "max" ⟨[a],[("default",d)]⟩:=by unfold argsOk; kernel_rfl
end F
section
variable {prog:MU} {w:MW} {A:MV} {E:MQ->MP->Prop}
theorem Bk {s:MP} {id:M3} {b:Builtin} {args:List MQ} {kw:List (Str×MQ)} {Q:MQ->MP->Prop} (hk:builtinKind id=none) (hp:plainId id=true) (hb:entryFor table id=some b) (ha:argsOk id ⟨args,kw⟩)
  (hc:wpAny (model prog w) A.in1 (b ⟨args,kw⟩) (λfin s'=>match fin with
   | .done f=>(match (Except.ok f:Result) with | .ok (.ret v)=>Q v s' | .ok _=>False | .error e=>E e s')
   | .again c'=>c'.quiet=true/\codeAny (model prog w) A c' (λr s'=>match r with | .ok (.ret v)=>Q v s' | .ok _=>False | .error e=>E e s') s') E s):
  wpAny (model prog w) A (call (.builtin id) args kw) Q E s:=by
 refine wpAny_call (codeAny_call_builtin hp hb ?_);unfold checkBuiltinCall;rw [hk];unfold argsOk at ha;dsimp only
 split at ha
 ·rename_i sg eg
  rw [eg];exact wpAny_of_eq ha hc
 ·rename_i eg
  rw [eg];exact Lz hc
theorem DF {I S:MR} {fp wr:List MR} {n:Nat} {P:Nat->MQ->Prop} {St:Nat->MX->Prop} {R:Result->MP->Prop} {kw:List (Str×MQ)} (W:Walks prog w A.in1 I fp wr n P St) (bt:Nat->Nat->M1) (hS:S∉fp) (cmp:CmpOf prog w A.in1 .Gt P bt):
  ∀ (k j:Nat) (s:MP) (vb:MQ) (c:Nat),n - (j+1)=k->j+1<=n->St (j+1) s.heap->P (argBest bt j) vb->s.heap.get? S=some {cls:=.type "list",dict:=none,data:=.seq #[vb,vb] c,slots:=#[]}->
  (∀ v h' tk,P (argBest bt (n - 1)) v->(∀ b o,b∉wr->b≠S->s.heap.get? b=some o->h'.get? b=some o)->R (.ok (.ret v)) {s with heap:=h',toks:=tk})->codeAny (model prog w) A (.builtin "max.loop" ⟨[.ref I,.none,.ref S],kw⟩) R s:=by
 have nw:S∉wr:=λz=>hS (W.sub _ z)
 have nm:((toString "max"++toString ".loop":M3))="max.loop":=by decide
 intro k
 induction k with
 | zero=>
  intro j s vb c hk hj st pb gS fin;have ej:n=j+1:=by omega
  refine Mc F.entry_max_loop ?_;rw [LZ L9 _];refine gt (m:=seqItems? (.ref S)) (Mb gS rfl (gt (MD (m:=pyNext (.ref I)) (W.done s _ _ (by rw [ej]; exact st) λh' tk far=>?_))))
  have g1:=far S _ nw gS;refine gt (m:=updateSeq S λ_=>#[]) (wpAny_updateSeq g1 rfl (gt (MG (Lz (fin vb _ tk (by rw [ej]; exact pb) λb o n1 n2 x=>?_)))))
  exact(L_ _ _ (Ne.symm n2)).trans (far b o n1 x)
 | succ k ih=>
  intro j s vb c hk hj st pb gS fin;have lt:j+1 < n:=by omega
  refine Mc F.entry_max_loop ?_;rw [LZ L9 _];refine gt (m:=seqItems? (.ref S)) (Mb gS rfl (gt (MD (m:=pyNext (.ref I)) (W.item (j+1) s _ _ lt st λv h' tk pv st1 far=>?_))))
  have g1:=far S _ nw gS;refine gt (Lz (gt (MD (L5 (gt (m:=richCompare .Gt v vb) (cmp (j+1) (argBest bt j) v vb _ _ _ pv pb (gt (L5 (wpAny_truthy_bool (gt (MG (Lz ?_))))))))))))
  by_cases hb:bt (j+1) (argBest bt j)=true
  ·rw [hb,if_pos rfl];refine gt (m:=updateSeq S λ_=>#[v,v]) (wpAny_updateSeq g1 rfl (gt (MG ?_)))
   have oth:∀ b o,b≠S->h'.get? b=some o->(h'.update S (Obj.mapSeq λ_=>#[v,v])).get? b=some o:=λb o n2 x=>(L_ _ _ (Ne.symm n2)).trans x
   rw [nm];refine Lz ⟨plainId_quiet L9 _,ih (j+1) _ v _ (by omega) lt (W.frame _ _ _ st1 λb hb' o x=>oth b o (λz=>hS (z▸hb')) x) (by unfold argBest; rw [hb,if_pos rfl]; exact pv) (Mm _ g1 rfl) λu h2 tk2 pu far2=>?_⟩
   exact fin u h2 tk2 pu λb o n1 n2 x=>far2 b o n1 n2 (oth b o n2 (far b o n1 x))
  ·have hb':bt (j+1) (argBest bt j)=false:=by simpa using hb
   rw [hb',if_neg LH];refine gt (MG ?_);rw [nm];refine Lz ⟨plainId_quiet L9 _,ih (j+1) _ vb c (by omega) lt st1 (by unfold argBest; rw [hb',if_neg LH]; exact pb) g1 λu h2 tk2 pu far2=>?_⟩
   exact fin u h2 tk2 pu λb o n1 n2 x=>far2 b o n1 n2 (far b o n1 x)
theorem CH {x d:MQ} {s:MP} {Q:MQ->MP->Prop} (h:wpAny (model prog w) A.in1 (pyIter x) (λit s2=>∃ I fp wr n P St bt,it=.ref I/\Walks prog w A.in1 I fp wr n P St/\St 0 s2.heap/\(∀ b∈fp,b < s2.heap.objs.size)/\CmpOf prog w A.in1 .Gt P bt/\
   (0 < n->∀ v h' tk,P (argBest bt (n - 1)) v->(∀ b o,b∉wr->s2.heap.get? b=some o->h'.get? b=some o)->Q v {s2 with heap:=h',toks:=tk})/\
   (n=0->∀ h' tk,(∀ b o,b∉wr->s2.heap.get? b=some o->h'.get? b=some o)->Q d {s2 with heap:=h',toks:=tk})) E s):wpAny (model prog w) A (call (.builtin "max") [x] [("default",d)]) Q E s:=by
 have nm:((toString "max"++toString ".loop":M3))="max.loop":=by decide
 refine Bk F.kind_max F.plain_max F.entry_max (F.args_max1K _ _) (gt (m:=Builtin.Builtins.bindParams "max" ["key","default"] 0 ⟨[],[("default",d)]⟩) (wpAny_of_eq (a:=[none,some d]) rfl (gt (Lz (gt (Mg h (λit s2 h2=>?_) λ_ _ e=>e))))))
 obtain⟨I,fp,wr,n,P,St,bt,rfl,W,st,below,cmp,fin,fin0⟩:=h2;refine gt (L7 ?_);have hS:s2.heap.objs.size∉fp:=λm=>Mz _ (below _ m)
 have nw:s2.heap.objs.size∉wr:=λm=>hS (W.sub _ m)
 have kp:∀ b o,s2.heap.get? b=some o->(s2.heap.push {cls:=.type "list",data:=.seq #[]}).get? b=some o:=λb o x=>Ly _ x
 have gS:(s2.heap.push {cls:=.type "list",data:=.seq #[]}).get? s2.heap.objs.size=some {cls:=.type "list",dict:=none,data:=.seq #[] 0,slots:=#[]}:=LA _ rfl
 have st0:=W.frame 0 _ _ st λb _ o x=>kp b o x
 rw [nm];refine Lz ⟨plainId_quiet L9 _,Mc F.entry_max_loop ?_⟩;rw [LZ L9 _]
 by_cases n0:0 < n
 ·refine gt (m:=seqItems? (.ref s2.heap.objs.size)) (Mb gS rfl (gt (MD (m:=pyNext (.ref I)) (W.item 0 _ _ _ n0 st0 λv h' tk pv st1 far=>?_))))
  have g1:=far _ _ nw gS;have oth:∀ b o,b≠s2.heap.objs.size->h'.get? b=some o->(h'.update s2.heap.objs.size (Obj.mapSeq λ_=>#[v,v])).get? b=some o:=λb o n2 x=>(L_ _ _ (Ne.symm n2)).trans x
  refine gt (Lz (gt (m:=updateSeq s2.heap.objs.size λ_=>#[v,v]) (wpAny_updateSeq g1 rfl ?_)))
  rw [nm];refine Lz ⟨plainId_quiet L9 _,DF W bt hS cmp _ 0 _ v _ rfl n0 (W.frame _ _ _ st1 λb hb o x=>oth b o (λz=>hS (z▸hb)) x) pv (Mm _ g1 rfl) λu h2 tk2 pu far2=>?_⟩
  exact fin n0 u h2 tk2 pu λb o n1 x=>by
   have nb:b≠s2.heap.objs.size:=LK (LC x);exact far2 b o n1 nb (oth b o nb (far b o n1 (kp b o x)))
 ·have e0:n=0:=by omega
  refine gt (m:=seqItems? (.ref s2.heap.objs.size)) (Mb gS rfl (gt (MD (m:=pyNext (.ref I)) (W.done _ _ _ (by rw [e0]; exact st0) λh' tk far=>?_))))
  have q:=fin0 e0 h' tk λb o n1 x=>far b o n1 (kp b o x)
  repeat (any_goals (first | assumption | wp_step))
end
end PySem
namespace L2
open PySem PySem.Spec PyProof.Rows
section
variable {X:Cx}
def EK (X:Cx) (f:MQ) (nm:Str) (r:List V->V->Hp->VK->Prop):Prop:=
 ∀ (M6:List (MR×M5)) (s:MP) (σ:St) (H:Hp) (xs:List V) (us:List MQ) (d:V) (u:MQ) (Q:VK),aD X M6 σ H s->aV xs us->aP d u->r xs d H Q->wpAny (model X.prog X.w) X.A (call f us [(nm,u)]) (EP X M6 σ Q) X.xe s
theorem yb (hc:X.calm=true):EK X (.builtin "max") "default" (λxs d H Q=>∃ (p:MR) (ns:List Int),xs=[.ref p]/\ic X.K H p (ns.map V.int)/\(ns=[]->Q d H)/\∀ m:Int,m∈ns->(∀ x∈ns,x<=m)->Q (.int m) H):=by
 intro M6 s σ H xs us d ud Q I r rd h;obtain⟨p,ns,rfl,hq,q0,q⟩:=h;obtain⟨u,rfl,rx⟩:=gQ r;cases rx;obtain⟨its,rv,pl,hz⟩:=I.list hq;have hl:=rv.length;rw [LG] at hl;have hlt:=pl.lt;have hh:X.A.in1.handled=none:=I.ok.hd hc;have hv:∀ i v,its.toArray[i]?=some v->∃ t,v=Value.int (ns.getD i 0) t:=λi v h=>j_ (i:=i) (v:=v) rv (by rw [MJ] at h; exact h)
 refine CH (wpAny_pyIter_list pl.isList ?_);refine⟨s.heap.objs.size,_,_,_,_,_,λi j=>decide (ns.getD i 0 > ns.getD j 0),rfl,Walks.list hh s.heap.objs.size p (LK hlt) its.toArray,⟨⟨_,LA _ rfl,rfl,rfl⟩,Heap.IsList.at pl.isList λo e=>Ly _ e⟩,uW hlt,CmpOf.ints_gt _ hv,λn0 v h' tk hP kk=>?_,λn0 h' tk kk=>?_⟩
 ·rw [LI,<- hl] at hP n0
  obtain⟨t,rfl⟩:=hv _ _ hP;obtain⟨b1,b2⟩:=pP (λi=>ns.getD i 0) (ns.length - 1)
  have hm:ns.getD (argBest (λi j=>decide (ns.getD i 0 > ns.getD j 0)) (ns.length - 1)) 0∈ns:=by
   have hlt2:argBest (λi j=>decide (ns.getD i 0 > ns.getD j 0)) (ns.length - 1) < ns.length:=by omega
   rw [Md,L6 hlt2];exact MH hlt2
  refine kF I (show aP (.int _) (.int _ t) from⟨t,rfl⟩) (q _ hm λx hx=>?_) h' tk kk
  obtain⟨i,hi,rfl⟩:=List.mem_iff_getElem.mp hx;have:=b2 i (by omega)
  rw [Md,L6 hi] at this;exact this
 ·rw [LI,<- hl] at n0;exact kF I rd (q0 (MN.mp n0)) h' tk kk
theorem yl {x nm:Str} {p pos kp:Pos} {e ed:MT} {es:List MT} {t:TA} {id:M3} {td:TE} {r:List V->V->Hp->VK->Prop} (hc:EK X (.builtin id) nm r) (hg:Gl X x) (hm:X.mg x=none) (hv:bootBuiltins x=some (.builtin id)) (ha:PA X (e::es) t) (hd:PE X ed td) (hn:x≠"__name__":=by decide) (hdb:(x == ("__debug__":Str))=false:=by decide)
  (he:backTo pos (starEach (e::es) X.env)=(false,eval e X.env)::backTo pos (starEach es X.env):=by rfl) (hpl:(backTo pos (starEach (e::es) X.env)).any (·.1)=false:=by rfl):
  PE X (.Call (.Name x p) (e::es) [⟨some nm,ed,kp⟩] pos) (fun σ H Q=>t σ H λxs H1=>td σ H1 λd H2=>r xs d H2 Q):=by
 intro M6 s σ H Q I h;refine wpAny_Call_Name_kw (lB I hg hm hv ?_ hn hdb);refine callWith_kw (cR (ha pos M6 s σ H _ I h) λus s1 ⟨vs,H1,I1,r1,q1⟩=>kws_cons (cR (hd M6 s1 σ H1 _ I1 q1) λu s2 ⟨d,H2,I2,r2,q2⟩=>kws_nil ?_)) he hpl
 exact hc M6 s2 σ H2 vs us d u Q I2 r1 r2 q2
end
theorem yB {X:Cx} (hc:X.calm=true):bW X (.builtin "sum") (λxs H Q=>∃ (p:MR) (ns:List Int),xs=[.ref p]/\ja X.K H p (ns.map V.int)/\(∀ j,j < ns.length->InLong (ns.getD j 0)/\InLong (preSum (λi=>ns.getD i 0) (j+1)))/\Q (.int (preSum (λi=>ns.getD i 0) ns.length)) H):=by
 intro M6 s σ H xs us Q I r h;obtain⟨p,ns,rfl,hq,hn,q⟩:=h;obtain⟨u,rfl,rx⟩:=gQ r;cases rx;obtain⟨its,rv,pl,hz⟩:=I.tuple hq;have hl:=rv.length;rw [LG] at hl;have hlt:p < s.heap.objs.size:=by obtain⟨o,h1,_⟩:=pl; exact LC h1
 have hh:X.A.in1.handled=none:=I.ok.hd hc;have hv:∀ i v,its.toArray[i]?=some v->∃ t,v=Value.int (ns.getD i 0) t:=λi v h=>j_ (i:=i) (v:=v) rv (by rw [MJ] at h; exact h)
 refine call_sum_walk (wpAny_pyIter_tuple (show s.heap.IsTuple p its.toArray from pl) ?_)
 refine⟨s.heap.objs.size,_,_,_,_,_,λi=>ns.getD i 0,rfl,Walks.tuple hh s.heap.objs.size p (LK hlt) its.toArray,⟨⟨_,LA _ rfl,rfl,rfl⟩,Heap.IsTuple.at pl λo e=>Ly _ e⟩,uW hlt,hv,by rw [LI,<- hl]; exact hn,λh' tk t' kk=>?_⟩
 rw [LI,<- hl];exact kF I (show aP (.int _) (.int _ t') from⟨t',rfl⟩) q h' tk kk
end L2
namespace DL
open PySem PySem.Spec PyProof.Rows L2
def B8:cH:=λds S k=>match ds with
 | [.tup xs]=>∃ ns:List Int,xs=ns.map D.int/\(∀ j,j < ns.length->InLong (ns.getD j 0)/\InLong (preSum (λi=>ns.getD i 0) (j+1)))/\k (.int (preSum (λi=>ns.getD i 0) ns.length)) S
 | ds=>A5 ds S k
theorem sE {X:Cx} (hc:X.calm=true:=by rfl):bW X (.builtin "sum") (pB X.K B8):=by
 intro M6 s σ H xs us Q I rs h;obtain⟨ds,S,k,i,hS,r,n⟩:=h;unfold B8 at r
 split at r
 ·obtain⟨x,rfl,i1⟩:=dM i;obtain⟨a,vs,rfl,t,j⟩:=bY.mp i1;obtain⟨ns,rfl,hl,r⟩:=r;have e:=fj j;subst e;exact yB hc M6 s σ H _ us Q I rs ⟨_,ns,rfl,t,hl,n _ _ _ _ r (Kp.refl H) hS (isInt.mpr rfl)⟩
 ·exact E4 hc M6 s σ H xs us Q I rs ⟨_,S,k,i,hS,r,n⟩
def Il (t:DA):DE:=λL S k=>t L S λds S1=>match ds with
 | [.ref a]=>∃ ns:List Int,S1 a=some (.lst (ns.map D.int))/\(ns=[]->k .non S1)/\∀ m:Int,m∈ns->(∀ x∈ns,x<=m)->k (.int m) S1
 | _=>False
section
variable {X:Cx} {x:Str} {p pos kp:Pos} {e ed:MT} {t:DA}
theorem DQ (hg:Gl X x) (hm:X.mg x=none) (hv:bootBuiltins x=some (.builtin "max")) (ha:AJ X [e] t) (hd:EJ X ed (dC .non)) (hc:X.calm=true:=by rfl) (hn:x≠"__name__":=by decide) (hdb:(x == ("__debug__":Str))=false:=by decide)
  (he:backTo pos (starEach [e] X.env)=(false,eval e X.env)::backTo pos (starEach [] X.env):=by rfl) (hpl:(backTo pos (starEach [e] X.env)).any (·.1)=false:=by rfl):
  EJ X (.Call (.Name x p) [e] [⟨some "default",ed,kp⟩] pos) (Il t):=
 ⟨PE.imp (yl (yb hc) hg hm hv ha.h hd.h hn hdb he hpl) fun σ H Q z9=>by obtain⟨L,S,k,hL,hS,h,n⟩:=z9; exact uC.go hL hS h λds S1 vs H1 h1 k1 hL1 hS1 i1=>⟨L,S1,λd S2=>d=.non/\S2=S1,hL1,hS1,⟨rfl,rfl⟩,λd S2 v H2 ⟨e1,e2⟩ k2 hS2 i2=>by
  subst e1 e2
  split at h1
  ·rename_i a
   obtain⟨ns,z,r0,r⟩:=h1;obtain⟨x,rfl,j1⟩:=dM (i1.kp k2);have e1:=aS.mp j1;subst e1;obtain⟨vs,q1,j⟩:=hS2.lst z;have e:=fj j;subst e;exact⟨_,ns,rfl,ic.of q1,λe0=>n _ _ _ _ (r0 e0) (k1.trans k2) hS2 i2,λm a1 a2=>n _ _ _ _ (r m a1 a2) (k1.trans k2) hS2 (isInt.mpr rfl)⟩
  ·exact h1.elim⟩⟩
end
def CZ:D2:=λd e S k=>match d,e with
 | .ref a,.ref c=>∃ xs ys b,S a=some (.lst xs)/\S c=some (.lst ys)/\((xs.length=ys.length/\jB (kW 7) xs ys=some b)\/(xs.length≠ys.length/\b=false))/\k (.bl b) S
 | d,e=>∃ b,kW 8 d e=some b/\k (.bl b) S
theorem zQ {X:Cx} {M6:List (MR×M5)} {σ:L2.St} {H:Hp} {s:MP} {S:DH} {a c:MR} {xs ys:List D} (I:aD X M6 σ H s) (hS:Hs X.K H S) (h1:S a=some (.lst xs)) (h2:S c=some (.lst ys)) (hl:xs.length≠ys.length) (A:MV) (hu:A.units < cLine):
  SeqAt.RcAt A s (.ref a) (.ref c) false:=by
 obtain⟨v1,g1,j1⟩:=hS.lst h1;obtain⟨v2,g2,j2⟩:=hS.lst h2;obtain⟨u1,r1,p1,_⟩:=I.list (ic.of g1);obtain⟨u2,r2,p2,_⟩:=I.list (ic.of g2);refine SeqAt.RcAt.lists_lengths p1.isList p2.isList ?_ hu;have e1:=j1.length.trans r1.length;have e2:=j2.length.trans r2.length;simp only [LI,bne_iff_ne,ne_eq];omega
theorem ue {X:Cx} {n:Nat} (hr:cI n X.A):fQ X (compareOp .Eq) (jP X.K CZ):=by
 intro M6 s σ H x y v u Q I rx ry h;obtain⟨d,e,S,k,i1,i2,hS,r,m⟩:=h;have hu:=hr.units;unfold CZ at r
 split at r
 ·obtain⟨xs,ys,b,h1,h2,h3,w⟩:=r;rcases h3 with ⟨h3,h4⟩ | ⟨h3,rfl⟩
  ·exact Ed hr M6 s σ H x y v u Q I rx ry ⟨_,_,S,k,i1,i2,hS,⟨xs,ys,b,h1,h2,h3,h4,w⟩,m⟩
  ·have e1:=aS.mp i1;have e2:=aS.mp i2;subst e1 e2;cases rx;cases ry;exact(zQ I hS h1 h2 h3 X.A (by omega)) X.prog X.w X.xe _ ⟨.bl false,H,I,rfl,lL m hS w (cg.mpr rfl)⟩
 ·rename_i hn
  obtain⟨b,h1,w⟩:=r;refine Ed hr M6 s σ H x y v u Q I rx ry ⟨_,_,S,k,i1,i2,hS,?_,m⟩;unfold G3
  split
  ·rename_i a c
   exact(hn a c rfl rfl).elim
  ·exact⟨b,h1,w⟩
def B5:D2:=λd e S k=>match d,e with
 | .non,.tup _=>k (.bl true) S
 | .tup _,.non=>k (.bl true) S
 | d,e=>FT d e S k
theorem Aw {X:Cx} {n:Nat} (hr:cI n X.A):fQ X (compareOp .NotEq) (jP X.K B5):=by
 intro M6 s σ H x y v u Q I rx ry h;obtain⟨d,e,S,k,i1,i2,hS,r,m⟩:=h;have hu:=hr.units;unfold B5 at r
 split at r
 ·obtain⟨a,vs,rfl,t,j⟩:=bY.mp i2;have e1:=di.mp i1;subst e1;cases rx;cases ry;obtain⟨its,_,p,_⟩:=I.tuple t;exact SeqAt.RcNeAt.none_tuple p (by omega) X.prog X.w X.xe _ ⟨.bl true,H,I,rfl,lL m hS r (cg.mpr rfl)⟩
 ·obtain⟨a,vs,rfl,t,j⟩:=bY.mp i1;have e1:=di.mp i2;subst e1;cases rx;cases ry;obtain⟨its,_,p,_⟩:=I.tuple t;exact SeqAt.RcNeAt.tuple_none p (by omega) X.prog X.w X.xe _ ⟨.bl true,H,I,rfl,lL m hS r (cg.mpr rfl)⟩
 ·exact D_ hr M6 s σ H x y v u Q I rx ry ⟨_,_,S,k,i1,i2,hS,r,m⟩
end DL
namespace PySem
open Builtin DL
def JF (A:MV) (s:MP) (ys:List (List Int×MR×MQ)):List (List Int×MR×MQ)->M1->Prop
 | [],r=>r=true
 | x::xs,r=>(atKey ys x.1=none/\r=false)\/∃ p e r',atKey ys x.1=some p/\SeqAt.EqAt A s x.2.2 p.2 e/\JF A s ys xs r'/\r=(e && r')
section
variable {prog:MU} {w:MW} {A:MV} {E:MQ->MP->Prop}
theorem IB {nm:M3} {a b:MR} {s:MP} {xs ys:List (List Int×MR×MQ)} {ep ep':Nat} {r:M1} {Q:M1->MP->Prop} (ha:(a == sysModules)=false) (hb:(b == sysModules)=false) (ga:s.heap.get? a=some (jY (xs.map eT).toArray ep)) (gb:s.heap.get? b=some (jY (ys.map eT).toArray ep'))
  (ka:∀ x∈xs,(tupleKind (intKind prog w)).is s.heap x.1 x.2.1) (kb:∀ x∈ys,(tupleKind (intKind prog w)).is s.heap x.1 x.2.1) (nb:(ys.map (·.1)).Nodup) (hu:(tupleKind (intKind prog w)).room A) (len:xs.length=ys.length) (hit:JF A s ys xs r) (h:Q r s):
  wpAny (model prog w) A (Builtin.Dict.samePairs nm a b) Q E s:=by
 have na:¬ (a == sysModules)=true:=by rw [ha]; decide
 have nb':¬ (b == sysModules)=true:=by rw [hb]; decide
 unfold Builtin.Dict.samePairs Builtin.Dict.showsAll;rw [if_neg na,if_neg nb'];refine gt (Lz (gt (Lz (gt (Mt ga rfl ?_)))));dsimp only;refine gt (Mt gb rfl ?_);have sz:(xs.map eT).toArray.size=(ys.map eT).toArray.size:=by simp [len]
 rw [if_neg (by rw [sz]; simp)]
 refine gt (wpAny_dictEpoch ga rfl (gt ?_));rw [Std.Legacy.Range.forIn_eq_forIn_range'];have sz2:(xs.map eT).toArray.size=xs.length:=by simp
 simp only [Std.Legacy.Range.size,Nat.sub_zero,Nat.add_sub_cancel,Nat.div_one,sz2];refine wpAny_forIn_list _ (λam q s'=>s'=s/\q=(none,())/\∃ pre suf,xs=pre++suf/\am=List.range' pre.length suf.length/\JF A s ys suf r) _ ?_ ?_ _ _ ⟨rfl,rfl,[],xs,rfl,rfl,hit⟩
 ·rintro i am q s' ⟨rfl,rfl,pre,suf,ex,er,ht⟩;cases suf with
  | nil=>cases er
  | cons x suf=>
   rw [LQ,List.range'_succ] at er;injection er with e1 e2
   subst e1;have gx:(xs.map eT).toArray[pre.length]?=some (eT x):=by simp [ex]
   refine gt (Mt ga rfl ?_);rw [gx];have mx:x∈xs:=by rw [ex]; simp
   refine gt (L5 (gt (wpAny_dictFind_heap (knd:=tupleKind (intKind prog w)) (k:=x.1) (a:=x.2.1) (xs:=ys) hu (ka x mx) gb rfl rfl kb nb (λno=>?_) (λj p hj=>?_))))
   ·rcases ht with ⟨_,er⟩ | ⟨p,e,r',hp,_⟩
    ·subst er;exact Lz (Lz (Lz h))
    ·rw [atKey_none_of_get no] at hp;cases hp
   ·rcases ht with ⟨hn,_⟩ | ⟨p',e,r',hp,he,ht',er⟩
    ·rw [atKey_of_get nb hj] at hn;cases hn
    ·rw [atKey_of_get nb hj] at hp;cases hp;have gy:(ys.map eT).toArray[j]?=some (eT (x.1,p)):=by simp [hj]
     refine gt (Mt gb rfl ?_);rw [gy];refine L5 (he prog w _ _ ?_);cases e with
     | false=>
      rw [Bool.false_and] at er;subst er;exact Lz (Lz h)
     | true=>
      rw [Bool.true_and] at er;subst er;refine gt (wpAny_dictEpoch ga rfl ?_);rw [if_neg (by simp)]
      exact Lz ⟨rfl,rfl,pre++[x],suf,by rw [ex]; simp,by simp [e2],ht'⟩
 ·rintro q s' ⟨rfl,rfl,pre,suf,ex,er,ht⟩;cases suf with
  | cons x suf=>rw [LQ,List.range'_succ] at er; cases er
  | nil=>
   have ht:r=true:=ht;subst ht;exact Lz h
end
end PySem
namespace DL
open PySem PySem.Spec PyProof.Rows L2
def Cv (kvs':List (List Int×D)):List (List Int×D)->M1->Prop
 | [],r=>r=true
 | p::ps,r=>(de kvs' p.1=none/\r=false)\/∃ d e r',de kvs' p.1=some d/\kW 6 p.2 d=some e/\Cv kvs' ps r'/\r=(e && r')
section
variable {X:Cx} {M6:List (MR×M5)} {σ:L2.St} {H:Hp} {s:MP}
theorem BR (I:aD X M6 σ H s) {A:MV} (hu:A.units+6 < cLine) {kvs':List (List Int×D)} {ys:List (List Int×MR×MQ)} (r2:kL X.K H kvs' ys):∀ {kvs:List (List Int×D)} {xs:List (List Int×MR×MQ)} {r:M1},kL X.K H kvs xs->Cv kvs' kvs r->JF A s ys xs r
 | _,_,_,.nil,h=>h
 | p::ps,q::qs,r,.cons c t,h=>by
  obtain⟨e1,_,v,rv,iv⟩:=c;rcases h with ⟨hn,er⟩ | ⟨d,e,r',hd,he,ht,er⟩
  ·rcases r2.get p.1 with ⟨_,g⟩ | ⟨_,_,_,_,g,_⟩
   ·exact .inl ⟨by rw [<- e1]; exact g,er⟩
   ·rw [hn] at g;cases g
  ·rcases r2.get p.1 with ⟨g,_⟩ | ⟨d',b,u,v2,g,hp,rv2,iv2⟩
   ·rw [hd] at g;cases g
   ·rw [hd] at g;cases g;exact .inr ⟨(b,u),e,r',by rw [<- e1]; exact hp,(qb I 6 A p.2 d v v2 q.2.2 u e hu he iv iv2 rv rv2).1,BR I hu r2 t ht,er⟩
end
end DL
namespace PySem
open Builtin DL
section
variable {prog:MU} {w:MW} {A:MV} {E:MQ->MP->Prop}
theorem HY {a b:MR} {s:MP} {r:M1} {Q:MQ->MP->Prop} (T1:s.TypeIs (.ref a) "dict") (T2:s.TypeIs (.ref b) "dict") (hu:A.units < cLine) (sp:∀ (Q':M1->MP->Prop),Q' r s->wpAny (model prog w) A.in1 (Builtin.Dict.samePairs "dict.__eq__" a b) Q' E s) (h:Q (.bool r) s):
  wpAny (model prog w) A (compareOp .Eq (.ref a) (.ref b)) Q E s:=by
 refine wpAny_richCompare_same_room (op:=.Eq) T1 T2 F.slot_dict_eq (wpAny_call_entry F.slot_dict_eq T1 F.entry_dict_eq ?_ (F.args_dict_eq_2 _ _)) hu;refine gt (m:=Builtin.Dict.dictSlotArgs "__eq__" ⟨[.ref a,.ref b],[]⟩) ?_
 unfold Builtin.Dict.dictSlotArgs;refine gt (wpAny_notOrdered_dict T1 (Lz (gt (wpAny_isInstance (T:="dict") T2 F.sub_dict_dict ?_))))
 rw [if_neg (by decide)]
 refine gt (Lz (gt (Lz (gt (sp _ ?_)))));exact Lz ⟨_,rfl,(by intro z; cases z),by cases r <;> exact h⟩
theorem Jg {a b:MR} {s:MP} {r:M1} {Q:MQ->MP->Prop} (T1:s.TypeIs (.ref a) "dict") (T2:s.TypeIs (.ref b) "dict") (hu:A.units < cLine) (sp:∀ (Q':M1->MP->Prop),Q' r s->wpAny (model prog w) A.in1 (Builtin.Dict.samePairs "dict.__ne__" a b) Q' E s) (h:Q (.bool (!r)) s):
  wpAny (model prog w) A (compareOp .NotEq (.ref a) (.ref b)) Q E s:=by
 refine wpAny_richCompare_same_room (op:=.NotEq) T1 T2 F.slot_dict_ne (wpAny_call_entry F.slot_dict_ne T1 F.entry_dict_ne ?_ (F.args_dict_ne_2 _ _)) hu;refine gt (m:=Builtin.Dict.dictSlotArgs "__ne__" ⟨[.ref a,.ref b],[]⟩) ?_
 unfold Builtin.Dict.dictSlotArgs;refine gt (wpAny_notOrdered_dict T1 (Lz (gt (wpAny_isInstance (T:="dict") T2 F.sub_dict_dict ?_))))
 rw [if_neg (by decide)]
 refine gt (Lz (gt (Lz (gt (sp _ ?_)))));exact Lz ⟨_,rfl,(by intro z; cases z),by cases r <;> exact h⟩
theorem FS {nm:M3} {a b:MR} {s:MP} {es es':MZ M4} {ep ep':Nat} {Q:M1->MP->Prop} (ha:(a == sysModules)=false) (hb:(b == sysModules)=false) (ga:s.heap.get? a=some (jY es ep)) (gb:s.heap.get? b=some (jY es' ep')) (n:es.size≠es'.size) (h:Q false s):
  wpAny (model prog w) A (Builtin.Dict.samePairs nm a b) Q E s:=by
 have na:¬ (a == sysModules)=true:=by rw [ha]; decide
 have nb':¬ (b == sysModules)=true:=by rw [hb]; decide
 unfold Builtin.Dict.samePairs Builtin.Dict.showsAll;rw [if_neg na,if_neg nb'];refine gt (Lz (gt (Lz (gt (Mt ga rfl ?_)))));dsimp only;refine gt (Mt gb rfl ?_);rw [if_pos (by simpa using n)]
 exact gt (wpAny_rule (Lz h))
end
end PySem
namespace DL
open PySem PySem.Spec PyProof.Rows L2
theorem wf {p q:MU} {u v:MW}:∀ {k:List Int} {l:List MQ},PySem.ItemsAre (intKind p u) k l->PySem.ItemsAre (intKind q v) k l:=by
 intro k l h
 induction h with
 | nil=>exact .nil
 | cons a _ ih=>exact .cons a ih
def Hu (kvs kvs':List (List Int×D)) (r:M1):Prop:=(kvs.length≠kvs'.length/\r=false)\/(kvs.length=kvs'.length/\Cv kvs' kvs r)
section
variable {X:Cx} {M6:List (MR×M5)} {σ:L2.St} {H:Hp} {s:MP}
theorem Ee (I:aD X M6 σ H s) {S:DH} (hS:Hs X.K H S) {a b:MR} {kvs kvs':List (List Int×D)} {ep ep':Nat} {r:M1} {A:MV} (hu:A.units+7 < cLine) (g1:S a=some (.gen (.dT kvs ep))) (g2:S b=some (.gen (.dT kvs' ep'))) (h:Hu kvs kvs' r) {nm:M3} {E:MQ->MP->Prop} {prog:MU} {w:MW}:
  ∀ (Q':M1->MP->Prop),Q' r s->wpAny (model prog w) A.in1 (Builtin.Dict.samePairs nm a b) Q' E s:=λQ' hq=>by
 obtain⟨xs,w1,r1⟩:=hS.dT g1;obtain⟨ys,w2,r2⟩:=hS.dT g2;obtain⟨hd1,_,n1,t1⟩:=bV I w1;obtain⟨hd2,_,n2,t2⟩:=bV I w2;have l1:=r1.length;have l2:=r2.length;rcases h with ⟨hl,rfl⟩ | ⟨hl,ht⟩
 ·exact FS hd1 hd2 t1 t2 (by simp; omega) hq
 ·obtain⟨_,_,_,_,_,_,_,k1,_⟩:=pV I w1 r1;obtain⟨_,_,_,_,_,_,_,k2,_⟩:=pV I w2 r2;have ct:∀ k a,(tupleKind (intKind X.prog X.w)).is s.heap k a->(tupleKind (intKind prog w)).is s.heap k a:=λk a h=>by
   obtain⟨o,its,n,h1,h2,h3,h4⟩:=h;exact⟨o,its,n,h1,h2,h3,wf h4⟩
  exact IB hd1 hd2 t1 t2 (λx hx=>ct _ _ (k1 x hx)) (λx hx=>ct _ _ (k2 x hx)) n2 (tupleKind_room_in1 (by omega)) (by omega) (BR I (by show A.units+1+6 < cLine; omega) r2 r1 ht) hq
end
def A0:D2:=λd e S k=>match d,e with
 | .ref a,.ref b=>∃ kvs ep kvs' ep' r,S a=some (.gen (.dT kvs ep))/\S b=some (.gen (.dT kvs' ep'))/\Hu kvs kvs' r/\k (.bl r) S
 | _,_=>False
def zr:D2:=λd e S k=>match d,e with
 | .ref a,.ref b=>∃ kvs ep kvs' ep' r,S a=some (.gen (.dT kvs ep))/\S b=some (.gen (.dT kvs' ep'))/\Hu kvs kvs' r/\k (.bl (!r)) S
 | _,_=>False
theorem BN {X:Cx} {n:Nat} (hr:cI n X.A):fQ X (compareOp .Eq) (jP X.K A0):=by
 intro M6 s σ H x y v u Q I rx ry h;obtain⟨d,e,S,k,i1,i2,hS,r,m⟩:=h;unfold A0 at r
 split at r
 ·rename_i a b
  obtain⟨kvs,ep,kvs',ep',r0,g1,g2,hl,r⟩:=r;have e1:=aS.mp i1;have e2:=aS.mp i2;subst e1 e2;cases (show v=Value.ref a from rx)
  cases (show u=Value.ref b from ry)
  obtain⟨xs,w1,r1⟩:=hS.dT g1;obtain⟨ys,w2,r2⟩:=hS.dT g2;have hu:=hr.units;exact HY ⟨_,(bV I w1).2.2.2,rfl⟩ ⟨_,(bV I w2).2.2.2,rfl⟩ (by omega) (Ee I hS (by omega) g1 g2 hl) ⟨.bl r0,H,I,rfl,lL m hS r (cg.mpr rfl)⟩
 ·exact r.elim
theorem Gs {X:Cx} {n:Nat} (hr:cI n X.A):fQ X (compareOp .NotEq) (jP X.K zr):=by
 intro M6 s σ H x y v u Q I rx ry h;obtain⟨d,e,S,k,i1,i2,hS,r,m⟩:=h;unfold zr at r
 split at r
 ·rename_i a b
  obtain⟨kvs,ep,kvs',ep',r0,g1,g2,hl,r⟩:=r;have e1:=aS.mp i1;have e2:=aS.mp i2;subst e1 e2;cases (show v=Value.ref a from rx)
  cases (show u=Value.ref b from ry)
  obtain⟨xs,w1,r1⟩:=hS.dT g1;obtain⟨ys,w2,r2⟩:=hS.dT g2;have hu:=hr.units;exact Jg ⟨_,(bV I w1).2.2.2,rfl⟩ ⟨_,(bV I w2).2.2.2,rfl⟩ (by omega) (Ee I hS (by omega) g1 g2 hl) ⟨.bl (!r0),H,I,rfl,lL m hS r (cg.mpr rfl)⟩
 ·exact r.elim
def I0:D2:=λd e S k=>match d,e with
 | .ref a,.ref b=>zr (.ref a) (.ref b) S k\/B5 (.ref a) (.ref b) S k
 | d,e=>B5 d e S k
def H9:D2:=λd e S k=>match d,e with
 | .ref a,.ref b=>A0 (.ref a) (.ref b) S k\/CZ (.ref a) (.ref b) S k
 | d,e=>CZ d e S k
theorem Eu {X:Cx} {n:Nat} (hr:cI n X.A):fQ X (compareOp .NotEq) (jP X.K I0):=by
 intro M6 s σ H x y v u Q I rx ry h;obtain⟨d,e,S,k,i1,i2,hS,r,m⟩:=h;unfold I0 at r
 split at r
 ·rcases r with r | r
  ·exact Gs hr M6 s σ H x y v u Q I rx ry ⟨_,_,S,k,i1,i2,hS,r,m⟩
  ·exact Aw hr M6 s σ H x y v u Q I rx ry ⟨_,_,S,k,i1,i2,hS,r,m⟩
 ·exact Aw hr M6 s σ H x y v u Q I rx ry ⟨_,_,S,k,i1,i2,hS,r,m⟩
theorem Ch {X:Cx} {n:Nat} (hr:cI n X.A):fQ X (compareOp .Eq) (jP X.K H9):=by
 intro M6 s σ H x y v u Q I rx ry h;obtain⟨d,e,S,k,i1,i2,hS,r,m⟩:=h;unfold H9 at r
 split at r
 ·rcases r with r | r
  ·exact BN hr M6 s σ H x y v u Q I rx ry ⟨_,_,S,k,i1,i2,hS,r,m⟩
  ·exact ue hr M6 s σ H x y v u Q I rx ry ⟨_,_,S,k,i1,i2,hS,r,m⟩
 ·exact ue hr M6 s σ H x y v u Q I rx ry ⟨_,_,S,k,i1,i2,hS,r,m⟩
end DL
namespace PySem
open Builtin DL
abbrev Sx:=Nat×Tok
end PySem
namespace ST
open PySem PySem.SetTable
def oC (mask:Nat) (p:Probe):Probe:=
 if p.more > 0 then {p with j:=p.j+1,more:=p.more - 1} else {p with j:=(leap mask p.i p.perturb).1,more:=runEnd mask (leap mask p.i p.perturb).1 - (leap mask p.i p.perturb).1,i:=(leap mask p.i p.perturb).1,perturb:=(leap mask p.i p.perturb).2}
theorem pe (t:SetTable) (p:Probe):t.advance p=oC t.mask p:=by
 unfold SetTable.advance oC
 rfl
def vp (mask i pt:Nat):Probe:={j:=i,more:=runEnd mask i - i,i:=i,perturb:=pt,dummy:=none}
def sq (mask:Nat) (h:Int):Nat->Probe
 | 0=>vp mask (bits h % (mask+1)) (bits h)
 | n+1=>oC mask (sq mask h n)
def lp (mask:Nat) (h:Int):Nat->Nat×Nat
 | 0=>(bits h % (mask+1),bits h)
 | n+1=>leap mask (lp mask h n).1 (lp mask h n).2
theorem w9 (mask:Nat):∀ (r:Nat) (p:Probe),p.more=r->∃ q,q=Nat.rec (motive:=λ_=>Probe) p (λ_ x=>oC mask x) r/\q.more=0/\q.i=p.i/\q.perturb=p.perturb/\q.dummy=p.dummy
 | 0,p,h=>⟨p,rfl,h,rfl,rfl,rfl⟩
 | r+1,p,h=>by
  have key:∀ (n:Nat) (x:Probe),Nat.rec (motive:=λ_=>Probe) x (λ_ x=>oC mask x) (n+1)=Nat.rec (motive:=λ_=>Probe) (oC mask x) (λ_ x=>oC mask x) n:=by
   intro n x
   induction n with
   | zero=>rfl
   | succ n ih=>exact congrArg (oC mask) ih
  have e:oC mask p={p with j:=p.j+1,more:=p.more - 1}:=by unfold oC; rw [if_pos (by omega)]
  obtain⟨q,h1,h2,h3,h4,h5⟩:=w9 mask r (oC mask p) (by rw [e]; show p.more - 1=r; omega)
  exact⟨q,by rw [h1,key],h2,by rw [h3,e],by rw [h4,e],by rw [h5,e]⟩
theorem G0 {mask i:Nat}:runEnd mask i - i<=9:=by unfold runEnd; split <;> omega
theorem Bf (mask:Nat) (h:Int) (m:Nat):∀ r,sq mask h (m+r)=Nat.rec (motive:=λ_=>Probe) (sq mask h m) (λ_ x=>oC mask x) r
 | 0=>rfl
 | r+1=>congrArg (oC mask) (Bf mask h m r)
theorem wY (mask:Nat) (h:Int):∀ L,∃ m,m<=10*L/\sq mask h m=vp mask (lp mask h L).1 (lp mask h L).2
 | 0=>⟨0,LD _,rfl⟩
 | L+1=>by
  obtain⟨m,hm,e⟩:=wY mask h L;obtain⟨q,h1,h2,h3,h4,h5⟩:=w9 mask _ (sq mask h m) rfl;rw [<- Bf] at h1;refine⟨m+(sq mask h m).more+1,?_,?_⟩
  ·have:(sq mask h m).more<=9:=by rw [e]; exact G0
   omega
  ·show oC mask (sq mask h (m+(sq mask h m).more))=_
   rw [<- h1];unfold oC;rw [if_neg (by omega),h3,h4,e]
   have hd:q.dummy=none:=by rw [h5,e]; rfl
   show(⟨_,_,_,_,q.dummy⟩:Probe)=_
   rw [hd]
   rfl
theorem DJ (h:Int):bits h < 2 ^ 64:=by
 unfold bits;have h1:h % (2 ^ 64:Int) < 2 ^ 64:=Int.emod_lt_of_pos _ (by decide)
 have h0:0<=h % (2 ^ 64:Int):=Int.emod_nonneg _ (by decide)
 omega
theorem EE (mask:Nat) (h:Int):∀ L,(lp mask h L).2=bits h / 32 ^ L
 | 0=>by show bits h=_; simp
 | L+1=>by
  show(lp mask h L).2 / 32=_
  rw [EE mask h L,Nat.div_div_eq_div_mul,Nat.pow_succ]
theorem Dm {mask:Nat} {h:Int} {L:Nat} (hL:13<=L):(lp mask h L).2=0:=by
 rw [EE];refine Nat.div_eq_of_lt (LN (DJ h) ?_);exact Mi (show 2 ^ 64<=32 ^ 13 by decide) (Nat.pow_le_pow_right (by decide) hL)
def wk (mask i:Nat):Nat->Nat
 | 0=>i
 | n+1=>(wk mask i n*5+1) % (mask+1)
theorem AY (mask:Nat) (h:Int):∀ n,(lp mask h (13+n)).1=wk mask (lp mask h 13).1 n
 | 0=>rfl
 | n+1=>by
  show((lp mask h (13+n)).1*5+1+(lp mask h (13+n)).2 / 32) % (mask+1)=_
  rw [Dm (by omega),AY mask h n]
  rfl
theorem EQ (mask:Nat) (h:Int):∀ L,(lp mask h L).1 < mask+1
 | 0=>Nat.mod_lt _ (by omega)
 | L+1=>Nat.mod_lt _ (by omega)
theorem tm (mask i a:Nat):∀ n,wk mask (wk mask i a) n=wk mask i (a+n)
 | 0=>rfl
 | n+1=>by
  show(wk mask (wk mask i a) n*5+1) % (mask+1)=(wk mask i (a+n)*5+1) % (mask+1)
  rw [tm mask i a n]
def Ke (mask:Nat):Nat->Nat->List Nat
 | 0,_=>[]
 | n+1,x=>x::Ke mask n ((x*5+1) % (mask+1))
theorem w6 (mask e:Nat):∀ n a,e∈Ke mask n (wk mask 0 a)->∃ k,k < n/\wk mask 0 (a+k)=e
 | 0,_,h=>by cases h
 | n+1,a,h=>by
  rcases LJ.mp h with h | h
  ·exact⟨0,by omega,h.symm⟩
  ·obtain⟨k,h1,h2⟩:=w6 mask e n (a+1) h;exact⟨k+1,by omega,by rw [<- h2]; congr 1; omega⟩
def t6 (mask:Nat):Prop:=mask=7\/mask=31\/mask=127
def chk (mask:Nat):M1:=((List.range (mask+1)).all λe=>(Ke mask (mask+1) 0).contains e) && (wk mask 0 (mask+1) == 0)
theorem Kf:chk 7=true:=by decide +kernel
theorem IT:chk 31=true:=by decide +kernel
theorem E8:chk 127=true:=by decide +kernel
theorem t6.chk {mask:Nat} (h:t6 mask):chk mask=true:=by
 rcases h with rfl | rfl | rfl
 ·exact Kf
 ·exact IT
 ·exact E8
theorem t6.cov {mask e:Nat} (h:t6 mask) (he:e < mask+1):∃ n,n < mask+1/\wk mask 0 n=e:=by
 have c:=h.chk;unfold ST.chk at c;simp only [Mj,MA,MB] at c;have:=c.1 e he;rw [List.contains_iff_mem] at this;obtain⟨k,h1,h2⟩:=w6 mask e (mask+1) 0 this;exact⟨k,h1,by rw [<- h2,Nat.zero_add]⟩
theorem t6.per {mask:Nat} (h:t6 mask):wk mask 0 (mask+1)=0:=by
 have c:=h.chk;unfold ST.chk at c;simp only [Mj,beq_iff_eq] at c;exact c.2
theorem t6.reach {mask i e:Nat} (h:t6 mask) (hi:i < mask+1) (he:e < mask+1):∃ n,n < mask+1/\wk mask i n=e:=by
 obtain⟨a,ha,ea⟩:=h.cov hi;obtain⟨b,hb,eb⟩:=h.cov he;rw [<- ea]
 by_cases hab:a<=b
 ·exact⟨b - a,by omega,by rw [tm,<- eb]; congr 1; omega⟩
 ·refine⟨mask+1+b - a,by omega,?_⟩
  rw [tm,show a+(mask+1+b - a)=mask+1+b by omega,<- tm,h.per,eb]
theorem t6.first {mask:Nat} (h:t6 mask) (x:Int) (P:Nat->Prop) {e:Nat} (he:e < mask+1) (hP:¬ P e):∃ N,N<=10*(mask+13)/\¬ P (sq mask x N).j/\∀ m,m < N->P (sq mask x m).j:=by
 obtain⟨n,hn,en⟩:=h.reach (EQ mask x 13) he;obtain⟨m,hm,em⟩:=wY mask x (13+n);have hj:(sq mask x m).j=e:=by
  rw [em]
  show(lp mask x (13+n)).1=e
  rw [AY,en]
 have least:∀ n,¬ P (sq mask x n).j->∃ N,N<=n/\¬ P (sq mask x N).j/\∀ m,m < N->P (sq mask x m).j:=by
  intro n
  induction n using Nat.strongRecOn with
  | ind n ih=>
   intro hn
   by_cases hh:∃ k,k < n/\¬ P (sq mask x k).j
   ·obtain⟨k,h1,h2⟩:=hh;obtain⟨N,g1,g2,g3⟩:=ih k h1 h2;exact⟨N,by omega,g2,g3⟩
   ·exact⟨n,LD _,hn,λm hm=>Classical.byContradiction λz=>hh ⟨m,hm,z⟩⟩
 obtain⟨N,g1,g2,g3⟩:=least m (by rw [hj]; exact hP)
 exact⟨N,by omega,g2,g3⟩
theorem uI (mask:Nat) (h:Int):∀ n,(sq mask h n).dummy=none
 | 0=>rfl
 | n+1=>by
  show(oC mask (sq mask h n)).dummy=none
  unfold oC
  split <;> exact uI mask h n
theorem Et {mask:Nat} (h:Int):∀ n,(sq mask h n).j+(sq mask h n).more < mask+1/\True
 | 0=>by
  refine⟨?_,trivial⟩
  show bits h % (mask+1)+(runEnd mask (bits h % (mask+1)) - bits h % (mask+1)) < mask+1
  have:bits h % (mask+1) < mask+1:=Nat.mod_lt _ (by omega)
  unfold runEnd
  split <;> omega
 | n+1=>by
  refine⟨?_,trivial⟩;have ih:=(Et (mask:=mask) h n).1
  show(oC mask (sq mask h n)).j+(oC mask (sq mask h n)).more < mask+1
  unfold oC
  split
  ·show(sq mask h n).j+1+((sq mask h n).more - 1) < mask+1
   omega
  ·show(leap mask (sq mask h n).i (sq mask h n).perturb).1+(runEnd mask (leap mask (sq mask h n).i (sq mask h n).perturb).1 - (leap mask (sq mask h n).i (sq mask h n).perturb).1) < mask+1
   have:(leap mask (sq mask h n).i (sq mask h n).perturb).1 < mask+1:=Nat.mod_lt _ (by omega)
   unfold runEnd
   split <;> omega
theorem Fv {mask:Nat} (h:Int) (n:Nat):(sq mask h n).j < mask+1:=by have:=(Et (mask:=mask) h n).1; omega
def BQ (xs:MZ Nat):Prop:=∀ i j:Nat,i < j->∀ a b:Nat,xs[i]?=some a->xs[j]?=some b->a < b
theorem pM {xs:MZ Nat} (hr:BQ xs) (j:Nat):∀ (f lo hi:Nat),lo<=hi->hi<=xs.size->hi - lo<=f->(∀ k a,k < lo->xs[k]?=some a->a < j)->(∀ k a,hi<=k->xs[k]?=some a->j<=a)->
  below.go xs j f lo hi<=xs.size/\(∀ k a,k < below.go xs j f lo hi->xs[k]?=some a->a < j)/\∀ k a,below.go xs j f lo hi<=k->xs[k]?=some a->j<=a
 | 0,lo,hi,h1,h2,h3,h4,h5=>by
  have:lo=hi:=by omega
  subst this;unfold below.go;exact⟨h2,h4,h5⟩
 | f+1,lo,hi,h1,h2,h3,h4,h5=>by
  unfold below.go
  by_cases hl:lo < hi
  ·rw [if_pos hl];have hm:(lo+hi) / 2 < xs.size:=by omega
   have eg:xs[(lo+hi) / 2]?=some xs[(lo+hi) / 2]:=by simp [hm]
   have ed:xs.getD ((lo+hi) / 2) j=xs[(lo+hi) / 2]:=by simp [Array.getD,hm]
   dsimp only;rw [ed]
   by_cases hc:xs[(lo+hi) / 2] < j
   ·rw [if_pos hc];refine pM hr j f _ hi (by omega) h2 (by omega) (λk a hk e=>?_) h5
    by_cases hk2:k=(lo+hi) / 2
    ·subst hk2;rw [eg] at e;cases e;exact hc
    ·exact Nat.lt_trans (hr k ((lo+hi) / 2) (by omega) _ _ e eg) hc
   ·rw [if_neg hc];refine pM hr j f lo _ (by omega) (by omega) (by omega) h4 λk a hk e=>?_
    by_cases hk2:k=(lo+hi) / 2
    ·subst hk2;rw [eg] at e;cases e;omega
    ·have:=hr ((lo+hi) / 2) k (by omega) _ _ eg e
     omega
  ·rw [if_neg hl];have:lo=hi:=by omega
   subst this;exact⟨h2,h4,h5⟩
theorem qc {xs:MZ Nat} (hr:BQ xs) (j:Nat):below xs j<=xs.size/\(∀ k a,k < below xs j->xs[k]?=some a->a < j)/\∀ k a,below xs j<=k->xs[k]?=some a->j<=a:=
 pM hr j xs.size 0 xs.size (by omega) (LD _) (by omega) (λ_ _ h=>by omega) (λk a hk e=>by
  have:=(Array.getElem?_eq_some_iff.mp e).1;omega)
theorem gO {xs:MZ Nat} (hr:BQ xs) {i j:Nat} (h:xs[i]?=some j):below xs j=i:=by
 obtain⟨h1,h2,h3⟩:=qc hr j;rcases Nat.lt_trichotomy (below xs j) i with z | z | z
 ·have hb:below xs j < xs.size:=by
   have:=(Array.getElem?_eq_some_iff.mp h).1;omega
  have e:xs[below xs j]?=some xs[below xs j]:=by simp [hb]
  have g1:=h3 _ _ (LD _) e;have g2:=hr _ _ z _ _ e h;omega
 ·exact z
 ·have:=h2 _ _ z h;omega
theorem nE {t:SetTable} (hr:BQ t.place) {i j:Nat} (h:t.place[i]?=some j):t.slot j=.live i:=by
 unfold SetTable.slot;rw [gO hr h];dsimp only;rw [h];simp
theorem wK {t:SetTable} (hd:t.dummies=#[]) {j:Nat} (h:∀ i:Nat,t.place[i]?≠some j):t.slot j=.empty:=by
 unfold SetTable.slot;dsimp only;rw [if_neg (by simpa using h (below t.place j)),hd]
 simp [has]
def On (t:SetTable) (j:Nat):Prop:=∃ i:Nat,t.place[i]?=some j
theorem u_ {t:SetTable} (hd:t.dummies=#[]) (hr:BQ t.place) {ha:Nat->Int} {h:Int} {N:Nat} (hN:¬ On t (sq t.mask h N).j) (hlt:∀ m,m < N->On t (sq t.mask h m).j):
  ∀ (f m:Nat),m<=N->N - m < f->(∃ m' i:Nat,m<=m'/\m' < N/\t.place[i]?=some (sq t.mask h m').j/\ha i=h/\(∀ k i':Nat,m<=k->k < m'->t.place[i']?=some (sq t.mask h k).j->ha i'≠h)/\SetTable.probe.go t ha h f (sq t.mask h m)=some (.candidate (sq t.mask h m').j i (sq t.mask h (m'+1))))\/
   ((∀ k i':Nat,m<=k->k < N->t.place[i']?=some (sq t.mask h k).j->ha i'≠h)/\SetTable.probe.go t ha h f (sq t.mask h m)=some (.empty (sq t.mask h N).j none))
 | 0,m,_,hf=>by omega
 | f+1,m,hm,hf=>by
  unfold SetTable.probe.go
  by_cases hmN:m=N
  ·subst hmN
   right
   rw [wK hd λi e=>hN ⟨i,e⟩]
   refine⟨λk i' h1 h2=>by omega,?_⟩
   dsimp only;rw [uI]
  ·obtain⟨i,hi⟩:=hlt m (by omega)
   rw [nE hr hi];dsimp only
   by_cases hh:ha i=h
   ·left
    refine⟨m,i,LD _,by omega,hi,hh,λk i' h1 h2=>by omega,?_⟩
    rw [if_pos (by simpa using hh),pe]
    rfl
   ·rw [if_neg (by simpa using hh),pe]
    have only:∀ i',t.place[i']?=some (sq t.mask h m).j->ha i'≠h:=λi' e=>by
     have e1:=gO hr e;have e2:=gO hr hi;rw [<- e1,e2];exact hh
    rcases u_ hd hr hN hlt f (m+1) (by omega) (by omega) with ⟨m',i2,h1,h2,h3,h4,h5,h6⟩ | ⟨h5,h6⟩
    ·refine .inl ⟨m',i2,by omega,h2,h3,h4,λk i' g1 g2 g3=>?_,h6⟩
     by_cases hk:k=m
     ·subst hk;exact only i' g3
     ·exact h5 k i' (by omega) g2 g3
    ·refine .inr ⟨λk i' g1 g2 g3=>?_,h6⟩
     by_cases hk:k=m
     ·subst hk;exact only i' g3
     ·exact h5 k i' (by omega) g2 g3
def Jk (t:SetTable) (h:Int) (j:Nat):Prop:=∃ n,(sq t.mask h n).j=j/\∀ m,m < n->On t (sq t.mask h m).j
structure TI (t:SetTable) (hs:List Int):Prop where
 dm:t.dummies=#[]
 ris:BQ t.place
 sz:t.place.size=hs.length
 le:∀ j,On t j->j < t.mask+1
 msk:t6 t.mask
 way:∀ q∈t.place.toList.zip hs,Jk t q.2 q.1
theorem ut {xs:MZ Nat} (hr:BQ xs):∀ n,(∀ e,e < n->∃ i:Nat,xs[i]?=some e)->∀ i:Nat,xs[i]?=some n->n<=i
 | 0,_,_,_=>Mw _
 | n+1,h,i,hi=>by
  obtain⟨k,hk⟩:=h n (by omega)
  have h1:=ut hr n (λe he=>h e (by omega)) k hk
  rcases Nat.lt_trichotomy k i with z | z | z
  ·omega
  ·subst z;rw [hk] at hi;cases hi
  ·have:=hr i k z _ _ hi hk;omega
theorem TI.gap {t:SetTable} {hs:List Int} (T:TI t hs) (hl:hs.length<=t.mask):∃ e,e < t.mask+1/\¬ On t e:=by
 apply Classical.byContradiction;intro z;have all:∀ e,e < t.mask+1->∃ i:Nat,t.place[i]?=some e:=λe he=>Classical.byContradiction λy=>z ⟨e,he,y⟩
 obtain⟨i,hi⟩:=all t.mask (by omega)
 have h1:=ut T.ris t.mask (λe he=>all e (by omega)) i hi
 have h2:=(Array.getElem?_eq_some_iff.mp hi).1;have h3:=T.sz;omega
theorem TI.ends {t:SetTable} {hs:List Int} (T:TI t hs) (hl:hs.length<=t.mask) (h:Int):∃ N,N<=10*(t.mask+13)/\¬ On t (sq t.mask h N).j/\∀ m,m < N->On t (sq t.mask h m).j:=by
 obtain⟨e,he,hn⟩:=T.gap hl;exact T.msk.first h (On t) he hn
theorem TI.fits {t:SetTable} {hs:List Int} (T:TI t hs) (hl:hs.length<=t.mask):t.fits hs.length=true:=by
 unfold SetTable.fits SetTable.fill;rw [T.sz,T.dm];simp [hl]
theorem TI.odd {t:SetTable} {hs:List Int} (T:TI t hs):t.gaveWay=false:=by
 unfold SetTable.gaveWay;rcases T.msk with h | h | h <;> rw [h] <;> rfl
theorem TI.met {t:SetTable} {hs:List Int} (T:TI t hs) {h:Int} {N i j:Nat} (hN:¬ On t (sq t.mask h N).j) (hh:hs[i]?=some h) (hj:t.place[i]?=some j):∃ m,m < N/\(sq t.mask h m).j=j:=by
 have hm:(j,h)∈t.place.toList.zip hs:=by
  refine List.mem_iff_getElem?.mpr ⟨i,?_⟩;rw [List.getElem?_zip_eq_some];exact⟨by simpa using hj,hh⟩
 obtain⟨n,h1,h2⟩:=T.way _ hm;refine⟨n,?_,h1⟩;rcases Nat.lt_trichotomy n N with z | z | z
 ·exact z
 ·subst z;exact absurd ⟨i,by rw [h1]; exact hj⟩ hN
 ·exact absurd (h2 N z) hN
theorem Jk.mono {t t':SetTable} {h:Int} {j:Nat} (w:Jk t h j) (hm:t'.mask=t.mask) (ho:∀ j,On t j->On t' j):Jk t' h j:=by
 obtain⟨n,h1,h2⟩:=w;exact⟨n,by rw [hm]; exact h1,λm hmn=>by rw [hm]; exact ho _ (h2 m hmn)⟩
theorem tT {t:SetTable} {j:Nat}:On t j↔j∈t.place.toList:=by
 unfold On;rw [List.mem_iff_getElem?];simp
theorem FQ {t:SetTable} (hd:t.dummies=#[]) (j:Nat):(t.put j).1.dummies=#[]:=by
 unfold SetTable.put;dsimp only;rw [hd,if_neg (by simp [has])]
theorem i9 (t:SetTable) (j:Nat):(t.put j).1.place.toList=t.place.toList.take (t.put j).2++j::t.place.toList.drop (t.put j).2:=by
 unfold SetTable.put;exact SetTable.toList_insertAt _ _ _
theorem wP (t:SetTable) (hr:BQ t.place) (j:Nat):(t.put j).2<=t.place.size:=(qc hr j).1
theorem tX {xs:MZ Nat}:BQ xs↔xs.toList.Pairwise (· < ·):=by
 rw [List.pairwise_iff_getElem]
 constructor
 ·intro h i j hi hj hij;exact h i j hij _ _ (by simp at hi ⊢) (by simp at hj ⊢)
 ·intro h i j hij a b ha hb;obtain⟨h1,h2⟩:=Array.getElem?_eq_some_iff.mp ha;obtain⟨h3,h4⟩:=Array.getElem?_eq_some_iff.mp hb;have:=h i j (by simpa using h1) (by simpa using h3) hij
  simp at this;omega
theorem CD {t:SetTable} (hr:BQ t.place) {j:Nat} (hn:¬ On t j):BQ (t.put j).1.place:=by
 rw [tX,i9,List.pairwise_append,List.pairwise_cons];have hp:=tX.mp hr;obtain⟨_,h2,h3⟩:=qc hr j;have e:(t.put j).2=below t.place j:=rfl;have lo:∀ a∈t.place.toList.take (t.put j).2,a < j:=λa ha=>by
  obtain⟨k,hk⟩:=List.mem_iff_getElem?.mp ha;rw [List.getElem?_take] at hk
  split at hk
  ·exact h2 k a (by omega) (by simpa using hk)
  ·cases hk
 have hi:∀ a∈t.place.toList.drop (t.put j).2,j < a:=λa ha=>by
  obtain⟨k,hk⟩:=List.mem_iff_getElem?.mp ha;rw [List.getElem?_drop] at hk;have h4:=h3 ((t.put j).2+k) a (by rw [e]; omega) (by simpa using hk)
  have h5:a≠j:=λz=>hn ⟨(t.put j).2+k,by have y:=hk; rw [z] at y; simpa using y⟩
  omega
 refine⟨hp.sublist (List.take_sublist _ _),⟨hi,hp.sublist (List.drop_sublist _ _)⟩,λa ha b hb=>?_⟩
 rcases LJ.mp hb with rfl | hb
 ·exact lo a ha
 ·exact Nat.lt_trans (lo a ha) (hi b hb)
theorem z6 {t:SetTable} {j k:Nat}:On (t.put j).1 k↔k=j\/On t k:=by
 rw [tT,tT,i9,List.mem_append,LJ]
 constructor
 ·rintro(h | h | h)
  ·exact .inr (List.mem_of_mem_take h)
  ·exact .inl h
  ·exact .inr (List.mem_of_mem_drop h)
 ·rintro(h | h)
  ·exact .inr (.inl h)
  ·rw [<- List.take_append_drop (t.put j).2 t.place.toList] at h;rcases List.mem_append.mp h with h | h
   ·exact .inl h
   ·exact .inr (.inr h)
theorem tz {α β:Type} (a:List α) (b:List β) (p:Nat):(a.take p).zip (b.take p)=(a.zip b).take p:=by unfold List.zip; rw [List.take_zipWith]
theorem dz {α β:Type} (a:List α) (b:List β) (p:Nat):(a.drop p).zip (b.drop p)=(a.zip b).drop p:=by unfold List.zip; rw [List.drop_zipWith]
theorem TI.put {t:SetTable} {hs:List Int} (T:TI t hs) {h:Int} {N:Nat} (hN:¬ On t (sq t.mask h N).j) (hl:∀ m,m < N->On t (sq t.mask h m).j):
  TI (t.put (sq t.mask h N).j).1 (hs.take (t.put (sq t.mask h N).j).2++h::hs.drop (t.put (sq t.mask h N).j).2):=by
 have hp:=wP t T.ris (sq t.mask h N).j;have hs':=T.sz;have mo:∀ k,On t k->On (t.put (sq t.mask h N).j).1 k:=λk hk=>z6.mpr (.inr hk)
 refine⟨FQ T.dm _,CD T.ris hN,?_,λk hk=>?_,T.msk,?_⟩
 ·have e:=congrArg List.length (i9 t (sq t.mask h N).j);simp only [MF,LY,List.length_take,LQ,List.length_drop] at e ⊢;omega
 ·rcases z6.mp hk with rfl | hk
  ·exact Fv h N
  ·exact T.le k hk
 ·rw [i9,List.zip_append (by rw [List.length_take,List.length_take,MF,hs'])]
  intro q hq;have old:∀ q∈t.place.toList.zip hs,Jk (t.put (sq t.mask h N).j).1 q.2 q.1:=λq hq=>(T.way q hq).mono rfl mo
  rcases List.mem_append.mp hq with hq | hq
  ·rw [tz] at hq;exact old q (List.mem_of_mem_take hq)
  ·rw [List.zip_cons_cons] at hq;rcases LJ.mp hq with rfl | hq
   ·exact⟨N,rfl,λm hm=>mo _ (hl m hm)⟩
   ·rw [dz] at hq;exact old q (List.mem_of_mem_drop hq)
theorem TI.fresh (f m:Nat) (led:M1):TI (SetTable.fresh f m led) []:=⟨rfl,λi j _ a b h=>by simp [SetTable.fresh] at h,rfl,λj ⟨i,h⟩=>by simp [SetTable.fresh] at h,.inl rfl,λq hq=>by simp at hq⟩
theorem xy {mask:Nat} {h:Int} {m i pt:Nat} (e:sq mask h m=vp mask i pt):∀ k,k<=runEnd mask i - i->sq mask h (m+k)={j:=i+k,more:=runEnd mask i - i - k,i:=i,perturb:=pt,dummy:=none}
 | 0,_=>e
 | k+1,hk=>by
  show oC mask (sq mask h (m+k))=_
  rw [xy e k (by omega)]
  unfold oC;rw [if_pos (by show runEnd mask i - i - k > 0; omega)]
  rfl
theorem AH {mask:Nat} {h:Int} {m i pt:Nat} (e:sq mask h m=vp mask i pt):sq mask h (m+(runEnd mask i - i)+1)=vp mask (leap mask i pt).1 (leap mask i pt).2:=by
 show oC mask (sq mask h (m+(runEnd mask i - i)))=_
 rw [xy e _ (LD _)];unfold oC;rw [if_neg (by show ¬ runEnd mask i - i - (runEnd mask i - i) > 0; omega)]
 rfl
theorem Fh {mask i:Nat}:i<=runEnd mask i:=by unfold runEnd; split <;> omega
def wJ (owner:MZ (MS Nat)) (j:Nat):Prop:=(owner.getD j (some 0)).isNone=false
theorem vM {p:Nat->M1} {n:Nat}:(∃ k,(List.range n).find? p=some k/\k < n/\p k=true/\∀ k',k' < k->p k'=false)\/((List.range n).find? p=none/\∀ k,k < n->p k=false):=by
 induction n with
 | zero=>exact .inr ⟨rfl,λk h=>by omega⟩
 | succ n ih=>
  rw [List.range_succ,List.find?_append];rcases ih with ⟨k,h1,h2,h3,h4⟩ | ⟨h1,h2⟩
  ·rw [h1];exact .inl ⟨k,rfl,by omega,h3,h4⟩
  ·rw [h1]
   by_cases hp:p n=true
   ·exact .inl ⟨n,by simp [hp],by omega,hp,h2⟩
   ·refine .inr ⟨by simp [hp],λk hk=>?_⟩
    by_cases hkn:k=n
    ·subst hkn
     simpa using hp
    ·exact h2 k (by omega)
theorem xb {mask:Nat} {owner:MZ (MS Nat)} {h:Int} {N:Nat} (hN:¬ wJ owner (sq mask h N).j) (hl:∀ m,m < N->wJ owner (sq mask h m).j):
  ∀ (f L m:Nat),sq mask h m=vp mask (lp mask h L).1 (lp mask h L).2->m<=N->(∃ L',L<=L'/\L' < L+f/\¬ wJ owner (lp mask h L').1)->layClean.free mask owner f (lp mask h L).1 (lp mask h L).2=some (sq mask h N).j
 | 0,L,m,_,_,⟨L',h1,h2,_⟩=>by omega
 | f+1,L,m,e,hm,⟨L',h1,h2,h3⟩=>by
  unfold layClean.free;have rg:=Fh (mask:=mask) (i:=(lp mask h L).1);have oc:∀ k,k < runEnd mask (lp mask h L).1+1 - (lp mask h L).1->((owner.getD ((lp mask h L).1+k) (some 0)).isNone=false↔wJ owner (sq mask h (m+k)).j):=λk hk=>by
   rw [xy e k (by omega)]
   exact Iff.rfl
  rcases vM (p:=λk=>(owner.getD ((lp mask h L).1+k) (some 0)).isNone) (n:=runEnd mask (lp mask h L).1+1 - (lp mask h L).1) with ⟨k,g1,g2,g3,g4⟩ | ⟨g1,g2⟩
  ·rw [g1];have no:¬ wJ owner (sq mask h (m+k)).j:=λz=>by
    have:=(oc k g2).mpr z;rw [this] at g3;cases g3
   have a1:¬ m+k < N:=λz=>no (hl _ z)
   have a2:¬ N < m+k:=λz=>hN (by
    have:=(oc (N - m) (by omega)).mp (g4 (N - m) (by omega))
    rw [show m+(N - m)=N by omega] at this
    exact this)
   have:N=m+k:=by omega
   rw [this,xy e k (by omega)]
  ·rw [g1];have all:∀ k,k < runEnd mask (lp mask h L).1+1 - (lp mask h L).1->wJ owner (sq mask h (m+k)).j:=λk hk=>(oc k hk).mp (g2 k hk)
   have a1:m+(runEnd mask (lp mask h L).1 - (lp mask h L).1) < N:=by
    apply Classical.byContradiction;intro z;refine hN ?_;have:=all (N - m) (by omega)
    rw [show m+(N - m)=N by omega] at this
    exact this
   have a2:L'≠L:=λz=>by
    subst z;have:=(oc 0 (by omega)).mpr (all 0 (by omega))
    exact h3 this
   exact xb hN hl f (L+1) _ (AH e) (by omega) ⟨L',by omega,by omega,h3⟩
theorem mL {owner:MZ (MS Nat)} {j:Nat} (hj:j < owner.size):wJ owner j↔∃ k,owner[j]?=some (some k):=by
 unfold wJ;rw [show owner.getD j (some 0)=owner[j] by simp [Array.getD,hj]]
 have e:owner[j]?=some owner[j]:=by simp [hj]
 rw [e];cases owner[j] with
 | none=>simp
 | some k=>simp
structure OI (mask:Nat) (owner:MZ (MS Nat)) (hs:List Int):Prop where
 sz:owner.size=mask+1
 lt:∀ (j k:Nat),owner[j]?=some (some k)->k < hs.length
 at':∀ k,k < hs.length->∃ j:Nat,owner[j]?=some (some k)
 way:∀ (j k:Nat) (h:Int),owner[j]?=some (some k)->hs[k]?=some h->∃ n,(sq mask h n).j=j/\∀ m,m < n->wJ owner (sq mask h m).j
 cnt:((List.range (mask+1)).filterMap λj=>owner.getD j none).length=hs.length
theorem OI.zero (mask:Nat):OI mask (Array.replicate (mask+1) none) []:=by
 refine⟨by simp,λj k h=>?_,λk h=>by simp at h,λj k h e=>?_,?_⟩
 ·rw [Array.getElem?_replicate] at h
  split at h <;> simp at h
 ·rw [Array.getElem?_replicate] at e
  split at e <;> simp at e
 ·simp only [List.length_nil,MN,List.filterMap_eq_nil_iff];intro j hj;simp [Array.getD]
theorem wW {mask:Nat} {o o':Nat->MS Nat} {j0 v:Nat} (hj:o j0=none) (h1:o' j0=some v) (h2:∀ j,j≠j0->o' j=o j):∀ n,((List.range n).filterMap o').length=((List.range n).filterMap o).length+if j0 < n then 1 else 0
 | 0=>by simp
 | n+1=>by
  rw [List.range_succ,List.filterMap_append,List.filterMap_append,LY,LY,wW (mask:=mask) hj h1 h2 n]
  by_cases hn:n=j0
  ·subst hn;simp [hj,h1]
  ·have:(List.filterMap o' [n]).length=(List.filterMap o [n]).length:=by simp [List.filterMap,h2 n hn]
   rw [this]
   by_cases hl:j0 < n
   ·rw [if_pos hl,if_pos (by omega)]; omega
   ·rw [if_neg hl,if_neg (by omega)]; omega
theorem OI.gap {mask:Nat} {owner:MZ (MS Nat)} {hs:List Int} (O:OI mask owner hs) (hl:hs.length<=mask):∃ e,e < mask+1/\¬ wJ owner e:=by
 apply Classical.byContradiction;intro z;have all:∀ e,e < mask+1->∃ k,owner.getD e none=some k:=λe he=>by
  have:wJ owner e:=Classical.byContradiction λy=>z ⟨e,he,y⟩
  have hb:e < owner.size:=by rw [O.sz]; exact he
  obtain⟨k,hk⟩:=(mL hb).mp this;refine⟨k,?_⟩;have e1:owner[e]?=some owner[e]:=by simp [hb]
  rw [e1] at hk;simp [Array.getD,hb];exact Ma hk
 have len:∀ n,n<=mask+1->((List.range n).filterMap λj=>owner.getD j none).length=n:=by
  intro n
  induction n with
  | zero=>intro _; rfl
  | succ n ih=>
   intro hn;obtain⟨k,hk⟩:=all n (by omega)
   rw [List.range_succ,List.filterMap_append,LY,ih (by omega)]
   simp [List.filterMap,hk]
 have:=len (mask+1) (LD _);rw [O.cnt] at this;omega
theorem jG {o:MZ (MS Nat)} {j0:Nat} {v:MS Nat} (hj:j0 < o.size) (j:Nat):(o.setIfInBounds j0 v)[j]?=if j=j0 then some v else o[j]?:=by
 rw [Array.getElem?_setIfInBounds]
 by_cases h:j0=j
 ·subst h;simp [hj]
 ·rw [if_neg h,if_neg (λz=>h z.symm)]
theorem OI.step {mask:Nat} {owner:MZ (MS Nat)} {hs:List Int} (M:t6 mask) (O:OI mask owner hs) (hl:hs.length<=mask) (h:Int):
  ∃ j,layClean.free mask owner (turns mask) (bits h % (mask+1)) (bits h)=some j/\OI mask (owner.setIfInBounds j (some hs.length)) (hs++[h]):=by
 obtain⟨e,he,hn⟩:=O.gap hl;obtain⟨N,_,hN,hlt⟩:=M.first h (wJ owner) he hn;obtain⟨n,hn2,en⟩:=M.reach (EQ mask h 13) he;have fr:=xb hN hlt (turns mask) 0 0 rfl (Mw _) ⟨13+n,by omega,by unfold turns; omega,by rw [AY,en]; exact hn⟩
 have hb:(sq mask h N).j < owner.size:=by rw [O.sz]; exact Fv h N
 have hnone:owner[(sq mask h N).j]?=some none:=by
  have e1:owner[(sq mask h N).j]?=some owner[(sq mask h N).j]:=by simp [hb]
  rw [e1];cases hc:owner[(sq mask h N).j] with
  | none=>rfl
  | some k=>exact absurd ((mL hb).mpr ⟨k,by rw [e1,hc]⟩) hN
 refine⟨_,fr,?_⟩;generalize hj0:(sq mask h N).j=j0 at*
 have hsz:(owner.setIfInBounds j0 (some hs.length)).size=mask+1:=by rw [Array.size_setIfInBounds]; exact O.sz
 have occ:∀ j,wJ owner j->wJ (owner.setIfInBounds j0 (some hs.length)) j:=λj hj=>by
  by_cases hjs:j < owner.size
  ·refine(mL (by rw [Array.size_setIfInBounds]; exact hjs)).mpr ?_
   rw [jG hb]
   by_cases z:j=j0
   ·exact⟨hs.length,by rw [if_pos z]⟩
   ·rw [if_neg z];exact(mL hjs).mp hj
  ·unfold wJ;simp [Array.getD,hjs]
 refine⟨hsz,λj k hk=>?_,λk hk=>?_,λj k x hk hx=>?_,?_⟩
 ·rw [jG hb] at hk;rw [LY]
  by_cases z:j=j0
  ·rw [if_pos z] at hk;have:k=hs.length:=by injection hk with hk; injection hk with hk; exact hk.symm
   show k < hs.length+1
   omega
  ·rw [if_neg z] at hk;have:=O.lt j k hk
   show k < hs.length+1
   omega
 ·rw [LY] at hk;have hk:k < hs.length+1:=hk
  by_cases z:k=hs.length
  ·exact⟨j0,by rw [jG hb,if_pos rfl,z]⟩
  ·obtain⟨j,hj⟩:=O.at' k (by omega)
   refine⟨j,?_⟩;rw [jG hb,if_neg]
   ·exact hj
   ·intro y;subst y;rw [hnone] at hj;cases hj
 ·rw [jG hb] at hk
  by_cases z:j=j0
  ·rw [if_pos z] at hk;have:k=hs.length:=by injection hk with hk; injection hk with hk; exact hk.symm
   subst this;rw [List.getElem?_append_right (LD _)] at hx;simp at hx;subst hx;exact⟨N,by rw [hj0,z],λm hm=>occ _ (hlt m hm)⟩
  ·rw [if_neg z] at hk;have hk2:=O.lt j k hk;rw [List.getElem?_append_left hk2] at hx;obtain⟨n,h1,h2⟩:=O.way j k x hk hx;exact⟨n,h1,λm hm=>occ _ (h2 m hm)⟩
 ·have gd:∀ (o:MZ (MS Nat)) (j:Nat),o.getD j none=(o[j]?).getD none:=λo j=>by simp [Array.getD_eq_getD_getElem?]
  rw [wW (mask:=mask) (o:=λj=>owner.getD j none) (j0:=j0) (v:=hs.length) (by show owner.getD j0 none=none; rw [gd,hnone]; rfl) (by show(owner.setIfInBounds j0 (some hs.length)).getD j0 none=_; rw [gd,jG hb,if_pos rfl]; rfl) (λj hj=>by show(owner.setIfInBounds j0 (some hs.length)).getD j none=owner.getD j none; rw [gd,gd,jG hb,if_neg hj]),O.cnt,if_pos (by rw [<- O.sz]; exact hb),LY]
  rfl
def l_ (mask:Nat) (acc:MS (MZ (MS Nat)×Nat)) (h:Int):MS (MZ (MS Nat)×Nat):=do
 let (owner,k) <- acc
 let j <- layClean.free mask owner (turns mask) (bits h % (mask+1)) (bits h)
 pure (owner.setIfInBounds j (some k),k+1)
theorem ub {mask:Nat} (M:t6 mask):∀ (l:List Int) (hs:List Int) (owner:MZ (MS Nat)),OI mask owner hs->hs.length+l.length<=mask+1->∃ owner',l.foldl (l_ mask) (some (owner,hs.length))=some (owner',(hs++l).length)/\OI mask owner' (hs++l)
 | [],hs,owner,O,_=>⟨owner,by simp,by simpa using O⟩
 | h::l,hs,owner,O,hl=>by
  have hl:hs.length+(l.length+1)<=mask+1:=hl;obtain⟨j,h1,h2⟩:=O.step M (by omega) h
  obtain⟨owner',g1,g2⟩:=ub M l (hs++[h]) _ h2 (by rw [LY]; show hs.length+1+l.length<=mask+1; omega)
  refine⟨owner',?_,by rw [List.append_assoc] at g2; exact g2⟩
  rw [List.foldl_cons];have:l_ mask (some (owner,hs.length)) h=some (owner.setIfInBounds j (some hs.length),(hs++[h]).length):=by
   unfold l_;simp [h1]
  rw [this,g1,List.append_assoc]
  rfl
theorem yX {mask:Nat} (M:t6 mask) (hashes:MZ Int) (hl:hashes.size<=mask+1):∃ owner,layClean mask hashes=some owner/\OI mask owner hashes.toList:=by
 obtain⟨owner,h1,h2⟩:=ub M hashes.toList [] _ (OI.zero mask) (by simpa using hl)
 refine⟨owner,?_,by simpa using h2⟩
 unfold layClean;rw [<- Array.foldl_toList];have:(hashes.toList.foldl (l_ mask) (some (Array.replicate (mask+1) none,0)))=some (owner,([]++hashes.toList).length):=h1
 show Option.map (·.1) (hashes.toList.foldl (l_ mask) (some (Array.replicate (mask+1) none,0)))=some owner
 rw [this]
 rfl
theorem CN {mask:Nat} (M:t6 mask) (finger moves:Nat) (led plain:M1) (hashes:MZ Int) (hl:hashes.size<=mask+1):
  ∃ t order,laid mask finger moves led plain hashes=some (t,order)/\TI t (order.toList.map λk=>hashes.toList.getD k 0)/\t.mask=mask/\t.led=led/\t.moves=moves/\t.plain=plain/\order.size=hashes.size/\(∀ k∈order.toList,k < hashes.size)/\∀ k,k < hashes.size->k∈order.toList:=by
 obtain⟨owner,h1,O⟩:=yX M hashes hl;have ex:laid mask finger moves led plain hashes=some ({mask,place:=(((List.range (mask+1)).filterMap λj=>(owner.getD j none).map (j,·)).map (·.1)).toArray,dummies:=#[],finger,led,moves,plain},(((List.range (mask+1)).filterMap λj=>(owner.getD j none).map (j,·)).map (·.2)).toArray):=by
  unfold laid;rw [h1]
  rfl
 generalize hL:((List.range (mask+1)).filterMap λj=>(owner.getD j none).map (j,·))=live at ex
 have gd:∀ j:Nat,owner.getD j none=(owner[j]?).getD none:=λj=>by simp [Array.getD_eq_getD_getElem?]
 have mem:∀ j k:Nat,(j,k)∈live↔owner[j]?=some (some k):=λj k=>by
  rw [<- hL,List.mem_filterMap]
  constructor
  ·rintro⟨j',h2,h3⟩;rw [Mq] at h3;obtain⟨k',h4,h5⟩:=h3;cases h5;rw [gd] at h4;cases h6:owner[j]? with
   | none=>rw [h6] at h4; cases h4
   | some o=>rw [h6] at h4; exact congrArg some h4
  ·intro h2;have hb:=(Array.getElem?_eq_some_iff.mp h2).1;refine⟨j,MB.mpr (by rw [<- O.sz]; exact hb),?_⟩
   rw [gd,h2]
   rfl
 have ord:live.map (·.2)=(List.range (mask+1)).filterMap λj=>owner.getD j none:=by
  rw [<- hL,List.map_filterMap]
  congr 1
  funext j
  cases owner.getD j none <;> rfl
 have onj:∀ j,j∈live.map (·.1)↔∃ k,owner[j]?=some (some k):=λj=>by
  rw [LF]
  constructor
  ·rintro⟨⟨j',k⟩,h2,rfl⟩;exact⟨k,(mem _ _).mp h2⟩
  ·rintro⟨k,h2⟩;exact⟨(j,k),(mem _ _).mpr h2,rfl⟩
 have lt:∀ j k:Nat,owner[j]?=some (some k)->j < mask+1:=λj k h2=>by rw [<- O.sz]; exact(Array.getElem?_eq_some_iff.mp h2).1
 refine⟨_,_,ex,⟨rfl,?_,?_,?_,M,?_⟩,rfl,rfl,rfl,rfl,?_,?_,?_⟩
 ·rw [tX]
  show(live.map (·.1)).Pairwise (· < ·)
  rw [List.pairwise_map,<- hL];refine List.Pairwise.filterMap _ (λa a' haa b hb b' hb'=>?_) List.pairwise_lt_range
  rw [Mq] at hb hb'
  obtain⟨k,_,rfl⟩:=hb;obtain⟨k',_,rfl⟩:=hb';exact haa
 ·simp
 ·intro j hj;rw [tT] at hj;obtain⟨k,hk⟩:=(onj j).mp hj;exact lt j k hk
 ·intro q hq;have hq:q∈(live.map (·.1)).zip ((live.map (·.2)).map λk=>hashes.toList.getD k 0):=hq
  rw [Mk,List.zip_map',LF] at hq;obtain⟨⟨j,k⟩,h2,rfl⟩:=hq;have h3:=(mem j k).mp h2;have h4:=O.lt j k h3;obtain⟨n,g1,g2⟩:=O.way j k (hashes.toList.getD k 0) h3 (by rw [Md,L6 h4]; rfl)
  refine⟨n,g1,λm hm=>?_⟩
  rw [tT];exact(onj _).mpr ((mL (by rw [O.sz]; exact Fv _ m)).mp (g2 m hm))
 ·rw [LI,ord,O.cnt,MF]
 ·intro k hk;have hk:k∈live.map (·.2):=hk;obtain⟨⟨j,k'⟩,h2,rfl⟩:=LF.mp hk;have:=O.lt j k' ((mem j k').mp h2);rw [MF] at this;exact this
 ·intro k hk
  show k∈live.map (·.2)
  obtain⟨j,hj⟩:=O.at' k (by rw [MF]; exact hk)
  exact LF.mpr ⟨(j,k),(mem j k).mpr hj,rfl⟩
def F5 (t:SetTable):Prop:=t.place.size*5 < t.mask*3
theorem Cc {mask n:Nat} (M:t6 mask) (h1:n*5 < mask*3) (h2:mask*3<=(n+1)*5) (hn:n < 76):t6 (sizeAbove (grown (n+1)) - 1)/\(n+1)*5 < (sizeAbove (grown (n+1)) - 1)*3:=by
 rcases M with rfl | rfl | rfl
 ·have:n=4:=by omega
  subst this;exact⟨.inr (.inl (by decide)),by decide⟩
 ·have:n=18:=by omega
  subst this;exact⟨.inr (.inr (by decide)),by decide⟩
 ·omega
end ST
namespace ST
open PySem PySem.SetTable PySem.Spec
section
variable {prog:MU} {w:MW} {K:Type} [DecidableEq K] {knd:KeyKind prog w K} {A:MV} {E:MQ->MP->Prop} {s:MP}
theorem nP (n:Nat) {v:MQ} (h:carriedByValue v=true):ofAClassStatement n v=pure false:=by
 cases v with
 | ref a=>simp [carriedByValue] at h
 | _=>cases n <;> first | rfl | simp [ofAClassStatement]
theorem fP {ks:List K} {a:MR} {Q:M1->MP->Prop} (hk:IsTupleKey knd s.heap ks a) (h:Q false s):wpAny (model prog w) A (ofAClassStatement 8 (.ref a)) Q E s:=by
 have hT:=hk.typeIs;obtain⟨o,items,n,ho,_,hd,hi⟩:=hk;unfold ofAClassStatement;refine gt (wpAny_typeOf hT ?_);dsimp only;refine gt (Lz ?_);simp only [Bool.not_true,MK,if_false];refine gt (Mb ho hd ?_);refine gt ?_
 show wpAny _ _ (forIn items _ _) _ _ s
 rw [<- Array.forIn_toList];refine wpAny_forIn_list _ (λam r s'=>r.1=none/\s'=s/\∀ v∈am,carriedByValue v=true) _ ?_ ?_ _ _ ⟨rfl,rfl,hi.byValue⟩
 ·rintro v am r s' ⟨hr,rfl,hall⟩;rw [nP _ (hall v LL)];refine gt (Lz ?_);simp only [MK,if_false];exact Lz ⟨rfl,rfl,λu hu'=>hall u (LM _ hu')⟩
 ·rintro⟨r1,r2⟩ s' ⟨hr,rfl,_⟩;simp only at hr;subst hr;exact Lz h
theorem nA {k:List K} {a:MR} {ys:List MQ} {Q:M1->MP->Prop} (hk:IsTupleKey knd s.heap k a) (hy:∀ y∈ys,∃ b k',y=.ref b/\IsTupleKey knd s.heap k' b) (h:Q false s):wpAny (model prog w) A (searchCouldBeSeen (.ref a) ys) Q E s:=by
 unfold searchCouldBeSeen;refine gt ?_;refine wpAny_forIn_list _ (λam r s'=>r.1=none/\s'=s/\∀ y∈am,∃ b k',y=.ref b/\IsTupleKey knd s.heap k' b) _ ?_ ?_ _ _ ⟨rfl,rfl,hy⟩
 ·rintro y am r s' ⟨hr,rfl,hall⟩;obtain⟨b,k',rfl,hb⟩:=hall _ LL;have tl:∀ y∈am,∃ b k',y=.ref b/\IsTupleKey knd s'.heap k' b:=λu hu'=>hall u (LM _ hu')
  dsimp only
  split
  ·exact Lz ⟨rfl,rfl,tl⟩
  ·refine gt (wpAny_eqIsQuiet_tuple hk ?_);simp only [Bool.not_true,MK,if_false];refine gt (wpAny_eqIsQuiet_tuple hb ?_);simp only [Bool.not_true,MK,if_false];refine gt (fP hk ?_);simp only [MK,if_false];refine gt (fP hb ?_);simp only [MK,if_false];exact Lz ⟨rfl,rfl,tl⟩
 ·rintro⟨r1,r2⟩ s' ⟨hr,rfl,_⟩;simp only at hr;subst hr;exact Lz h
def ent (knd:KeyKind prog w K) (x:List K×MR):Int×MQ:=(tupleKeyHash knd x.1,.ref x.2)
structure kd (knd:KeyKind prog w K) (h:MX) (a:MR) (o:M5) (es:MZ (Int×MQ)) (ep:Nat) (t:SetTable) (xs:List (List K×MR)):Prop where
 get:h.get? a=some o
 ex:o.ExactSet
 data:o.data=.set es ep t
 ent:es.toList=xs.map (ent knd)
 is:∀ x∈xs,IsTupleKey knd h x.1 x.2
 ti:TI t (xs.map λx=>tupleKeyHash knd x.1)
 lax:F5 t
theorem kd.size {h:MX} {a:MR} {o:M5} {es:MZ (Int×MQ)} {ep:Nat} {t:SetTable} {xs:List (List K×MR)} (S:kd knd h a o es ep t xs):es.size=xs.length:=by
 rw [<- MF,S.ent,LG]
theorem kd.len {h:MX} {a:MR} {o:M5} {es:MZ (Int×MQ)} {ep:Nat} {t:SetTable} {xs:List (List K×MR)} (S:kd knd h a o es ep t xs):xs.length<=t.mask:=by
 have h1:=S.lax;have h2:=S.ti.sz;unfold F5 at h1;rw [LG] at h2;omega
theorem kd.fits {h:MX} {a:MR} {o:M5} {es:MZ (Int×MQ)} {ep:Nat} {t:SetTable} {xs:List (List K×MR)} (S:kd knd h a o es ep t xs):t.fits es.size=true:=by
 rw [S.size];have:=S.ti.fits (by rw [LG]; exact S.len)
 rwa [LG] at this
theorem kd.at {h:MX} {a:MR} {o:M5} {es:MZ (Int×MQ)} {ep:Nat} {t:SetTable} {xs:List (List K×MR)} (S:kd knd h a o es ep t xs) (i:Nat):es[i]?=(xs[i]?).map (ST.ent knd):=by
 rw [<- Array.getElem?_toList,S.ent,L8]
theorem rK {a:MR} {o:M5} {es:MZ (Int×MQ)} {ep:Nat} {t:SetTable} {xs:List (List K×MR)} (hu:A.units < cLine) (S:kd knd s.heap a o es ep t xs) {k:List K} {b:MR} (hk:IsTupleKey knd s.heap k b) {N:Nat} (hN:¬ On t (sq t.mask (tupleKeyHash knd k) N).j) (hl:∀ m,m < N->On t (sq t.mask (tupleKeyHash knd k) m).j) (hb:N<=10*(t.mask+13)) {Q:SetFound->MP->Prop}
  (hq:(k∈xs.map (·.1)->Q (.there none) s)/\(k∉xs.map (·.1)->Q (.free (sq t.mask (tupleKeyHash knd k) N).j false) s)):
  ∀ (f m:Nat) (st:MS Probe),m<=N->N - m < f->st.getD (t.probeStart (tupleKeyHash knd k))=sq t.mask (tupleKeyHash knd k) m->(∀ (m' i:Nat) (x:List K×MR),m' < m->t.place[i]?=some (sq t.mask (tupleKeyHash knd k) m').j->xs[i]?=some x->x.1≠k)->
   wpAny (model prog w) A (setSearchFrom a (.ref b) (tupleKeyHash knd k) true f st) Q E s
 | 0,m,st,_,hf,_,_=>by omega
 | f+1,m,st,hm,hf,hst,hbef=>by
  unfold setSearchFrom;refine gt (wpAny_setState_of S.get S.data S.fits ?_);dsimp only;rw [S.ti.odd];simp only [MK,if_false];rw [hst];have sh:∀ {i:Nat} {x:List K×MR},xs[i]?=some x->(es[i]?.map (·.1)).getD 0=tupleKeyHash knd x.1:=λ{i x} e=>by rw [S.at,e]; rfl
  have pg:=u_ S.ti.dm S.ti.ris (ha:=λi=>(es[i]?.map (·.1)).getD 0) hN hl (10*turns t.mask) m hm (by unfold turns; omega)
  generalize hp:SetTable.probe t _ (tupleKeyHash knd k) (sq t.mask (tupleKeyHash knd k) m)=pr;have hp2:SetTable.probe.go t (λi=>(es[i]?.map (·.1)).getD 0) (tupleKeyHash knd k) (10*turns t.mask) (sq t.mask (tupleKeyHash knd k) m)=pr:=hp
  have ix:∀ {i j:Nat},t.place[i]?=some j->∃ x,xs[i]?=some x:=λ{i j} e=>by
   have h1:=(Array.getElem?_eq_some_iff.mp e).1;have h2:=S.ti.sz;rw [LG] at h2;exact⟨xs[i]'(by omega),by simp [show i < xs.length by omega]⟩
  rcases pg with ⟨m',i,g1,g2,g3,g4,g5,g6⟩ | ⟨g5,g6⟩
  ·rw [g6] at hp2;subst hp2;dsimp only;obtain⟨x,hx⟩:=ix g3;have hxm:=List.mem_of_getElem? hx;have he:es[i]?=some (tupleKeyHash knd x.1,.ref x.2):=by rw [S.at,hx]; rfl
   have sm:t.sameMemory t.moves t.mask=some true:=by unfold SetTable.sameMemory; rw [if_pos (by simp)]
   have rec':=λne:x.1≠k=>rK hu S hk hN hl hb hq f (m'+1) (some (sq t.mask (tupleKeyHash knd k) (m'+1))) (by omega) (by omega) rfl (λm2 i2 x2 q1 q2 q3=>by
    rcases Nat.lt_trichotomy m2 m with z | z | z
    ·exact hbef m2 i2 x2 z q2 q3
    ·by_cases y:m2=m'
     ·subst y;have e1:=gO S.ti.ris q2;have e2:=gO S.ti.ris g3;have:i2=i:=by omega
      subst this;rw [hx] at q3;cases q3;exact ne
     ·exact λy2=>g5 m2 i2 (by omega) (by omega) q2 (by rw [sh q3,y2])
    ·by_cases y:m2=m'
     ·subst y;have e1:=gO S.ti.ris q2;have e2:=gO S.ti.ris g3;have:i2=i:=by omega
      subst this;rw [hx] at q3;cases q3;exact ne
     ·exact λy2=>g5 m2 i2 (by omega) (by omega) q2 (by rw [sh q3,y2]))
   have stored:∀ y∈(es.filter (λe=>e.1 == tupleKeyHash knd k)).toList.map (·.2),∃ b k',y=.ref b/\IsTupleKey knd s.heap k' b:=λy hy=>by
    obtain⟨e,he2,rfl⟩:=LF.mp hy;have he3:e∈es.toList:=by
     have:=Array.mem_toList_iff.mp he2;exact Array.mem_toList_iff.mpr (Array.mem_filter.mp this).1
    rw [S.ent] at he3;obtain⟨x',hx',rfl⟩:=LF.mp he3;exact⟨x'.2,x'.1,rfl,S.is x' hx'⟩
   cases hled:t.led with
   | true=>
    simp only [Bool.not_true,MK,if_false];rw [he];dsimp only;refine gt (L5 (wpAny_eqBool_tuple hu (S.is x hxm) hk ?_));refine gt (wpAny_setState_of S.get S.data S.fits ?_);dsimp only
    by_cases e:x.1=k
    ·rw [decide_eq_true e];simp only [Bool.and_self,if_true];exact Lz (hq.1 (LF.mpr ⟨x,hxm,e⟩))
    ·rw [Mv e];simp only [Bool.and_false,MK,if_false];rw [sm];dsimp only;rw [if_pos rfl,nE S.ti.ris g3];dsimp only;rw [he];dsimp only;refine gt (wpAny_isSame_ref_self ?_);refine gt (Lz ?_);simp only [if_true];exact rec' e
   | false=>
    simp only [Bool.not_false,if_true];refine gt (nA hk stored ?_);simp only [MK,if_false];rw [he];dsimp only;refine gt (L5 (wpAny_eqBool_tuple hu (S.is x hxm) hk ?_));refine gt (wpAny_setState_of S.get S.data S.fits ?_);dsimp only
    by_cases e:x.1=k
    ·rw [decide_eq_true e];simp only [Bool.and_self,if_true];exact Lz (hq.1 (LF.mpr ⟨x,hxm,e⟩))
    ·rw [Mv e];simp only [Bool.and_false,MK,if_false];rw [sm];dsimp only;rw [if_pos rfl,nE S.ti.ris g3];dsimp only;rw [he];dsimp only;refine gt (wpAny_isSame_ref_self ?_);refine gt (Lz ?_);simp only [if_true];exact rec' e
  ·rw [g6] at hp2;subst hp2;dsimp only;refine Lz (hq.2 λhmem=>?_)
   obtain⟨x,hxm,e⟩:=LF.mp hmem;obtain⟨i,hi⟩:=List.mem_iff_getElem?.mp hxm;have hsz:=S.ti.sz;rw [LG] at hsz;have hlt:i < t.place.size:=by
    have:=(Mf.mp hi).1;omega
   have hpl:t.place[i]?=some t.place[i]:=by simp [hlt]
   obtain⟨m2,q1,q2⟩:=S.ti.met (h:=tupleKeyHash knd k) (i:=i) (j:=t.place[i]) hN (by rw [L8,hi]; show some (tupleKeyHash knd x.1)=_; rw [e]) hpl
   rw [<- q2] at hpl
   by_cases z:m2 < m
   ·exact hbef m2 i x z hpl hi e
   ·exact g5 m2 i (by omega) q1 hpl (by rw [sh hi,e])
theorem pG (n:Nat) {v:MQ} (h:carriedByValue v=true):∃ c,hashByValue n v=pure c:=by
 cases v with
 | ref a=>simp [carriedByValue] at h
 | _=>cases n <;> exact⟨_,rfl⟩
theorem ll {ks:List K} {a:MR} {Q:M1->MP->Prop} (hk:IsTupleKey knd s.heap ks a) (h:∀ c,Q c s):wpAny (model prog w) A (hashByValue 8 (.ref a)) Q E s:=by
 have hT:=hk.typeIs;obtain⟨o,items,n,ho,_,hd,hi⟩:=hk;unfold hashByValue;refine gt (wpAny_specialOf hT F.slot_tuple_hash.lookup ?_);dsimp only;refine gt (Mb ho hd ?_);dsimp only [Option.getD_some];refine gt ?_
 show wpAny _ _ (forIn items _ _) _ _ s
 rw [<- Array.forIn_toList];refine wpAny_forIn_list _ (λam r s'=>s'=s/\∀ v∈am,carriedByValue v=true) _ ?_ ?_ _ _ ⟨rfl,hi.byValue⟩
 ·rintro v am r s' ⟨rfl,hall⟩;obtain⟨c,hc⟩:=pG 7 (hall v LL);rw [hc];refine gt (Lz ?_);cases c with
  | true=>
   simp only [Bool.not_true,MK,if_false];exact Lz ⟨rfl,λu hu'=>hall u (LM _ hu')⟩
  | false=>
   simp only [Bool.not_false,if_true];exact Lz (Lz (h false))
 ·rintro⟨r1,r2⟩ s' ⟨rfl,_⟩;cases r1 with
  | none=>exact Lz (h true)
  | some c=>exact Lz (h c)
theorem zM {h h':MX} {ks:List K} {a d:MR} {o:M5} {es:MZ (Int×MQ)} {ep:Nat} {t:SetTable} (x:IsTupleKey knd h ks a) (ho:h.get? d=some o) (hd:o.data=.set es ep t) (hs:Heap.SameBut d h h'):IsTupleKey knd h' ks a:=by
 obtain⟨o',items,n,ho',hc,hd',hi⟩:=x;have hne:a≠d:=by
  rintro rfl;obtain rfl:o'=o:=Ma (ho'.symm.trans ho);rw [hd] at hd';exact nomatch hd'
 exact⟨o',items,n,(hs.2 a hne).trans ho',hc,hd',hi⟩
theorem TI.plain {t:SetTable} {hs:List Int} (T:TI t hs) (b:M1):TI {t with plain:=b} hs:=⟨T.dm,T.ris,T.sz,T.le,T.msk,T.way⟩
theorem kd.store {h:MX} {a:MR} {o:M5} {es:MZ (Int×MQ)} {ep:Nat} {t:SetTable} {xs':List (List K×MR)} {es':MZ (Int×MQ)} {t':SetTable} (ho:h.get? a=some o) (hex:o.ExactSet) (hd:o.data=.set es ep t) (he:es'.toList=xs'.map (ST.ent knd)) (hi:∀ x∈xs',IsTupleKey knd h x.1 x.2) (T:TI t' (xs'.map λx=>tupleKeyHash knd x.1)) (hl:F5 t'):
  kd knd (h.update a (Obj.putSet es' t')) a {o with data:=.set es' (ep+1) t'} es' (ep+1) t' xs':=by
 have hg:(h.update a (Obj.putSet es' t')).get? a=some {o with data:=.set es' (ep+1) t'}:=by
  have:=Mm (Obj.putSet es' t') ho (by rw [putSet_of es' t' hd]; rfl)
  rw [putSet_of es' t' hd] at this;exact this
 exact⟨hg,hex,rfl,he,λx hx=>zM (hi x hx) ho hd (MO h a _),T,hl⟩
theorem Cb {α:Type} {l:List α} {n:Nat} (hn:l.length=n):∀ {ks:List Nat},(∀ k∈ks,k < n)->(ks.filterMap λk=>l[k]?).length=ks.length
 | [],_=>rfl
 | k::ks,h=>by
  have hk:=h k LL;rw [List.filterMap_cons,L6 (by omega)]
  show(ks.filterMap λk=>l[k]?).length+1=ks.length+1
  rw [Cb hn λk hk=>h k (LM _ hk)]
theorem zG {α:Type} {l:List α} {g:α->Int}:∀ {ks:List Nat},(∀ k∈ks,k < l.length)->(ks.map λk=>(l.map g).getD k 0)=(ks.filterMap λk=>l[k]?).map g
 | [],_=>rfl
 | k::ks,h=>by
  have hk:=h k LL;rw [List.filterMap_cons,L6 hk,LP,zG λk hk=>h k (LM _ hk)]
  show _=g l[k]::_
  rw [Md,L8,L6 hk]
  rfl
theorem Cz {t:SetTable} {hs:List Int} (T:TI t hs) {j:Nat}:(t.put j).1.place.size=t.place.size+1:=by
 have e:=congrArg List.length (i9 t j);have hp:=wP t T.ris j;simp only [MF,LY,List.length_take,LQ,List.length_drop] at e;omega
theorem zh {a:MR} {o:M5} {es:MZ (Int×MQ)} {ep:Nat} {t:SetTable} {xs:List (List K×MR)} {n:Nat} (ho:s.heap.get? a=some o) (hex:o.ExactSet) (hd:o.data=.set es ep t) (he:es.toList=xs.map (ST.ent knd)) (hi:∀ x∈xs,IsTupleKey knd s.heap x.1 x.2) (hf:t.fits es.size=true) (hx:xs.length=n+1) (M:t6 (sizeAbove (grown (n+1)) - 1)) (hl:(n+1)*5 < (sizeAbove (grown (n+1)) - 1)*3) {Q:Unit->MP->Prop}
  (h:∀ h' o' es' ep' t' xs',Heap.SameBut a s.heap h'->kd knd h' a o' es' ep' t' xs'->xs'.length=xs.length->(∀ x,x∈xs'↔x∈xs)->Q () {s with heap:=h'}):wpAny (model prog w) A (setRelay a (grown (n+1))) Q E s:=by
 have hes:es.size=n+1:=by rw [<- MF,he,LG,hx]
 obtain⟨t',order,l1,l2,l3,l4,l5,l6,l7,l8,l9⟩:=CN M t.finger (t.movedTo (sizeAbove (grown (n+1)) - 1)) t.led t.plain (es.map (·.1)) (by rw [Array.size_map,hes]; omega)
 rw [Array.size_map] at l7 l8 l9
 have hmap:(es.map (·.1)).toList=xs.map λx=>tupleKeyHash knd x.1:=by
  rw [Array.toList_map,he,Mk]
  rfl
 rw [hmap,zG (by rw [hx,<- hes]; exact l8)] at l2
 have e1:(order.filterMap (es[·]?)).toList=(order.toList.filterMap λk=>xs[k]?).map (ST.ent knd):=by
  rw [Array.toList_filterMap,List.map_filterMap]
  congr 1
  funext k
  rw [<- Array.getElem?_toList,he,L8]
 have len:(order.toList.filterMap λk=>xs[k]?).length=n+1:=by
  rw [Cb (n:=n+1) hx (by rw [<- hes]; exact l8),MF,l7,hes]
 have sz:(order.filterMap (es[·]?)).size=n+1:=by rw [<- MF,e1,LG,len]
 have mem:∀ x,x∈(order.toList.filterMap λk=>xs[k]?)↔x∈xs:=λx=>by
  rw [List.mem_filterMap]
  constructor
  ·rintro⟨k,_,h2⟩;exact List.mem_of_getElem? h2
  ·intro h2;obtain⟨k,hk⟩:=List.mem_iff_getElem?.mp h2;exact⟨k,l9 k (by rw [hes,<- hx]; exact(Mf.mp hk).1),hk⟩
 have lx:F5 t':=by
  unfold F5;have:=l2.sz;rw [LG,len] at this;rw [this,l3];exact hl
 unfold setRelay;refine gt (wpAny_setState_of ho hd hf ?_);dsimp only;rw [if_neg (by
  have:sizeAbove (grown (n+1))<=128:=by rcases M with z | z | z <;> omega
  exact Nat.not_lt.mpr (Mi this (LV (rfl:Nat.ble 128 sizeLine=true))))]
 refine gt ?_;have rl:t.relaid (es.map (·.1)) (grown (n+1))=some (t',order):=l1;rw [rl];have ro:∀ R:MZ (Int×MQ)×SetTable->MP->Prop,R (order.filterMap (es[·]?),t') s->wpAny (model prog w) A (do
   let some (t,order):=some (t',order) | unsupported "internal:set-table-without-room"
   let es':=order.filterMap (es[·]?)
   if es'.size != es.size then unsupported "internal:set-table-lost-an-element"
   pure (es',t)) R E s:=λR hR=>by
  dsimp only;rw [sz,hes];simp only [bne_self_eq_false,MK,if_false];exact Lz hR
 refine ro _ ?_;refine wpAny_storeSet_of ho hd ?_ (by rw [sz]; have:=hl; exact Mi (show n+1<=128 by rcases M with z | z | z <;> omega) (LV (rfl:Nat.ble 128 sizeLine=true)))
 exact h _ _ _ _ _ _ (MO s.heap a _) (kd.store ho hex hd e1 (λx hx=>hi x ((mem x).mp hx)) l2 lx) (by rw [len,hx]) mem
theorem F6 {a:MR} {o:M5} {es:MZ (Int×MQ)} {ep:Nat} {t:SetTable} {xs:List (List K×MR)} (hu:A.units < cLine) (S:kd knd s.heap a o es ep t xs) {k:List K} {b:MR} (hk:IsTupleKey knd s.heap k b) (hn:xs.length < 76) {Q:M1->MP->Prop}
  (yes:k∈xs.map (·.1)->Q false s)
  (no:k∉xs.map (·.1)->∀ h' o' es' ep' t' xs',Heap.SameBut a s.heap h'->kd knd h' a o' es' ep' t' xs'->xs'.length=xs.length+1->(∀ x,x∈xs'↔x=(k,b)\/x∈xs)->Q true {s with heap:=h'}):
  wpAny (model prog w) A (setAddHashed a (.ref b) (tupleKeyHash knd k)) Q E s:=by
 obtain⟨N,hb,hN,hl⟩:=S.ti.ends (by rw [LG]; exact S.len) (tupleKeyHash knd k)
 unfold setAddHashed setAddHashedIn;refine L5 (gt (wpAny_setState_of S.get S.data S.fits ?_));dsimp only;rw [show byScan (.ref b) es=false from rfl]
 simp only [MK,if_false];refine gt ?_;unfold setSearch;have mk:=S.ti.msk;have hm:t.mask<=127:=by rcases mk with z | z | z <;> omega
 refine rK hu S hk hN hl hb ⟨λhin=>?_,λhout=>?_⟩ 100000 0 none (Mw _) (by omega) rfl (λm' i x z=>by omega)
 ·exact Lz (yes hin)
 ·dsimp only;refine gt (wpAny_setState_of S.get S.data S.fits ?_);dsimp only;have hsz:=S.size;have hlen:=S.len;have hlax:=S.lax;have tsz:=S.ti.sz;rw [LG] at tsz;have T1:=S.ti.put hN hl;have psz:=Cz S.ti (j:=(sq t.mask (tupleKeyHash knd k) N).j);have ple:=wP t S.ti.ris (sq t.mask (tupleKeyHash knd k) N).j;have pm:(t.put (sq t.mask (tupleKeyHash knd k) N).j).1.mask=t.mask:=rfl;generalize hP:(t.put (sq t.mask (tupleKeyHash knd k) N).j).2=p at*
  generalize hT:(t.put (sq t.mask (tupleKeyHash knd k) N).j).1=t1 at*
  have hx1:(xs.take p++(k,b)::xs.drop p).map (λx=>tupleKeyHash knd x.1)=(xs.map λx=>tupleKeyHash knd x.1).take p++tupleKeyHash knd k::(xs.map λx=>tupleKeyHash knd x.1).drop p:=by
   rw [List.map_append,LP,List.map_take,List.map_drop]
  rw [<- hx1] at T1;have he1:(insertAt es p (tupleKeyHash knd k,Value.ref b)).toList=(xs.take p++(k,b)::xs.drop p).map (ST.ent knd):=by
   rw [SetTable.toList_insertAt,S.ent,List.map_append,LP,List.map_take,List.map_drop]
   rfl
  have len1:(xs.take p++(k,b)::xs.drop p).length=xs.length+1:=by
   rw [LY,List.length_take,LQ,List.length_drop];omega
  have es1:(insertAt es p (tupleKeyHash knd k,Value.ref b)).size=xs.length+1:=by rw [<- MF,he1,LG,len1]
  have mem1:∀ x,x∈xs.take p++(k,b)::xs.drop p↔x=(k,b)\/x∈xs:=λx=>by
   rw [List.mem_append,LJ]
   constructor
   ·rintro(z | z | z)
    ·exact .inr (List.mem_of_mem_take z)
    ·exact .inl z
    ·exact .inr (List.mem_of_mem_drop z)
   ·rintro(z | z)
    ·exact .inr (.inl z)
    ·rw [<- List.take_append_drop p xs] at z;rcases List.mem_append.mp z with z | z
     ·exact .inl z
     ·exact .inr (.inr z)
  have hi1:∀ x∈xs.take p++(k,b)::xs.drop p,IsTupleKey knd s.heap x.1 x.2:=λx hx=>by
   rcases(mem1 x).mp hx with rfl | hx
   ·exact hk
   ·exact S.is x hx
  have fin:∀ T:SetTable,TI T ((xs.take p++(k,b)::xs.drop p).map λx=>tupleKeyHash knd x.1)->T.mask=t.mask->wpAny (model prog w) A (do
    storeSet a (insertAt es p (tupleKeyHash knd k,Value.ref b)) T
    if (!false && T.tooFull) = true then do
        setRelay a (grown (es.size+1))
        pure true
     else pure true) Q E s:=λT hT hm2=>by
   refine gt (wpAny_storeSet_of S.get S.data ?_ (by rw [es1]; exact Mi (show xs.length+1<=128 by omega) (LV (rfl:Nat.ble 128 sizeLine=true))))
   have Tsz:=hT.sz;rw [LG,len1] at Tsz;have tf:T.tooFull=decide ((xs.length+1)*5 ≥ t.mask*3):=by
    unfold SetTable.tooFull SetTable.fill;rw [hT.dm,Tsz,hm2]
    rfl
   rw [tf]
   by_cases full:(xs.length+1)*5 ≥ t.mask*3
   ·rw [decide_eq_true full,if_pos (by decide)]
    have hg:(s.heap.update a (Obj.putSet (insertAt es p (tupleKeyHash knd k,Value.ref b)) T)).get? a=some {o with data:=.set (insertAt es p (tupleKeyHash knd k,Value.ref b)) (ep+1) T}:=by
     have:=Mm (Obj.putSet (insertAt es p (tupleKeyHash knd k,Value.ref b)) T) S.get (by rw [putSet_of _ T S.data]; rfl)
     rw [putSet_of _ T S.data] at this;exact this
    have lx0:xs.length*5 < t.mask*3:=by
     unfold F5 at hlax;rw [tsz] at hlax;exact hlax
    obtain⟨gm1,gm2⟩:=Cc mk lx0 full hn;have ff:T.fits (insertAt es p (tupleKeyHash knd k,Value.ref b)).size=true:=by
     have:=hT.fits (by rw [LG,len1,hm2]; rcases mk with z | z | z <;> omega)
     rw [LG,len1] at this;rw [es1];exact this
    have up:=MO s.heap a (Obj.putSet (insertAt es p (tupleKeyHash knd k,Value.ref b)) T);refine gt ?_;rw [hsz];refine zh (s:={s with heap:=s.heap.update a (Obj.putSet (insertAt es p (tupleKeyHash knd k,Value.ref b)) T)}) hg S.ex rfl he1 (λx hx=>zM (hi1 x hx) S.get S.data up) ff len1 gm1 gm2 λh' o' es' ep' t' xs' sb SH l m=>Lz ?_
    exact no hout h' o' es' ep' t' xs' (up.trans sb) SH (by rw [l,len1]) λx=>(m x).trans (mem1 x)
   ·rw [Mv full,if_neg (by decide)]
    exact Lz (no hout _ _ _ _ _ _ (MO s.heap a _) (kd.store S.get S.ex S.data he1 hi1 hT (by unfold F5; rw [Tsz,hm2]; omega)) len1 mem1)
  split
  ·refine gt (ll hk λc=>?_)
   cases c with
   | true=>exact fin t1 T1 pm
   | false=>exact fin {t1 with plain:=false} (T1.plain false) pm
  ·exact gt (Lz (fin t1 T1 pm))
end
end ST
namespace ST
open PySem PySem.SetTable PySem.Spec PyProof.Rows
def kf {α:Type} [DecidableEq α] (a:List α) (k:α):List α:=if k∈a then a else a++[k]
def dd {α:Type} [DecidableEq α] (l:List α):List α:=l.foldl kf []
theorem oB {α:Type} [DecidableEq α] (l:List α) (k:α):dd (l++[k])=kf (dd l) k:=by unfold dd; rw [List.foldl_append]; rfl
theorem rC {α:Type} [DecidableEq α] {a:List α} {k x:α}:x∈kf a k↔x=k\/x∈a:=by
 unfold kf
 split
 ·exact⟨.inr,λh=>h.elim (λe=>by subst e; assumption) id⟩
 ·rw [List.mem_append,List.mem_singleton];exact or_comm
theorem rb {α:Type} [DecidableEq α] {a:List α} {k:α}:(kf a k).length=if k∈a then a.length else a.length+1:=by
 unfold kf
 split
 ·rfl
 ·rw [LY]; rfl
theorem v9 {α:Type} [DecidableEq α]:∀ (l:List α) (a:List α),(l.foldl kf a).length<=a.length+l.length
 | [],a=>LD _
 | k::l,a=>by
  have h:=v9 l (kf a k);have h2:=rb (a:=a) (k:=k);rw [List.foldl_cons,LQ]
  split at h2 <;> omega
section
variable {prog:MU} {w:MW} {K:Type} [DecidableEq K] {knd:KeyKind prog w K} {A:MV} {R:Result->MP->Prop} {I:MR} {fp wr:List MR} {G:MZ GenState->MZ GenState->Prop} {n:Nat} {P:Nat->MQ->Prop} {St:Nat->MP->Prop}
def Holds (knd:KeyKind prog w K) (h:MX) (S:MR) (V:MR->Prop) (l:List (List K)):Prop:=∃ o es ep t xs,kd knd h S o es ep t xs/\xs.length=(dd l).length/\(∀ k,k∈xs.map (·.1)↔k∈dd l)/\∀ x∈xs,V x.2
theorem rp {s s':MP} {k:List K} {b:MR} (hm:Moved wr G s s') (hw:b∉wr) (x:IsTupleKey knd s.heap k b):IsTupleKey knd s'.heap k b:=by
 obtain⟨o,items,m,ho,r⟩:=x;exact⟨o,items,m,hm.heap b o hw ho,r⟩
theorem Holds.moved {s s':MP} {S:MR} {l:List (List K)} (hm:Moved wr G s s') (hw:S∉wr) (x:Holds knd s.heap S (·∉wr) l):Holds knd s'.heap S (·∉wr) l:=by
 obtain⟨o,es,ep,t,xs,s1,r1,r2,r3⟩:=x;exact⟨o,es,ep,t,xs,⟨hm.heap S _ hw s1.get,s1.ex,s1.data,s1.ent,λx hx=>rp hm (r3 x hx) (s1.is x hx),s1.ti,s1.lax⟩,r1,r2,r3⟩
theorem Ic (W:WalksS prog w A.in1 I fp wr G n P St) (S:MR) (hSf:S∉fp) (ks:List (List K)) (ad:Nat->MR) (hn:ks.length=n) (hP:∀ i v,P i v->v=.ref (ad i)) (hb:n<=76) (hu:A.units+1 < cLine) (hw:∀ i,i < n->ad i∉wr):
  ∀ (k i:Nat) (s:MP),n - i=k->i<=n->St i s->Holds knd s.heap S (·∉wr) (ks.take i)->(∀ i (h:i < n),IsTupleKey knd s.heap (ks[i]'(by omega)) (ad i))->
   (∀ s',Moved (S::wr) G s s'->Holds knd s'.heap S (·∉wr) ks->R (.ok (.ret .none)) s')->
   codeAny (model prog w) A (.builtin "set.update.loop" ⟨[.ref S,.ref I],[]⟩) R s:=by
 have hSw:S∉wr:=λh=>hSf (W.sub _ h)
 have hsub:∀ b∈wr,b∈S::wr:=λb hb=>LM _ hb
 intro k
 induction k with
 | zero=>
  intro i s hk hi hst hS hkeys hR;have hin:i=n:=by omega
  subst hin;refine Mc F.entry_set_update_loop ?_;rw [LZ F.plain_set_update_loop _]
  show wpAny _ A.in1 (pyNext (.ref I) >>= _) _ _ s
  refine gt (W.done s _ _ hst λs' hm=>?_)
  show wpAny _ A.in1 (ret Value.none) _ _ s'
  rw [List.take_of_length_le (by omega)] at hS
  exact Lz (hR s' (hm.mono hsub) (hS.moved hm hSw))
 | succ k ih=>
  intro i s hk hi hst hS hkeys hR;have hlt:i < n:=by omega
  refine Mc F.entry_set_update_loop ?_;rw [LZ F.plain_set_update_loop _]
  show wpAny _ A.in1 (pyNext (.ref I) >>= _) _ _ s
  refine gt (W.item i s _ _ hlt hst λv s' hPv hst' hm=>?_)
  have hv:=hP i v hPv;subst hv;obtain⟨o,es,ep,t,xs,s2,hl,hmem,hxw⟩:=hS.moved hm hSw;have hkeys':∀ i (h:i < n),IsTupleKey knd s'.heap (ks[i]'(by omega)) (ad i):=λi h=>rp hm (hw i h) (hkeys i h)
  show wpAny _ A.in1 (holding [Value.ref (ad i)] (setAdd S (.ref (ad i))) >>= _) _ _ s'
  refine gt (L5 ?_);unfold setAdd;refine L5 ?_;have hu1:A.in1.units < cLine:=hu;refine gt ((tupleKind knd).pyHash (k:=ks[i]'(by omega)) hu1 (hkeys' i hlt) ?_)
  have tk:ks.take (i+1)=ks.take i++[ks[i]'(by omega)]:=by rw [List.take_succ_eq_append_getElem (by omega)]
  have hxl:xs.length < 76:=by
   have:=v9 (ks.take i) [];rw [List.length_take] at this;unfold dd at hl;simp at this;omega
  have ds:=rb (a:=dd (ks.take i)) (k:=ks[i]'(by omega))
  refine F6 (s:={s' with toks:=s'.toks+(tupleKind knd).draws (ks[i]'(by omega))}) hu1 s2 (hkeys' i hlt) hxl (λhin=>?_) (λhout h' o' es' ep' t' xs' sb SH l m=>?_)
  ·have hin':=(hmem _).mp hin;rw [if_pos hin'] at ds;refine Lz ⟨plainId_quiet F.plain_set_update_loop _,ih (i+1) _ (by omega) hlt (W.frame _ s' _ _ hst' (Nat.le_add_right _ _) λb hb o e=>e) ⟨o,es,ep,t,xs,s2,?_,λx=>?_,hxw⟩ hkeys' λs'' hm'' hS''=>hR s'' (Moved.trans W.gtrans ((hm.mono hsub).then_heap (Nat.le_add_right _ _) λb o hb e=>e) hm'') hS''⟩
   ·rw [tk,oB,ds]; exact hl
   ·rw [tk,oB,rC,hmem x];exact⟨.inr,λz=>z.elim (λz=>by rw [z]; exact hin') id⟩
  ·have hout':ks[i]'(by omega)∉dd (ks.take i):=λz=>hout ((hmem _).mpr z)
   rw [if_neg hout'] at ds;have hkeep:∀ k b,IsTupleKey knd s'.heap k b->IsTupleKey knd h' k b:=λk b x=>zM x s2.get s2.data sb
   refine Lz ⟨plainId_quiet F.plain_set_update_loop _,ih (i+1) _ (by omega) hlt (W.frame _ s' _ _ hst' (Nat.le_add_right _ _) λb hb o e=>?_) ⟨o',es',ep',t',xs',SH,?_,λx=>?_,λx hx=>?_⟩ (λi h=>hkeep _ _ (hkeys' i h)) λs'' hm'' hS''=>hR s'' (Moved.trans W.gtrans ((hm.mono hsub).then_heap (Nat.le_add_right _ _) λb o hb e=>?_) hm'') hS''⟩
   ·rw [sb.2 b (λh:b=S=>hSf (by rw [<- h]; exact hb))]; exact e
   ·rw [tk,oB,ds,l,hl]
   ·rw [tk,oB,rC,<- hmem x,LF,LF]
    constructor
    ·rintro⟨y,hy,rfl⟩;rcases(m y).mp hy with rfl | hy
     ·exact .inl rfl
     ·exact .inr ⟨y,hy,rfl⟩
    ·rintro(rfl | ⟨y,hy,rfl⟩)
     ·exact⟨_,(m _).mpr (.inl rfl),rfl⟩
     ·exact⟨y,(m y).mpr (.inr hy),rfl⟩
   ·rcases(m x).mp hx with rfl | hx
    ·exact hw i hlt
    ·exact hxw x hx
   ·rw [sb.2 b (λh:b=S=>hb (by rw [h]; exact LL))]; exact e
end
end ST
namespace ST
open PySem PySem.SetTable PySem.Spec PyProof.Rows PySem.Builtin
abbrev zV (led:M1):M5:={cls:=.type "set",dict:=none,data:=.set #[] 0 (.fresh 0 0 led)}
section
variable {prog:MU} {w:MW} {K:Type} [DecidableEq K] {knd:KeyKind prog w K} {A:MV} {E:MQ->MP->Prop} {s:MP}
theorem qN (a:MQ) {Q₁:MQ->MP->Prop} (h:Q₁ (.ref s.heap.objs.size) {s with heap:=s.heap.push (zV (!w.params.followText "set-order"))}):
  codeAny (model prog w) A (.call (.builtin "set.__new__") ⟨[.type "set",a],[]⟩) (wants Q₁ E) s:=by
 refine codeAny_of_tree ?_
 show wpAny _ A.in1 (do checkBuiltinCall "set.__new__" ⟨[.type "set",a],[]⟩; again (.builtin "set.__new__" ⟨[.type "set",a],[]⟩)) _ _ s
 refine gt (wpAny_of_eq (F.newCall_set_1 a) (Lz ⟨plainId_quiet F.plain_set_new _,Mc F.entry_set_new ?_⟩));rw [LZ F.plain_set_new _];unfold Builtin.«set.__new__» Builtin.Frozenset.newClass;have hsub:=sub_set_self;obtain⟨hp,g,d,tk,os⟩:=s;dsimp only
 wp_walk
 refine wpAny_askSetting (Lz ?_);dsimp only;simp only [newObj];exact gt (wpAny_alloc (Lz (Lz h)))
theorem o0 {l:MR} {items:MZ MQ} {ks:List (List K)} {ad:Nat->MR} {led:M1} {R:Result->MP->Prop} (hh:A.handled=none) (hl:s.heap.IsList l items) (hu:A.units+8 < cLine) (hn:ks.length=items.size) (hb:items.size<=76) (hP:∀ (i:Nat) (v:MQ),items[i]?=some v->v=.ref (ad i)) (hk:∀ (i:Nat) (h:i < items.size),IsTupleKey knd s.heap (ks[i]'(by omega)) (ad i))
  (h:∀ (h':MX) (tk:Nat),Holds knd h' s.heap.objs.size (λ_=>True) ks->(∀ b o,b < s.heap.objs.size->s.heap.get? b=some o->h'.get? b=some o)->R (.ok (.ret Value.none)) {s with heap:=h',toks:=tk}):
  wpAny (model prog w) A (Builtin.«set.__init__» ⟨[.ref s.heap.objs.size,.ref l],[]⟩) (λfin s'=>∃ v,fin=Fin.done (Flow.ret v)/\R (.ok (.ret v)) s') (λe s'=>R (.error e) s') {s with heap:=s.heap.push (zV led)}:=by
 obtain⟨⟨ocls,odict,odata,oslots⟩,hol,hcl,nl,hdl⟩:=id hl;simp only at hcl hdl
 subst hcl hdl;have hS:(s.heap.push (zV led)).get? s.heap.objs.size=some (zV led):=LA _ rfl;have hol':=Ly (h:=s.heap) (zV led) hol;have s1:=F.sub_list_set;have s2:=F.sub_list_frozenset;have hne:(Value.type "list" == Value.type "dict")=false:=by decide
 unfold Builtin.«set.__init__» noKeywords Builtin.Frozenset.updateFrom;generalize hPI:pyIter=PI
 wp_walk
 subst hPI;have hl1:(s.heap.push (zV led)).IsList l items:=⟨_,hol',rfl,nl,rfl⟩;have hlt:l < s.heap.objs.size:=LC hol;have hsz:(s.heap.push (zV led)).objs.size=s.heap.objs.size+1:=Heap.size_push _ _;refine wpAny_pyIter_list hl1 (gt (wpAny_runValue ?_));have hadl:∀ i,i < items.size->ad i < s.heap.objs.size:=λi h=>by
  obtain⟨o,_,_,ho,_⟩:=hk i h;exact LC ho
 have up2:∀ (b:MR) (kk:List K),IsTupleKey knd s.heap kk b->IsTupleKey knd ((s.heap.push (zV led)).push {cls:=.type "list_iterator",data:=.fields #[.ref l,.int 0 0]}) kk b:=λb kk ⟨o,its,m,ho,r⟩=>⟨o,its,m,Ly _ (Ly _ ho),r⟩
 refine Ic (knd:=knd) ((Walks.list (by simp [hh]) _ l (by rw [hsz]; exact LK (Nat.lt_succ_of_lt hlt)) items).toS) s.heap.objs.size
  (by rw [hsz]; simp only [LJ,LU,or_false,not_or]; exact⟨LK (Nat.lt_succ_self _),Nat.ne_of_gt hlt⟩) ks ad hn hP hb (by have h1:A.in1.units=A.units+1:=rfl; have h2:A.in1.in1.units=A.units+2:=rfl; have h3:A.in1.in1.in1.units=A.units+3:=rfl; omega)
  (λi h=>by rw [hsz]; simp only [LJ,LU,or_false]; exact LK (Nat.lt_succ_of_lt (hadl i h))) (items.size - 0) 0 _ (by omega) (Mw _)
  ⟨⟨_,LA _ rfl,rfl,rfl⟩,hl1.push _⟩ ?setA (λi h=>up2 _ _ (hk i h)) ?setB
 case setA=>
  exact⟨zV led,#[],0,.fresh 0 0 led,[],⟨Ly _ hS,⟨rfl,rfl,rfl⟩,rfl,rfl,(λ_ h=>by cases h),TI.fresh 0 0 led,by show 0*5 < 7*3; decide⟩,rfl,(λk=>by show k∈[]↔k∈dd ([]:List (List K)); exact Iff.rfl),λ_ h=>by cases h⟩
 case setB=>
  rintro⟨h',g',d',tk',os'⟩ hm hS';cases (show g'=s.gens from hm.gens)
  cases (show d'=s.drawn from hm.drawn)
  cases (show os'=s.os from hm.os)
  refine Lz (Lz ⟨_,rfl,h h' tk' (by obtain⟨o,es,ep,t,xs,q1,q2,q3,_⟩:=hS'; exact⟨o,es,ep,t,xs,q1,q2,q3,λ_ _=>trivial⟩) λb o hlb e=>?_⟩)
  refine hm.heap b o ?_ (Ly _ (Ly _ e));rw [hsz];simp only [LJ,LU,or_false,not_or];exact⟨LK hlb,LK (Nat.lt_succ_of_lt hlb)⟩
theorem pF {l:MR} {items:MZ MQ} {ks:List (List K)} {ad:Nat->MR} {Q:MQ->MP->Prop} (hh:A.handled=none) (hl:s.heap.IsList l items) (hu:A.units+16 < cLine) (hn:ks.length=items.size) (hb:items.size<=76) (hP:∀ (i:Nat) (v:MQ),items[i]?=some v->v=.ref (ad i)) (hk:∀ (i:Nat) (h:i < items.size),IsTupleKey knd s.heap (ks[i]'(by omega)) (ad i))
  (h:∀ (h':MX) (tk:Nat),Holds knd h' s.heap.objs.size (λ_=>True) ks->(∀ b o,b < s.heap.objs.size->s.heap.get? b=some o->h'.get? b=some o)->Q (.ref s.heap.objs.size) {s with heap:=h',toks:=tk}):
  wpAny (model prog w) A (call (.type "set") [.ref l]) Q E s:=by
 obtain⟨c,tl,g1⟩:=F.called_set.mro;have g2:=F.called_set.made;have g3:=F.called_set.sub;have g4:=F.called_set.notType;have g5:=F.called_set.canCreate;have g6:=F.typeCall_set_1 (.ref l);refine wpAny_call (codeAny_of_tree (show wpAny _ _ (callAny (.type "set") _) _ _ _ from Lz ⟨Code.quiet_builtin _ (by decide +kernel),Mc F.entry_type_call ?_⟩))
 rw [Around.under_plain (weight_type_call_type "set" [.ref l] []) rfl]
 repeat (any_goals (first | assumption | wp_step))
 generalize hL:(!w.params.followText "set-order")=led
 refine codeAny_mono (qN (.ref l) (E:=E) (Q₁:=λv t=>v=.ref s.heap.objs.size/\t={s with heap:=s.heap.push (zV led)}) ⟨rfl,by rw [hL]⟩) λr t hr=>?_
 match r,hr with
 | .error e,hr=>exact hr
 | .ok (.ret v),⟨e1,e2⟩=>
  subst e1 e2;have hT:Shared.TypeIs {s with heap:=s.heap.push (zV led)} (.ref s.heap.objs.size) "set":=⟨_,LA _ rfl,rfl⟩
  have g7:=F.called_set.init.lookup;have g8:=F.called_set.init.bind (.ref s.heap.objs.size)
  repeat (any_goals (first | assumption | wp_step))
  refine codeAny_mono (codeAny_call_builtin (R:=wants (λr t=>r=.none/\∃ h' tk,t={s with heap:=h',toks:=tk}/\Q (.ref s.heap.objs.size) {s with heap:=h',toks:=tk}) E) F.called_set.init.plain F.entry_set_init (check_set_init_1 hT ?_)) λr2 t2 hr2=>?_
  ·refine Mg (o0 (R:=wants (λr t=>r=.none/\∃ h' tk,t={s with heap:=h',toks:=tk}/\Q (.ref s.heap.objs.size) {s with heap:=h',toks:=tk}) E) (by simp [hh]) hl (Nat.lt_of_le_of_lt (by show _<=A.units+16; simp only; omega) hu) hn hb hP hk λh' tk a b=>⟨rfl,h',tk,rfl,h h' tk a b⟩) ?_ ?_
   ·rintro fin t ⟨v,rfl,q⟩;exact q
   ·exact λ_ _ e=>e
  ·match r2,hr2 with
   | .error e,hr2=>exact hr2
   | .ok (.ret v),⟨e1,h',tk,e2,q⟩=>
    subst e1 e2
    repeat (any_goals (first | assumption | wp_step))
end
end ST
namespace L2
open PySem PySem.Spec PyProof.Rows ST
section
variable {X:Cx}
def JB (a:MR) (n:Nat):MX->Prop:=λh=>∃ o es ep t,h.get? a=some o/\o.ExactSet/\o.data=.set es ep t/\t.fits es.size=true/\es.size=n/\n < 4096
theorem va:∀ {bs:List (List Int×MR)} {us:List MQ},aV (bs.map λq=>V.ref q.2) us->us=bs.map λq=>Value.ref q.2
 | [],us,h=>by cases h; rfl
 | q::bs,us,h=>by
  rw [LP] at h;cases h with
  | cons h1 h2=>
   cases h1;rw [va h2]
   rfl
theorem kZ {P:MU} {w:MW}:∀ {ns:List Int} {us:List MQ},aV (ns.map V.int) us->ItemsAre (intKind P w) ns us
 | [],us,h=>by cases h; exact .nil
 | n::ns,us,h=>by
  rw [LP] at h;cases h with
  | cons h1 h2=>
   obtain⟨t,rfl⟩:=h1;exact .cons (intKind_is _ _ _ _) (kZ h2)
theorem vT (hc:X.calm=true) {m:Nat} (hr:cI m X.A):bW X (.type "set") (λxs H Q=>∃ (a:MR) (bs:List (List Int×MR)),xs=[.ref a]/\ic X.K H a (bs.map λq=>V.ref q.2)/\(∀ q∈bs,ja X.K H q.2 (q.1.map V.int))/\bs.length<=76/\∀ p,H p=none->Q (.ref p) (cF H p (.ext (JB p (dd (bs.map (·.1))).length)))):=by
 intro M6 s σ H xs us Q I r h;obtain⟨a,bs,rfl,hq,ht,hl,q⟩:=h;obtain⟨u,rfl,rx⟩:=gQ r;cases rx;obtain⟨its,r',⟨o,n,g1,g2,g3,g4⟩,hz⟩:=I.list hq;have e:=va r';subst e;have hu:=hr.units;have hk:∀ (i:Nat) (h:i < (bs.map λq=>Value.ref q.2).toArray.size),IsTupleKey (intKind X.prog X.w) s.heap ((bs.map (·.1))[i]'(by simpa using h)) ((λi=>(bs.getD i ([],0)).2) i):=λi h=>by
  have hb:i < bs.length:=by simpa using h
  have hm:bs[i]∈bs:=MH hb;obtain⟨its,r1,⟨o,w1,w2,w3,w4⟩,_⟩:=I.tuple (ht _ hm);have eg:bs.getD i ([],0)=bs[i]:=by rw [Md,L6 hb]; rfl
  show IsTupleKey _ _ _ (bs.getD i ([],0)).2
  rw [eg,List.getElem_map];exact⟨o,its.toArray,w3,w1,w2,w4,by simpa using kZ r1⟩
 refine pF (knd:=intKind X.prog X.w) (ks:=bs.map (·.1)) (ad:=λi=>(bs.getD i ([],0)).2) (items:=(bs.map λq=>Value.ref q.2).toArray) (I.ok.hd hc) ⟨o,g1,g2,n,g4⟩ (by omega) (by simp) (by simpa using hl) (λi v hv=>?_) hk λh' tk hH kp=>?_
 ·rw [MJ,L8] at hv
  show v=.ref (bs.getD i ([],0)).2
  rw [Md];cases hb:bs[i]? with
  | none=>rw [hb] at hv; cases hv
  | some q=>rw [hb] at hv; cases hv; rfl
 ·obtain⟨o',es,ep,t,ys,SH,l1,_,_⟩:=hH;have hsz:es.size=(dd (bs.map (·.1))).length:=by rw [SH.size,l1]
  have hlt:(dd (bs.map (·.1))).length < 4096:=by
   have:=v9 (bs.map (·.1)) [];unfold dd;simp at this;omega
  have φ:JB s.heap.objs.size (dd (bs.map (·.1))).length h':=⟨o',es,ep,t,SH.get,SH.ex,SH.data,SH.fits,hsz,hlt⟩;refine⟨.ref s.heap.objs.size,_,I.laid (t':=tk) (λb o z=>kp b o (LC z) z) (LD _) (show dY X.prog X.w _ h' _ (.ext (JB s.heap.objs.size (dd (bs.map (·.1))).length)) from⟨φ,⟨_,SH.get⟩,λh1 h2 ⟨o,es,ep,t,z,r⟩ k=>⟨o,es,ep,t,k o z,r⟩⟩),rfl,q _ (I.hok.fresh (LD _))⟩
theorem vY:bW X (.builtin "len") (λxs H Q=>∃ p n,xs=[.ref p]/\H p=some (.ext (JB p n))/\Q (.int (n:Nat)) H):=by
 intro M6 s σ H xs us Q I r h;obtain⟨p,n,rfl,hp,q⟩:=h;obtain⟨u,rfl,rx⟩:=gQ r;cases rx;obtain⟨⟨o,es,ep,t,h1,h2,h3,h4,h5,h6⟩,_⟩:=I.hok p _ hp;subst h5;exact call_len_set h1 h2 h3 h4 (by omega) ⟨.int (es.size:Nat),H,I.tok _,⟨s.toks+1,rfl⟩,q⟩
end
end L2
namespace DL
open PySem PySem.Spec PyProof.Rows L2 ST
def BL (g:DE):DE:=λL S k=>g L S λd S1=>match d with
 | .ref a=>∃ nss:List (List Int),S1 a=some (.lst (nss.map λns=>D.tup (ns.map D.int)))/\nss.length<=76/\k (.int ((dd nss).length:Nat)) S1
 | _=>False
theorem rV {K:Fg} {H:Hp}:∀ {nss:List (List Int)} {vs:List V},IsDs K H (nss.map λns=>D.tup (ns.map D.int)) vs->∃ bs:List (List Int×MR),bs.map (·.1)=nss/\vs=bs.map (λq=>V.ref q.2)/\∀ q∈bs,ja K H q.2 (q.1.map V.int)
 | [],vs,h=>⟨[],rfl,ib.mp h,λ_ z=>by cases z⟩
 | ns::nss,vs,h=>by
  obtain⟨u,r,rfl,h1,h2⟩:=cE.mp h;obtain⟨b,xs,rfl,t,j⟩:=bY.mp h1;have e:=fj j;subst e;obtain⟨bs,e1,rfl,e3⟩:=rV h2;refine⟨(ns,b)::bs,by rw [LP,e1],rfl,λq hq=>?_⟩
  rcases LJ.mp hq with rfl | hq
  ·exact t
  ·exact e3 q hq
theorem wa {X:Cx} {n:Nat} (hr:cI n X.A) {e:MT} {g:DE} {p1 p2 pos1 pos2:Pos} (hc:X.calm=true) (hg1:Gl X "len") (hm1:X.mg "len"=none) (hv1:bootBuiltins "len"=some (.builtin "len")) (hg2:Gl X "set") (hm2:X.mg "set"=none) (hv2:bootBuiltins "set"=some (.type "set")) (he:EJ X e g)
  (s1:starEach [e] X.env=(false,eval e X.env)::starEach [] X.env:=by exact cK rfl) (s2:(backTo pos2 (starEach [] X.env)).any (·.1)=false:=by exact fM rfl)
  (s3:starEach [.Call (.Name "set" p2) [e] [] pos2] X.env=(false,eval (.Call (.Name "set" p2) [e] [] pos2) X.env)::starEach [] X.env:=by exact cK rfl) (s4:(backTo pos1 (starEach [] X.env)).any (·.1)=false:=by exact fM rfl):
  EJ X (.Call (.Name "len" p1) [.Call (.Name "set" p2) [e] [] pos2] [] pos1) (BL g):=
 ⟨PE.imp (uT vY hg1 hm1 hv1 (mO (nG (vT hc hr) hg2 hm2 hv2 (mO he.h pO s1) (by decide) (by decide) s1 s2) pO s3) (by decide) (by decide) s3 s4) fun σ H Q ⟨L,S,k,hL,hS,h,n⟩=>up.go hL hS h λd S1 v H1 h1 k1 hL1 hS1 i1=>by
  cases d with
  | ref a=>
   obtain⟨nss,z,hl,w⟩:=h1;have e1:=aS.mp i1;subst e1;obtain⟨vs,q1,j⟩:=hS1.lst z;obtain⟨bs,rfl,rfl,ht⟩:=rV j;refine⟨_,bs,rfl,ic.of q1,ht,by simpa using hl,λp hp=>⟨p,_,rfl,bJ,n _ S1 _ _ w (k1.trans (Kp.new hp)) (hS1.new hp) (isInt.mpr rfl)⟩⟩
  | _=>exact(show False from h1).elim⟩
end DL
namespace DL
open PySem PySem.Spec PyProof.Rows L2
theorem zD:bootBuiltins "range"=some (.type "range"):=by decide +kernel
inductive HD (K:Fg) (n:Str) (st:MY) (f:MR) (cd:MQ):Prop where
 | mk {oc kV doc pm ct:MQ} {od an:MS MR} {osl:MZ (MS MQ)} (l:K.lookup f=some ⟨oc,od,.func (PySem.W.fnOf n n (eR st) (dh st) (ap st) .none kV doc pm an cd ct),osl⟩):HD K n st f cd
structure DI (K:Fg) (n:Str) (st:MY) (f:MR) (cd:MQ):Prop where
 a:PySem.W.nsIn K mainGlobals n=some (some (.ref f))
 x:HD K n st f cd
 e:PySem.W.codeIn K cd n=true
 k:PySem.W.keepIn K (.ref f)=true
def Bd (n:Str) (st:MY) (ps:List Str):Prop:=∀ (kV doc pm:MQ) (an:MS MR) (cdv ct:MQ) (us:List MQ),us.length=ps.length->bindArgs (PySem.W.fnOf n n (eR st) (dh st) (ap st) .none kV doc pm an cdv ct) ⟨us,[]⟩=pure (ps.zip us)
theorem lc {us:List MQ} {n:Nat} (h:us.length=n+1):∃ u r,us=u::r/\r.length=n:=by
 cases us with
 | nil=>cases h
 | cons u r=>exact⟨u,r,rfl,Nat.succ.inj h⟩
theorem K4 {n a1:Str} {st:MY} (h:∀ (kV doc pm:MQ) (an:MS MR) (cdv ct u1:MQ),bindArgs (PySem.W.fnOf n n (eR st) (dh st) (ap st) .none kV doc pm an cdv ct) ⟨[u1],[]⟩=pure (List.zip [a1] [u1])):Bd n st [a1]:=λ_ _ _ _ _ _ us hl=>by obtain⟨u1,us,rfl,h1⟩:=lc hl; cases MN.mp h1; exact h _ _ _ _ _ _ u1
theorem K6 {n a1 a2:Str} {st:MY} (h:∀ (kV doc pm:MQ) (an:MS MR) (cdv ct u1 u2:MQ),bindArgs (PySem.W.fnOf n n (eR st) (dh st) (ap st) .none kV doc pm an cdv ct) ⟨[u1,u2],[]⟩=pure (List.zip [a1,a2] [u1,u2])):Bd n st [a1,a2]:=λ_ _ _ _ _ _ us hl=>by obtain⟨u1,us,rfl,h1⟩:=lc hl; obtain⟨u2,us,rfl,h2⟩:=lc h1; cases MN.mp h2; exact h _ _ _ _ _ _ u1 u2
theorem K1 {n a1 a2 a3:Str} {st:MY} (h:∀ (kV doc pm:MQ) (an:MS MR) (cdv ct u1 u2 u3:MQ),bindArgs (PySem.W.fnOf n n (eR st) (dh st) (ap st) .none kV doc pm an cdv ct) ⟨[u1,u2,u3],[]⟩=pure (List.zip [a1,a2,a3] [u1,u2,u3])):Bd n st [a1,a2,a3]:=λ_ _ _ _ _ _ us hl=>by obtain⟨u1,us,rfl,h1⟩:=lc hl; obtain⟨u2,us,rfl,h2⟩:=lc h1; obtain⟨u3,us,rfl,h3⟩:=lc h2; cases MN.mp h3; exact h _ _ _ _ _ _ u1 u2 u3
theorem K8 {n a1 a2 a3 a4:Str} {st:MY} (h:∀ (kV doc pm:MQ) (an:MS MR) (cdv ct u1 u2 u3 u4:MQ),bindArgs (PySem.W.fnOf n n (eR st) (dh st) (ap st) .none kV doc pm an cdv ct) ⟨[u1,u2,u3,u4],[]⟩=pure (List.zip [a1,a2,a3,a4] [u1,u2,u3,u4])):Bd n st [a1,a2,a3,a4]:=λ_ _ _ _ _ _ us hl=>by obtain⟨u1,us,rfl,h1⟩:=lc hl; obtain⟨u2,us,rfl,h2⟩:=lc h1; obtain⟨u3,us,rfl,h3⟩:=lc h2; obtain⟨u4,us,rfl,h4⟩:=lc h3; cases MN.mp h4; exact h _ _ _ _ _ _ u1 u2 u3 u4
inductive Bs (P:MU) (w:MW) (base:MX):Prop where
 | mk:Bs P w base
section
variable {P:MU} {w:MW} {K:Fg} {mg:Str->MS MQ} {base h:MX} {n:Str} {st:MY} {f:MR} {cd:MQ} {ps:List Str} {k:Nat}
theorem DI.own {F:cH} (d:DI K n st f cd) (_:Bs P w base) (X:K.In h) (G:h.Ns mainGlobals mg) (ok:∀ fd,yP K n n st f fd->fd.code=cd->aT P w K mg base c8 k f fd ps (dk K F))
  (hb:Bd n st ps:=by first | exact K4 λ_ _ _ _ _ _ _=>rfl | exact K6 λ_ _ _ _ _ _ _ _=>rfl | exact K1 λ_ _ _ _ _ _ _ _ _=>rfl | exact K8 λ_ _ _ _ _ _ _ _ _ _=>rfl | exact bd5 λ_ _ _ _ _ _ _ _ _ _ _=>rfl | exact bd6 λ_ _ _ _ _ _ _ _ _ _ _ _=>rfl | exact bd7 λ_ _ _ _ _ _ _ _ _ _ _ _ _=>rfl):bj P w K mg base n k F:=by
 obtain⟨lk⟩:=d.x;have Fn:=zA lk d.e d.k;exact bj.mk' Fn (ok _ Fn rfl) (PySem.W.mg_of X G d.a) (Fn.binds hb)
theorem DI.fn (d:DI K n st f cd) (hb:∀ (kV doc pm:MQ) (an:MS MR) (ct v:MQ),bindArgs (PySem.W.fnOf n n (eR st) (dh st) (ap st) .none kV doc pm an cd ct) ⟨[v],[]⟩=pure [(("script":Str),v)]:=by exact λ_ _ _ _ _ _=>rfl):∃ fd:FuncData,yP K n n st f fd/\fd.code=cd/\∀ (s:MP) (v:MQ),BindsTo s fd ⟨[v],[]⟩ [("script",v)]:=by
 obtain⟨lk⟩:=d.x;exact⟨_,zA lk d.e d.k,rfl,λs v=>.of_eq (hb _ _ _ _ _ v)⟩
end
end DL
namespace L2
open PySem PySem.Spec PyProof.Rows
def Hr (lo:Int) (n:Nat):It:=⟨λi _=>i < n,λi H x H'=>H'=H/\x=.int (lo - i),λi _=>n<=i⟩
theorem yh {P:MU} {w:MW} {K:PySem.W.Frag} {tg:MT} (it:MR) (lo:Int) (n:Nat):vm P w K tg (Hr lo n) [it] it (λi h=>IsRangeIter h it (lo+(i:Nat)*(-1)) ((n:Int) - (i:Nat)) (-1)) where
 mem:=by simp
 obj:=λi h st b hb=>by
  have e:b=it:=by simpa using hb
  subst e;exact⟨_,st,λv z=>by
   have z':Data.fields _=Data.cell v:=z;cases z'⟩
 keep:=λi h h' st k=>k it (by simp) _ st
 item:=by
  intro X hP hw hK hc i M6 s σ H E I hf st hg;subst hP hw hK;obtain⟨f0,f1,f2,f3,f4,f5⟩:=hf it (by simp)
  have W:=Walks.range (prog:=X.prog) (w:=X.w) (I.ok.hd hc) it lo (-1) n;refine W.item i s _ _ hg st λv h' tk hv st' kk=>?_
  obtain⟨t,rfl⟩:=hv;have I1:aD X M6 σ H {s with heap:=h',toks:=tk}:=I.turned (λb o hb e=>kk b o (by simpa using hb) e) f0 f1 f3 f4 f5
  refine⟨_,rfl,rL (s:={s with heap:=h',toks:=tk}) (n:="range_iterator") st' rfl rfl (by decide) ⟨.int (lo - i),H,I1,⟨t,?_⟩,⟨rfl,rfl⟩,st',λb hb=>(hf b hb).1⟩⟩
  rw [show lo+(i:Int)*(-1)=lo - i by omega]
 done:=by
  intro X hP hw hK hc i M6 s σ H E I hf st hg;subst hP hw hK;obtain⟨f0,f1,f2,f3,f4,f5⟩:=hf it (by simp)
  exact wpAny_pyNext_range_end (I.ok.hd hc) st (by have:n<=i:=hg; omega) λh' eb=>⟨rfl,I.turned (t':=s.toks) (λb o hb e=>eb b o hb e) f0 f1 f3 f4 f5⟩
 self:=λ_ _ _ _ _ st h=>wpAny_pyIter_rangeiter st h
theorem ko (a b:Int):Builtin.Range.rangeSize a b (-1)=if b < a then a - b else 0:=by
 unfold Builtin.Range.rangeSize;simp only [show ¬ ((-1:Int) > 0) by decide,if_false,show -(-1:Int)=1 by decide,Int.ediv_one]
 split <;> omega
theorem vB {a b:Int} (ha:-(2 ^ 62)<=a) (ha':a < 2 ^ 62) (hb:-(2 ^ 62)<=b) (hb':b < 2 ^ 62):Builtin.Range.small a b (-1)=true:=by
 unfold Builtin.Range.small;rw [ko];simp only [Builtin.Range.rangeFitsLong,Mj,Bool.or_eq_true,decide_eq_true_eq,beq_iff_eq,show ¬ ((-1:Int) > 0) by decide,if_false]
 split <;> omega
section
variable {X:Cx} {tg:MT}
theorem AN {M6:List (MR×M5)} {σ:St} {H:Hp} {s:MP} {R:It->Hp->Prop} {E:MQ->MP->Prop} {lo hi:Int} {t u v:Tok} {tk:Nat} (I:aD X M6 σ H s) (h1:-(2 ^ 62)<=lo) (h2:lo < 2 ^ 62) (h3:-(2 ^ 62)<=hi) (h4:hi < 2 ^ 62)
  (q:R (Hr lo (lo - hi).toNat) H):wpAny (model X.prog X.w) X.A (pyIter (.ref s.heap.objs.size)) (KA X M6 σ tg R) E {s with heap:=s.heap.push {cls:=.type "range",data:=.fields #[.int lo t,.int hi u,.int (-1) v]},toks:=tk}:=by
 refine wpAny_pyIter_range (IsRange.new ..) (vB h1 h2 h3 h4) ?_;have I1:aD X M6 σ H {s with heap:=s.heap.push {cls:=.type "range",data:=.fields #[.int lo t,.int hi u,.int (-1) v]},toks:=tk}:=I.kept λb o e=>Ly _ e
 refine⟨(s.heap.push {cls:=.type "range",data:=.fields #[.int lo t,.int hi u,.int (-1) v]}).objs.size,[(s.heap.push {cls:=.type "range",data:=.fields #[.int lo t,.int hi u,.int (-1) v]}).objs.size],_,_,H,rfl,
  I1.kept (t':=tk) λb o e=>Ly _ e,yh _ lo (lo - hi).toNat,?_,λb hb=>?_,q⟩
 ·have e1:lo+((0:Nat):Int)*(-1)=lo:=by simp
  have e2:(((lo - hi).toNat:Nat):Int) - ((0:Nat):Int)=Builtin.Range.rangeSize lo hi (-1):=by rw [ko]; split <;> omega
  show IsRangeIter _ _ (lo+((0:Nat):Int)*(-1)) ((((lo - hi).toNat:Nat):Int) - ((0:Nat):Int)) (-1)
  rw [e1,e2];exact LA _ rfl
 ·have e:b=(s.heap.push {cls:=.type "range",data:=.fields #[.int lo t,.int hi u,.int (-1) v]}).objs.size:=by simpa using hb
  subst e;exact I1.fpOk (LD _) (I1.hok.fresh (LD _))
def HR (ta:TA):TI:=fun σ H R=>ta σ H λvs H1=>∃ i j:Int,vs=[.int i,.int j,.int (-1)]/\(-(2 ^ 62)<=i/\i < 2 ^ 62/\-(2 ^ 62)<=j/\j < 2 ^ 62)/\R (Hr i (i - j).toNat) H1
theorem yF {a b c:MT} {ta:TA} {p pos:Pos} (hg:Gl X "range") (hm:X.mg "range"=none) (ha:PA X [a,b,c] ta) (hs:starEach [a,b,c] X.env=[(false,eval a X.env),(false,eval b X.env),(false,eval c X.env)]:=by rfl) (hs2:starEach [b,c] X.env=[(false,eval b X.env),(false,eval c X.env)]:=by rfl):
  PI X tg (.Call (.Name "range" p) [a,b,c] [] pos) (HR ta):=by
 intro M6 s σ H R I h;refine Call_ (lB I hg hm boot_range (PyProof.Rows.callWith_type1 (cR (ha pos M6 s σ H _ I h) λus s1 ⟨vs,H1,I1,r1,q1⟩=>?_) (by rw [hs,hs2]) (by rw [hs2]; rfl)))
 obtain⟨i,j,e,⟨q1,q2,q3,q4⟩,q⟩:=q1;subst e;cases r1 with
 | cons r rr=>
  cases rr with
  | cons r' rr=>
   cases rr with
   | cons r'' rr=>
    cases rr;obtain⟨t,rfl⟩:=r;obtain⟨t',rfl⟩:=r';obtain⟨t'',rfl⟩:=r'';exact call_range_3 (by decide) (AN I1 q1 q2 q3 q4 q) (.inl (PyProof.noPylong_small (by omega)))
end
end L2
namespace DL
open PySem PySem.Spec PyProof.Rows L2
def k9 (i j:Int):List D:=(List.range (i - j).toNat).map λk:Nat=>.int (i - (k:Int))
theorem zB {K:Fg} {H:Hp} {i j:Int}:(∀ n d (S1:DH) H1,(k9 i j)[n]?=some d->Kp H H1->Hs K H1 S1->(λ_=>True:DH->Prop) S1->(Hr i (i - j).toNat).go n H1/\∀ x H',(Hr i (i - j).toNat).yld n H1 x H'->H'=H1/\ce K H1 d x)/\
  ∀ (S1:DH) H1,Kp H H1->Hs K H1 S1->(λ_=>True:DH->Prop) S1->(Hr i (i - j).toNat).stop (k9 i j).length H1:=by
 refine⟨λn d S1 H1 e _ _ _=>?_,λ_ _ _ _ _=>?_⟩
 ·unfold k9 at e;rw [L8] at e;cases q:(List.range (i - j).toNat)[n]? with
  | none=>rw [q] at e; cases e
  | some z=>
   rw [q] at e;cases e;obtain⟨hz1,hz2⟩:=Mf.mp q;rw [List.length_range] at hz1;rw [List.getElem_range] at hz2;subst hz2;exact⟨hz1,λx H' y=>⟨y.1,by rw [y.2]; exact isInt.mpr rfl⟩⟩
 ·show(i - j).toNat<=(k9 i j).length
  unfold k9;rw [LG,List.length_range];exact LD _
def F2 (ta:DA) (g:DG) (b:DS):DS:=λM L S=>ta L S λds S1=>match ds with
 | [.int i,.int j,.int c]=>c=-1/\(-(2 ^ 62)<=i/\i < 2 ^ 62/\-(2 ^ 62)<=j/\j < 2 ^ 62)/\iA (λ_=>True) g b M (k9 i j) L S1
 | _=>False
section
variable {X:Cx} {a b c tg:MT} {p pos pos':Pos} {body:List MY} {ta:DA} {gg:DG} {g:DS}
theorem lO (hp:PassesOwn (model X.prog X.w) X.A X.env X.xe) (hc:X.calm=true) (hgl:Gl X "range") (hm:X.mg "range"=none) (ha:AJ X [a,b,c] ta) (hg:GJ X tg gg) (hb:zc X body g)
  (hs1:starEach [a,b,c] X.env=[(false,eval a X.env),(false,eval b X.env),(false,eval c X.env)]:=by rfl) (hs2:starEach [b,c] X.env=[(false,eval b X.env),(false,eval c X.env)]:=by rfl) (hs:∀ x,foldedSetIterable (.Call (.Name "range" p) [a,b,c] [] pos') X.env x=pure x:=by intro _; rfl):
  SJ X (.For tg (.Call (.Name "range" p) [a,b,c] [] pos') body [] pos) (F2 ta gg g):=
 ⟨PS.imp (sD hp hc (yF hgl hm ha.h hs1 hs2) hg.h hb.h hs) λN σ H ⟨L,S,M,hL,hS,h,r⟩=>uC.go hL hS h λds S1 vs H1 h1 k1 hL1 hS1 i1=>by
  split at h1
  ·obtain⟨v1,r1,rfl,j1,i2⟩:=cE.mp i1;obtain⟨v2,v3,rfl,j2,j3⟩:=rN i2;have e1:=isInt.mp j1;have e2:=isInt.mp j2;have e3:=isInt.mp j3;subst e1;subst e2;subst e3;obtain⟨rfl,hh,h1⟩:=h1;obtain⟨z1,z2⟩:=zB (K:=X.K) (H:=H1);exact⟨_,_,rfl,hh,mH hL1 hS1 h1 (r.kp k1) z1 z2⟩
  ·exact h1.elim⟩
end
theorem nU:∀ (bs:List M1),(List.range bs.length).any (λi=>bs.getD i true)=bs.any id
 | []=>rfl
 | b::bs=>by
  rw [LQ,List.range_succ_eq_map,List.any_cons,List.any_map,List.any_cons];exact congrArg (b || ·) (nU bs)
def D':cH:=λds S k=>match ds with
 | [d]=>∃ (q:List D×MS MR) (bs:List M1),aR S d=some q/\q.1=bs.map D.bl/\k (.bl (bs.any id)) S
 | _=>False
theorem GZ {X:Cx} (hc:X.calm=true:=by rfl):bW X (.builtin "any") (pB X.K D'):=by
 intro M6 s σ H xs us Q I rs h;obtain⟨ds,S,k,i,hS,r,n⟩:=h;unfold D' at r
 split at r
 ·obtain⟨x,rfl,i1⟩:=dM i;obtain⟨q,bs,e1,e2,r⟩:=r;obtain⟨a,b,rfl,_,y⟩:=Hi hS i1 e1;obtain⟨vs,w1,w2⟩:=y S H (Kp.refl H) hS (Dy e1);rw [e2] at w2;have ev:=uZ w2;subst ev;obtain⟨its,rv,p⟩:=I.sqB w1;have ei:=u6 rv;subst ei;cases rs with
  | cons r0 rr=>
   cases rr;cases r0;have hh:X.A.in1.handled=none:=I.ok.hd hc;have hlt:=Fz p;have fin:∀ (nm:M3) (h':MX) (tk:Nat),(∀ c o,c∉[s.heap.objs.size]->(s.heap.push {cls:=.type nm,data:=.fields #[.ref a,.int 0 0]}).get? c=some o->h'.get? c=some o)->
     EP X M6 σ Q (.bool (bs.any id)) {s with heap:=h',toks:=tk}:=λnm h' tk kk=>by
    have I1:aD X M6 σ H {s with heap:=s.heap.push {cls:=.type nm,data:=.fields #[.ref a,.int 0 0]}}:=I.kept (t':=s.toks) λc o e=>Ly _ e
    refine⟨.bl (bs.any id),H,aD.turnedL (s:={s with heap:=s.heap.push {cls:=.type nm,data:=.fields #[.ref a,.int 0 0]}}) (t':=tk) [s.heap.objs.size] I1 kk (λc hc=>?_),rfl,n _ _ _ _ r (Kp.refl H) hS (cg.mpr rfl)⟩
    have e:c=s.heap.objs.size:=by simpa using hc
    subst e;exact I.fpOk (LD _) (I.hok.fresh (LD _))
   have len:(bs.map Value.bool).toArray.size=bs.length:=by simp
   have tr:∀ A',TruthOf X.prog X.w A' (λi v=>(bs.map Value.bool).toArray[i]?=some v) (λi=>bs.getD i true):=λA' i v s' Q' E' hP hQ=>by
    have hP':(bs[i]?).map Value.bool=some v:=by simpa using hP
    cases z:bs[i]? with
    | none=>rw [z] at hP'; cases hP'
    | some c=>
     rw [z] at hP';cases hP';refine wpAny_truthy_bool ?_
     simpa [List.getD,z] using hQ
   refine call_any_walk ?_;cases b with
   | true=>
    refine wpAny_pyIter_list (show s.heap.IsList a _ from p) ?_
    refine⟨s.heap.objs.size,_,_,_,_,_,_,rfl,Walks.list hh s.heap.objs.size a (LK hlt) (bs.map Value.bool).toArray,⟨⟨_,LA _ rfl,rfl,rfl⟩,Heap.IsList.at p λo e=>Ly _ e⟩,tr _,λh' tk kk=>?_⟩
    rw [len,nU];exact fin _ h' tk kk
   | false=>
    refine wpAny_pyIter_tuple (show s.heap.IsTuple a _ from p) ?_
    refine⟨s.heap.objs.size,_,_,_,_,_,_,rfl,Walks.tuple hh s.heap.objs.size a (LK hlt) (bs.map Value.bool).toArray,⟨⟨_,LA _ rfl,rfl,rfl⟩,Heap.IsTuple.at p λo e=>Ly _ e⟩,tr _,λh' tk kk=>?_⟩
    rw [len,nU];exact fin _ h' tk kk
 ·exact r.elim
end DL
namespace L2
open PySem PySem.Spec PyProof.Rows
inductive Cq (h:MX):MR->MR->Prop
 | one {a b:MR} {o:M5} {vs:MZ MQ}:h.get? a=some o->o.data=.fields vs->vs[2]?=some (.ref b)->Cq h a b
 | step {a b c:MR} {o:M5} {vs:MZ MQ}:h.get? a=some o->o.data=.fields vs->vs[2]?=some (.ref b)->Cq h b c->Cq h a c
end L2
namespace DL
open PySem PySem.Spec PyProof.Rows L2
abbrev DM:=Str->List D->DH->DK->Prop
end DL
namespace ZS
open PySem PySem.W PyProof.Rows
abbrev pl (p:MZ Nat) (i:Nat):Nat:=p.getD i 0
section
variable {n:Nat} {c:Nat->Nat->M1} {p:MZ Nat}
def Dn (c:Nat->Nat->M1) (p:MZ Nat) (b:Nat):Prop:=∀ i j,i < j->j < b->c (pl p j) (pl p i)=true
variable {cmp:Nat->Nat->(M1->MP->Prop)->MP->Prop} {s:MP}
end
def lx (x y:Int×Int):M1:=decide (x.1 < y.1) || (decide (x.1=y.1) && decide (x.2 < y.2))
def way (b:M1) {α:Type} (l:List α):List α:=if b=true then l.reverse else l
end ZS
namespace L2
open PySem PySem.Spec PyProof.Rows
def Hq (K:PySem.W.Frag) (a:MR) (n:Nat):It:=
 ⟨λi H=>i < n/\∃ xs x,BU true K H a xs/\xs.length=n/\xs[n - 1 - i]?=some x,λi H x H'=>H'=H/\∀ xs,BU true K H a xs->xs[n - 1 - i]?=some x,λi H=>i=n/\∃ xs,BU true K H a xs/\xs.length=n⟩
theorem Av {P:MU} {w:MW} {K:PySem.W.Frag} {tg:MT} (a it:MR) (n:Nat):vm P w K tg (Hq K a n) [it] it (λi h=>h.IsRevIter it a ((n:Int) - 1 - i)) where
 mem:=by simp
 obj:=λi h st c hc=>by
  have e:c=it:=by simpa using hc
  subst e;obtain⟨o,e,_,d⟩:=st;exact⟨o,e,λv z=>by rw [d] at z; cases z⟩
 keep:=λi h h' st k=>Heap.IsRevIter.at st λo e=>k it (by simp) o e
 item:=by
  intro X hP hw hK hc i M6 s σ H E I hf st hg;subst hP hw hK;obtain⟨hi,xs,x,hq,hl,hx⟩:=hg;obtain⟨f0,f1,f2,f3,f4,f5⟩:=hf it (by simp)
  have ei:(n:Int) - 1 - (i:Nat)=((n - 1 - i:Nat):Int):=by omega
  have ei2:((n - 1 - i:Nat):Int) - 1=(n:Int) - 1 - ((i+1:Nat):Int):=by omega
  have st:s.heap.IsRevIter it a ((n:Int) - 1 - (i:Nat)):=st;rw [ei] at st;have fin:∀ (u:MQ) (h':MX) (tk:Nat),aP x u->h'.IsRevIter it a (((n - 1 - i:Nat):Int) - 1)->(∀ c o,c≠it->s.heap.get? c=some o->h'.get? c=some o)->
    ∃ u',some u=some u'/\wpAny (model X.prog X.w) X.A (letOwnedTupleGo tg (.ref it) u') (λ_ s2=>∃ x H',aD X M6 σ H' s2/\aP x u'/\(Hq X.K a n).yld i H x H'/\s2.heap.IsRevIter it a ((n:Int) - 1 - ((i+1:Nat):Int))/\∀ b∈[it],H' b=none) E {s with heap:=h',toks:=tk}:=λu h' tk ru st' sb=>by
   have I1:aD X M6 σ H {s with heap:=h',toks:=tk}:=I.turned (t':=tk) (λc o hb e=>sb c o hb e) f0 f1 f3 f4 f5
   obtain⟨o,e,c,d⟩:=id st';rw [ei2] at st';exact⟨u,rfl,rL (s:={s with heap:=h',toks:=tk}) e c d (by decide) ⟨x,H,I1,ru,⟨rfl,λys hy=>by rw [I.sqB_inj hy hq]; exact hx⟩,st',λb hb=>(hf b hb).1⟩⟩
  obtain⟨its,rv,p,hz⟩:=I.list hq;obtain⟨u,hu,ru⟩:=rv.get hx;exact wpAny_pyNext_rev_item st p.isList (x:=u) (by simpa using hu) λh' st' sb=>fin u h' s.toks ru st' λc o hb e=>(sb.2 c hb).trans e
 done:=by
  intro X hP hw hK hc i M6 s σ H E I hf st hg;subst hP hw hK;obtain⟨rfl,xs,hq,hl⟩:=hg;obtain⟨f0,f1,f2,f3,f4,f5⟩:=hf it (by simp)
  have st:s.heap.IsRevIter it a ((i:Int) - 1 - (i:Nat)):=st;rw [show (i:Int) - 1 - ((i:Nat):Int)=-1 by omega] at st
  exact wpAny_pyNext_rev_end (I.ok.hd hc) st λh' eb=>⟨rfl,I.turned (t':=s.toks) (λb o hb e=>eb b o hb e) f0 f1 f3 f4 f5⟩
 self:=λ_ _ _ _ _ st h=>wpAny_pyIter_revIter st h
def J9 (K:PySem.W.Frag) (ta:TA):TI:=fun σ H R=>ta σ H λvs H1=>∃ a xs,vs=[.ref a]/\BU true K H1 a xs/\R (Hq K a xs.length) H1
theorem Gb {X:Cx} {tg a:MT} {ta:TA} {p pos:Pos} (hg:Gl X "reversed") (hm:X.mg "reversed"=none) (ha:PA X [a] ta) (hs:starEach [a] X.env=[(false,eval a X.env)]:=by rfl):
  PI X tg (.Call (.Name "reversed" p) [a] [] pos) (J9 X.K ta):=by
 intro M6 s σ H R I h;refine Call_ (lB I hg hm Boot.reversed (PyProof.Rows.callWith_type1 (cR (ha pos M6 s σ H _ I h) λus s1 ⟨vs,H1,I1,r1,q1⟩=>?_) (by rw [hs]; rfl) rfl))
 obtain⟨a1,xs,rfl,e1,q⟩:=q1;cases r1 with
 | cons r rr=>
  cases rr;cases r;have fp:∀ c∈[s1.heap.objs.size],kS X M6 H1 c:=λc hb=>by
   have e:c=s1.heap.objs.size:=by simpa using hb
   subst e;exact I1.fpOk (LD _) (I1.hok.fresh (LD _))
  obtain⟨its,rv,p1,hz⟩:=I1.list e1;have hl:=rv.length;refine call_reversed_list p1.isList ?_;have g:Heap.IsRevIter (s1.heap.push (revObj a1 ((its.toArray.size:Int) - 1))) s1.heap.objs.size a1 ((its.toArray.size:Int) - 1):=⟨_,LA _ rfl,rfl,rfl⟩;refine wpAny_pyIter_revIter g ?_;refine⟨_,[s1.heap.objs.size],_,_,H1,rfl,I1.kept (t':=s1.toks) (λb o e=>Ly _ e),Av a1 _ xs.length,?_,fp,q⟩
  show Heap.IsRevIter _ _ _ ((xs.length:Int) - 1 - ((0:Nat):Int))
  rw [hl];have e:((its.length:Nat):Int) - 1 - ((0:Nat):Int)=(its.toArray.size:Int) - 1:=by simp
  rw [e];exact g
end L2
namespace DL
open PySem PySem.Spec PyProof.Rows L2
theorem Hd {K:Fg} {H1:Hp} {q:List D×MS MR} {a:MR} {n:Nat} (hn:n=q.1.length) (y:∀ S2 H2,Kp H1 H2->Hs K H2 S2->fL q S2->∃ xs,BU true K H2 a xs/\IsDs K H2 q.1 xs):
  (∀ i d S2 H2,q.1.reverse[i]?=some d->Kp H1 H2->Hs K H2 S2->fL q S2->(Hq K a n).go i H2/\∀ x H',(Hq K a n).yld i H2 x H'->Kp H2 H'/\Hs K H' S2/\ce K H' d x)/\
  ∀ S2 H2,Kp H1 H2->Hs K H2 S2->fL q S2->(Hq K a n).stop q.1.reverse.length H2:=by
 subst hn;refine⟨λi c S2 H2 e k2 hS2 o2=>?_,λS2 H2 k2 hS2 o2=>?_⟩
 ·obtain⟨xs,w1,u1⟩:=y S2 H2 k2 hS2 o2;have hi:i < q.1.length:=by
   have:=(Mf.mp e).1;rw [List.length_reverse] at this;exact this
  rw [List.getElem?_reverse hi] at e;obtain⟨v1,g1,r1⟩:=u1.get e;refine⟨⟨hi,xs,v1,w1,u1.length.symm,g1⟩,?_⟩;rintro x H' ⟨rfl,al⟩;have l1:=al xs w1;rw [g1] at l1;cases l1;exact⟨Kp.refl _,hS2,r1⟩
 ·obtain⟨xs,w1,u1⟩:=y S2 H2 k2 hS2 o2;exact⟨List.length_reverse,xs,w1,u1.length.symm⟩
def Dj (cap:List (MS Nat)) (ta:DA) (g:DG) (bd:DB):DE:=λL S k=>ta L S λds S1=>match ds with
 | [.ref a]=>∃ xs,S1 a=some (.lst xs)/\∀ p,S1 p=none->aX (fL (xs,some a)) p g bd k xs.reverse [] (xU cap L) (put S1 p (.lst []))
 | _=>False
section
variable {X:Cx} {elt a tg:MT} {scope:Scope} {cl:List (Str×MR)} {N:List Str} {cap:List (MS Nat)} {pos p pos':Pos} {gg:DG} {ge:DE} {ta:DA}
theorem sC {xv:Str} {iv:Nat} {pv sv:Pos} (hNv:X.N.Nodup) (hc:X.calm=true) (Sc:cZ X scope cl N cap) (hgl:Gl X "reversed") (hm:X.mg "reversed"=none) (ha:AJ X [a] ta) (hg:∀ s0 H0 ex C,GJ (fI X scope cl N s0 H0 ex C) tg gg) (he:∀ s0 H0 ex C,EJ (fI X scope cl N s0 H0 ex C) elt ge)
  (hs1:starEach [a] X.env=[(false,eval a X.env)]:=by rfl) (hs:∀ x,foldedSetIterable (.Call (.Name "reversed" p) [a] [] pos') X.env x=pure x:=by intro _; rfl) (hiv:X.N[iv]?=some xv:=by rfl) (hxv:X.env.scope.names.lookup xv=some .local:=by rfl) (hswv:swapsWith (.ListComp elt [⟨tg,.Call (.Name "reversed" p) [a] [] pos',[],0⟩] scope pos) (some (.Name xv pv)) sv.line X.env=pure true:=by rfl):SJ X (.Assign [.Name xv pv] (.ListComp elt [⟨tg,.Call (.Name "reversed" p) [a] [] pos',[],0⟩] scope pos) sv) (uB iv (Dj cap ta gg (eQ ge))):=
 ⟨PS.imp (pK hNv hiv hxv hswv hc Sc (Gb hgl hm ha.h hs1) (λs0 H0 ex C=>(hg s0 H0 ex C).h) (λs0 H0 ex C=>(he s0 H0 ex C).h) hs) (Dl (fun σ H Q ⟨L,S,k,hL,hS,h,n⟩=>uC.go hL hS h λds S1 vs H1 h1 k1 hL1 hS1 i1=>by
  split at h1
  ·rename_i a1
   obtain⟨v1,rfl,j1⟩:=dM i1;obtain⟨ds1,e1,h1⟩:=h1;have ev:=aS.mp j1;subst ev;have y1:∀ S2 H2,Kp H1 H2->Hs _ H2 S2->fL (ds1,some a1) S2->∃ xs,BU true X.K H2 a1 xs/\IsDs X.K H2 ds1 xs:=λS2 H2 _ hS2 o2=>by
    obtain⟨vs,q1,j⟩:=hS2.lst o2;exact⟨vs,ic.of q1,j⟩
   obtain⟨xs,w1,u1⟩:=y1 S1 H1 (Kp.refl H1) hS1 e1;obtain⟨z1,z2⟩:=Hd (q:=(ds1,some a1)) u1.length.symm y1;exact⟨a1,xs,rfl,w1,λpa hD=>pc (hL1.cap cap) hS1 hD (h1 pa (hS1.free hD)) (λd S' v H' q k3=>n d S' v H' q (k1.trans k3)) z1 z2⟩
  ·exact h1.elim))⟩
end
end DL
namespace My
abbrev FN (K:PySem.W.Frag) (n:PySem.Str) (st:PySem.Stmt) (f:PySem.Addr) (fd:PySem.FuncData):=L2.yP K n n st f fd
variable {P:MU} {w:MW} {K:Fg} {mg:Str->MS MQ} {base:MX} {f:MR} {fd:FuncData}
open PySem PySem.Spec PyProof.Rows L2 DL HM
def dS (i : Nat) : MY := PySem.Challenge.pw_hingedraw_k73_curves_led.main.body.getD i (.Pass ⟨0, 0, 0, 0⟩)
abbrev fv:MY:=dS 7
abbrev sH:MY:=dS 8
abbrev wl:MY:=dS 9
abbrev tv:MY:=dS 10
abbrev sS:MY:=dS 11
abbrev wv:MY:=dS 12
abbrev lm:MY:=dS 13
abbrev kj:MY:=dS 15
abbrev eS:MY:=dS 16
abbrev sU:MY:=dS 17
abbrev eK:MY:=dS 19
abbrev gj:MY:=dS 20
abbrev j9:MY:=dS 21
abbrev fq:MY:=dS 23
abbrev qp:MY:=dS 24
abbrev eJ:MY:=dS 22
abbrev iJ:MY:=dS 28
abbrev jD:MY:=dS 25
abbrev dc:MY:=dS 27
abbrev hV:MY:=dS 29
abbrev pX:MY:=dS 30
abbrev jN:MY:=dS 33
abbrev ft:MY:=dS 32
abbrev iI:MY:=dS 31
abbrev iV:MY:=dS 20
abbrev iE:MY:=dS 35
abbrev oT:MY:=dS 39
abbrev wO:MY:=dS 40
abbrev wo:MY:=dS 38
abbrev jg:MY:=dS 41
abbrev fV:MY:=dS 42
abbrev j5:MY:=dS 43
abbrev hU:MY:=dS 45
abbrev js:MY:=dS 46
abbrev kJ:MY:=dS 47
abbrev gW:MY:=dS 48
abbrev jd:MY:=dS 49
abbrev jj:MY:=dS 52
abbrev km:MY:=dS 50
abbrev jA:MY:=dS 51
abbrev fY:MY:=dS 53
abbrev iP:MY:=dS 60
abbrev jh:MY:=dS 67
abbrev jE:MY:=dS 68
abbrev kB:MY:=dS 61
abbrev jC:MY:=dS 62
abbrev lH:MY:=dS 54
abbrev kC:MY:=dS 55
abbrev fU:MY:=dS 56
abbrev gK:MY:=dS 63
abbrev lQ:MY:=dS 64
abbrev g9:MY:=dS 65
abbrev jx:MY:=dS 69
abbrev fw:MY:=dS 70
abbrev fE:MY:=dS 71
abbrev jK:MY:=dS 72
abbrev iN:MY:=dS 73
abbrev fi:MY:=dS 74
abbrev fg:MY:=dS 75
abbrev eV:MY:=dS 66
abbrev iR:MY:=dS 76
abbrev jk:MY:=dS 77
abbrev zY:MY:=dS 78
theorem wB:bootBuiltins "abs"=some (.builtin "abs"):=by decide +kernel
theorem ku:bootBuiltins "max"=some (.builtin "max"):=by decide +kernel
theorem tM:bootBuiltins "len"=some (.builtin "len"):=by decide +kernel
theorem oJ:bootBuiltins "dict"=some (.type "dict"):=by decide +kernel
theorem zD:bootBuiltins "range"=some (.type "range"):=by decide +kernel
theorem Gi:bootBuiltins "any"=some (.builtin "any"):=by decide +kernel
theorem vF:bootBuiltins "int"=some (.type "int"):=by decide +kernel
theorem ki:bootBuiltins "tuple"=some (.type "tuple"):=by decide +kernel
theorem qE:bootBuiltins "isinstance"=some (.builtin "isinstance"):=by decide +kernel
theorem Hh:bootBuiltins "set"=some (.type "set"):=by decide +kernel
theorem qe:bootBuiltins "sum"=some (.builtin "sum"):=by decide +kernel
theorem GD:bootBuiltins "min"=some (.builtin "min"):=by decide +kernel
theorem pY {y:Int} {A B:Prop} (h1:y≠0->A) (h2:y=0->B):if (!decide (y=0))=true then A else B:=by
 by_cases h:y=0
 ·rw [if_neg (by simp [h])]; exact h2 h
 ·rw [if_pos (by simp [h])]; exact h1 h
theorem b_ {p:Prop} [Decidable p] {A B:Prop} (h1:p->A) (h2:¬ p->B):if decide p=true then A else B:=by
 by_cases h:p
 ·rw [if_pos (by simp [h])]; exact h1 h
 ·rw [if_neg (by simp [h])]; exact h2 h
theorem BZ {p:Prop} [Decidable p] {A B:Prop} (h1:¬ p->A) (h2:p->B):if (!decide p)=true then A else B:=by
 by_cases h:p
 ·rw [if_neg (by simp [h])]; exact h2 h
 ·rw [if_pos (by simp [h])]; exact h1 h
theorem rH {c:M1} {A B:Prop} (h1:c=true->A) (h2:c=false->B):if c=true then A else B:=by
 cases c
 ·exact BH (h2 rfl)
 ·exact Fe (h1 rfl)
theorem Bv {c:M1} {A B:Prop} (h1:c=false->A) (h2:c=true->B):if (!c)=true then A else B:=by
 cases c
 ·exact Fe (h1 rfl)
 ·exact BH (h2 rfl)
theorem xO {ds:List D} {i:Int} (h0:0<=i) (h1:i < (ds.length:Int)):∃ d,L2.atI ds i=some d/\d∈ds:=by
 obtain⟨n,rfl⟩:=Int.eq_ofNat_of_zero_le h0;have hn:n < ds.length:=by omega
 exact⟨ds[n],jn (by simp [hn]),MH hn⟩
theorem ur {ok:DH->Prop} {g:DG} {b:DS} {M:lY} {P:D->Prop} (Iv:Lo->DH->Prop) (hok:∀ L S,Iv L S->ok S)
  (hs:∀ d L S N,P d->Iv L S->(∀ L' S',Iv L' S'->N L' S')->g d L S λL1 S1=>b {M with nx:=N,ct:=N,bk:=M.nx} L1 S1) (hd:∀ L S,Iv L S->M.nx L S):∀ r,(∀ d∈r,P d)->∀ L S,Iv L S->iA ok g b M r L S
 | [],_,L,S,i=>⟨hok L S i,hd L S i⟩
 | d::r,hp,L,S,i=>⟨hok L S i,hs d L S _ (hp d LL) i λL' S' i'=>ur Iv hok hs hd r (λe he=>hp e (LM _ he)) L' S' i'⟩
instance {n:Nat} {x:Int}:Decidable (Bt n x):=inferInstanceAs (Decidable (x.natAbs < 2 ^ n))
theorem aI {S:DH} {p a:MR} {o u:DO} (hp:S p=none) (h:S a=some u):put S p o a=some u:=by rw [bI (fo h hp)]; exact h
theorem few {ds:List D} (h:Nat.ble ds.length sizeLine=true:=by rfl):ds.length<=sizeLine:=LV h
def on (S:DH) (a:MR):Prop:=∃ n b,S a=some (.lst [.int n,.bl b])/\(b=false->0<=n/\n < 2147483647)
def Dr (a:MR) (S S':DH):Prop:=on S' a/\∀ b o,b≠a->S b=some o->S' b=some o
theorem Dr.trans {a:MR} {S S1 S2:DH} (h1:Dr a S S1) (h2:Dr a S1 S2):Dr a S S2:=⟨h2.1,λb o n e=>h2.2 b o n (h1.2 b o n e)⟩
theorem on.ne {a p:MR} {S:DH} (h:on S a) (hp:S p=none):p≠a:=by
 obtain⟨n,b,e,_⟩:=h;intro z;subst z;rw [e] at hp;cases hp
theorem on.new {a p:MR} {S:DH} {o:DO} (h:on S a) (hp:S p=none):on (put S p o) a:=by
 have z:=h.ne hp;obtain⟨n,b,e,q⟩:=h;exact⟨n,b,by rw [bI (Ne.symm z)]; exact e,q⟩
theorem Dr.new {a p:MR} {S:DH} {o:DO} (h:on S a) (hp:S p=none):Dr a S (put S p o):=
 ⟨h.new hp,λb u n e=>by rw [bI (fo e hp)]; exact e⟩
theorem yr {x:Int} (h1:0<=x) (h2:x < 2147483648):Bt 31 x:=by
 unfold Bt;omega
def N (u a b:Rat):D:=.tup [fr a,fr (ss b*u)]
structure Sm (n:Nat) (a b:Rat):Prop where
 a:Sz n a
 b:Sz n b
theorem Sm.mono {m n:Nat} {a b:Rat} (h:Sm m a b) (hm:m<=n:=by first|decide|omega):Sm n a b:=⟨h.a.mono hm,h.b.mono hm⟩
theorem Fo {q:Rat}:D.tup [.int (-q.num),.int (q.den:Int)]=fr (-q):=by
 show _=D.tup [.int (-q).num,.int ((-q).den:Int)]
 rw [Rat.neg_num,Rat.neg_den]
theorem BI {n:Nat} {t b:Int} (h:b≠0) (hb:Bt n b):Bt n ((Int.gcd t b:Nat):Int):=by
 refine hb.le ?_;have h1:Int.gcd t b ∣ b.natAbs:=by
  have:=Int.gcd_dvd_right t b;exact(by have:=Mu.mpr this; simpa using this)
 have:=Nat.le_of_dvd (by omega) h1
 omega
def cx:cH:=λds S k=>match ds with
 | [.int a,.int b]=>k (.int ((Int.gcd a b:Nat):Int)) S
 | _=>False
theorem dj:au ["one","other","rest"] ["one","other"] (ap fv):=dX
theorem mJ (Fn:FN K "common_divisor" fv f fd) (oV:mg "abs"=none):
  aT P w K mg base c8 1 f fd ["one","other"] (dk K cx):=by
 refine Fn.okJ dj (λds S k h=>?_) (λcdv A outer s H E hr=>⟨_,(af (lu PassesOwn.never (ax uJ (ah 1) ae (aA _)) (af (ai (i:=2) dj.nd (aw n5 (ah 0) (ah 1))) (af (ai (i:=0) dj.nd (ah 1)) (aj (ai (i:=1) dj.nd (ah 2)))))) (aj (ao (bp Ap rfl oV wB (aG 0 ac))))),λds S k h=>?_⟩)
 ·unfold cx at h
  split at h
  ·rfl
  ·exact h.elim
 ·unfold cx at h
  split at h
  ·rename_i a b
   refine⟨λm L S'=>S'=S/\∃ x y r,L=[some (.int x),some (.int y),r]/\m=y.natAbs/\Int.gcd x y=Int.gcd a b,⟨_,rfl,a,b,_,rfl,rfl,rfl⟩,?_⟩
   rintro m L S' ⟨rfl,x,y,r,rfl,rfl,e⟩;refine pY (λhy=>⟨λL' S''=>∃ m',m' < y.natAbs/\S''=S'/\∃ x y r,L'=[some (.int x),some (.int y),r]/\m'=y.natAbs/\Int.gcd x y=Int.gcd a b,λ_ _ z=>z,hy,?_⟩) (λhy=>?_)
   ·exact⟨_,xK x y hy,rfl,y,x.fmod y,_,rfl,rfl,(uf x y).trans e⟩
   ·subst hy;have e2:=vi x;rw [e] at e2
    show k (.int (if x < 0 then -x else x)) S'
    rw [<- e2];exact h
  ·exact h.elim
def im:cH:=λds S k=>match ds with
 | [.int t,.int b]=>b≠0/\Bt 60000000 b/\k (fr (Rat.divInt t b)) S
 | _=>False
theorem mR {S:DH} {k:DK} {t b:Int} {q:Rat} (e:Rat.divInt t b=q) (h0:b≠0) (hb:Bt 60000000 b) (h:k (fr q) S):im [.int t,.int b] S k:=by subst e; exact⟨h0,hb,h⟩
theorem qt:au ["top","bottom","shared"] ["top","bottom"] (ap sH):=dX
theorem BA (Fn:FN K "ratio" sH f fd) (aY:bj P w K mg base "common_divisor" 1 cx) (hBl:mr mg base) (hTr:P.given.tree=none):
  aT P w K mg base c8 34 f fd ["top","bottom"] (dk K im):=by
 refine Fn.okJ qt (λds S k h=>?_) (λcdv A outer s H E hr=>⟨_,(af (aE (ax fe (ah 1) ae (aA _)) (aj pT) aF) (af (ai (i:=2) qt.nd (dq aY hr (aG 0 (aG 1 ac)))) (af (aE (ax xX (ah 1) ae (aA _)) (aj (ai (i:=2) qt.nd (eE eF (ah 2)))) aF) (aj (ao (aq (aa (aw (lJ hr hBl hTr rfl rfl rfl (by decide)) (ah 0) (ah 2)) (aa (aw (lJ hr hBl hTr rfl rfl rfl (by decide)) (ah 1) (ah 2)) ac)))))))),λds S k h=>?_⟩)
 ·unfold im at h
  split at h
  ·rfl
  ·exact h.elim
 ·unfold im at h
  split at h
  ·rename_i t b
   obtain⟨h0,hb,q⟩:=h;have hg:=BI (t:=t) h0 hb;have hs:=zu (t:=t) h0;have e1:=so (t:=t) h0;have e2:=sV (t:=t) h0;have qq:k (.tup [.int (t.fdiv (ze t b)),.int (b.fdiv (ze t b))]) S:=by rw [e1,e2]; exact q
   unfold ze at qq hs
   refine b_ (λz=>absurd z h0) (λ_=>b_ (λhl=>?_) (λhl=>?_))
   ·rw [if_pos hl] at qq hs
    exact⟨hs,hs,few,qq⟩
   ·rw [if_neg hl] at qq hs
    exact⟨hs,hs,few,qq⟩
  ·exact h.elim
def tY:cH:=λds S k=>∃ p q:Rat,ds=[fr p,fr q]/\Sz 20000000 p/\Sz 20000000 q/\k (fr (p+q)) S
theorem Cy:au ["one","other"] ["one","other"] (ap wl):=dX
theorem C' (Fn:FN K "plus" wl f fd) (dR:bj P w K mg base "ratio" 34 im):
  aT P w K mg base c8 35 f fd ["one","other"] (dk K tY):=by
 refine Fn.okJ Cy (λds S k h=>?_) (λcdv A outer s H E hr=>⟨_,(aj (ao (dq dR hr (aa (aw cS (aw bK (aJ 0) (aJ 1)) (aw bK (aJ 1) (aJ 0))) (aa (aw bK (aJ 0) (aJ 1)) ac))))),λds S k h=>?_⟩)
 ·obtain⟨_,_,rfl,_⟩:=h
  rfl
 ·obtain⟨p,q,rfl,hp,hq,w⟩:=h;exact⟨iF hp.num hq.den,iF hq.num hp.den,iF hp.den hq.den,mR (jo p q) (az p q) (hp.den.mul hq.den).mono w⟩
def rY:cH:=λds S k=>∃ p q:Rat,ds=[fr p,fr q]/\Sz 20000000 p/\Sz 20000000 q/\k (fr (p - q)) S
theorem BW:au ["one","other"] ["one","other"] (ap tv):=dX
theorem zC (Fn:FN K "minus" tv f fd) (dR:bj P w K mg base "ratio" 34 im):
  aT P w K mg base c8 35 f fd ["one","other"] (dk K rY):=by
 refine Fn.okJ BW (λds S k h=>?_) (λcdv A outer s H E hr=>⟨_,(aj (ao (dq dR hr (aa (aw gz (aw bK (aJ 0) (aJ 1)) (aw bK (aJ 1) (aJ 0))) (aa (aw bK (aJ 0) (aJ 1)) ac))))),λds S k h=>?_⟩)
 ·obtain⟨_,_,rfl,_⟩:=h
  rfl
 ·obtain⟨p,q,rfl,hp,hq,w⟩:=h;exact⟨iF hp.num hq.den,iF hq.num hp.den,iF hp.den hq.den,mR (vK p q) (az p q) (hp.den.mul hq.den).mono w⟩
def lW:cH:=λds S k=>∃ p q:Rat,ds=[fr p,fr q]/\Sz 20000000 p/\Sz 20000000 q/\k (fr (p*q)) S
theorem Cf:au ["one","other"] ["one","other"] (ap sS):=dX
theorem zW (Fn:FN K "times" sS f fd) (dR:bj P w K mg base "ratio" 34 im):
  aT P w K mg base c8 35 f fd ["one","other"] (dk K lW):=by
 refine Fn.okJ Cf (λds S k h=>?_) (λcdv A outer s H E hr=>⟨_,(aj (ao (dq dR hr (aa (aw bK (aJ 0) (aJ 1)) (aa (aw bK (aJ 0) (aJ 1)) ac))))),λds S k h=>?_⟩)
 ·obtain⟨_,_,rfl,_⟩:=h
  rfl
 ·obtain⟨p,q,rfl,hp,hq,w⟩:=h;exact⟨iF hp.num hq.num,iF hp.den hq.den,mR (c6 p q) (az p q) (hp.den.mul hq.den).mono w⟩
def wC:cH:=λds S k=>∃ p q:Rat,ds=[fr p,fr q]/\q≠0/\Sz 20000000 p/\Sz 20000000 q/\k (fr (p / q)) S
theorem CK:au ["one","other"] ["one","other"] (ap wv):=dX
theorem DX (Fn:FN K "over" wv f fd) (dR:bj P w K mg base "ratio" 34 im):
  aT P w K mg base c8 35 f fd ["one","other"] (dk K wC):=by
 refine Fn.okJ CK (λds S k h=>?_) (λcdv A outer s H E hr=>⟨_,(aj (ao (dq dR hr (aa (aw bK (aJ 0) (aJ 1)) (aa (aw bK (aJ 0) (aJ 1)) ac))))),λds S k h=>?_⟩)
 ·obtain⟨_,_,rfl,_⟩:=h
  rfl
 ·obtain⟨p,q,rfl,h0,hp,hq,w⟩:=h;exact⟨iF hp.num hq.den,iF hp.den hq.num,mR (B' p q) (Int.mul_ne_zero (iQ p) (vI h0)) (hp.den.mul hq.num).mono w⟩
def pN:cH:=λds S k=>∃ q:Rat,ds=[fr q]/\k (fr (-q)) S
theorem vf:au ["one"] ["one"] (ap lm):=dX
theorem uF (Fn:FN K "negative" lm f fd):
  aT P w K mg base c8 1 f fd ["one"] (dk K pN):=by
 refine Fn.okJ vf (λds S k h=>?_) (λcdv A outer s H E hr=>⟨_,(aj (ao (aq (aa (eE eF (aJ 0)) (aa (aJ 0) ac))))),λds S k h=>?_⟩)
 ·obtain⟨_,rfl,_⟩:=h
  rfl
 ·obtain⟨q,rfl,w⟩:=h;rw [<- Fo] at w;exact⟨few,w⟩
def bs (u b d:Rat):Rat:=Hy b d*Hy b d*u
def aK (S S':DH):Prop:=∀ b o,S b=some o->S' b=some o
theorem aK.refl (S:DH):aK S S:=λ_ _ h=>h
theorem aK.trans {S S1 S2:DH} (a:aK S S1) (b:aK S1 S2):aK S S2:=λc o h=>b c o (a c o h)
theorem aK.new {S:DH} {p:MR} {o:DO} (h:S p=none):aK S (put S p o):=λb u e=>by
 unfold put
 split
 ·rename_i z; subst z; rw [h] at e; cases e
 ·exact e
theorem aK.put {S S1:DH} {p:MR} {o:DO} (e:aK S S1) (h:S p=none):aK S (put S1 p o):=λb u z=>by
 unfold DL.put
 split
 ·rename_i y; subst y; rw [h] at z; cases z
 ·exact e b u z
theorem aK.none {S S1:DH} {p:MR} (e:aK S S1) (h:S1 p=none):S p=none:=by
 cases q:S p with
 | none=>rfl
 | some o=>rw [e p o q] at h; cases h
abbrev Q:=Rat×Rat
def qa (x y:Q):Q:=(x.1+y.1,x.2+y.2)
def qs (x y:Q):Q:=(x.1 - y.1,x.2 - y.2)
def qm (u:Rat) (x y:Q):Q:=(x.1*y.1+x.2*y.2*u,x.1*y.2+x.2*y.1)
abbrev Sq (n:Nat) (x:Q):Prop:=Sm n x.1 x.2
def qo (p:Rat):Q:=(p,0)
def W (x y:Rat):D:=.tup [fr x,fr y]
def n_:cH:=λds S k=>∃ x y z v:Rat,ds=[W x y,W z v]/\Sz 20000000 x/\Sz 20000000 y/\Sz 20000000 z/\Sz 20000000 v/\k (W (z - x) (v - y)) S
theorem tH:au ["one","other"] ["one","other"] (ap kj):=dX
theorem sM (Fn:FN K "plain_way" kj f fd) (jM:bj P w K mg base "minus" 35 rY):
  aT P w K mg base c8 36 f fd ["one","other"] (dk K n_):=by
 refine Fn.okJ tH (λds S k h=>?_) (λcdv A outer s H E hr=>⟨_,(aj (ao (aq (aa (dq jM hr (aa (aJ 1) (aa (aJ 0) ac))) (aa (dq jM hr (aa (aJ 1) (aa (aJ 0) ac))) ac))))),λds S k h=>?_⟩)
 ·obtain⟨_,_,_,_,rfl,_⟩:=h
  rfl
 ·obtain⟨x,y,z,v,rfl,hx,hy,hz,hv,w⟩:=h;exact⟨z,x,rfl,hz,hx,v,y,rfl,hv,hy,few,w⟩
def ir:cH:=λds S k=>∃ x y z v:Rat,ds=[W x y,W z v]/\Sz 360000 x/\Sz 360000 y/\Sz 360000 z/\Sz 360000 v/\k (fr (x*z+y*v)) S
theorem lh:au ["one","other"] ["one","other"] (ap eS):=dX
theorem lK (Fn:FN K "product_of_ways" eS f fd) (iT:bj P w K mg base "plus" 35 tY) (cM:bj P w K mg base "times" 35 lW):
  aT P w K mg base c8 36 f fd ["one","other"] (dk K ir):=by
 refine Fn.okJ lh (λds S k h=>?_) (λcdv A outer s H E hr=>⟨_,(aj (ao (dq iT hr (aa (dq cM hr (aa (aJ 0) (aa (aJ 1) ac))) (aa (dq cM hr (aa (aJ 0) (aa (aJ 1) ac))) ac))))),λds S k h=>?_⟩)
 ·obtain⟨_,_,_,_,rfl,_⟩:=h
  rfl
 ·obtain⟨x,y,z,v,rfl,hx,hy,hz,hv,w⟩:=h;exact⟨x,z,rfl,hx.mono,hz.mono,y,v,rfl,hy.mono,hv.mono,_,_,rfl,(hx.mul hz).mono,(hy.mul hv).mono,w⟩
def xg:cH:=λds S k=>∃ x y a b t:Rat,ds=[W x y,W a b,fr t]/\Sz 360000 x/\Sz 360000 y/\Sz 360000 a/\Sz 360000 b/\Sz 360000 t/\k (W (x+a*t) (y+b*t)) S
theorem Bu:au ["place","way","by"] ["place","way","by"] (ap sU):=dX
theorem Bx (Fn:FN K "moved" sU f fd) (iT:bj P w K mg base "plus" 35 tY) (cM:bj P w K mg base "times" 35 lW):
  aT P w K mg base c8 36 f fd ["place","way","by"] (dk K xg):=by
 refine Fn.okJ Bu (λds S k h=>?_) (λcdv A outer s H E hr=>⟨_,(aj (ao (aq (aa (dq iT hr (aa (aJ 0) (aa (dq cM hr (aa (aJ 1) (aG 2 ac))) ac))) (aa (dq iT hr (aa (aJ 0) (aa (dq cM hr (aa (aJ 1) (aG 2 ac))) ac))) ac))))),λds S k h=>?_⟩)
 ·obtain⟨_,_,_,_,_,rfl,_⟩:=h
  rfl
 ·obtain⟨x,y,a,b,t,rfl,hx,hy,ha,hb,ht,w⟩:=h;exact⟨a,t,rfl,ha.mono,ht.mono,_,_,rfl,hx.mono,(ha.mul ht).mono,b,t,rfl,hb.mono,ht.mono,_,_,rfl,hy.mono,(hb.mul ht).mono,few,w⟩
structure oI (c:Zr) (ns:Zi):Prop where
 keys:ns.map (·.1)=c.map (·.1)
 sc:∃ t:Rat,t≠0/\(∀ p∈ns,∃ q,(p.1,q)∈c/\(p.2:Rat)=t*q)/\∀ p∈c,∃ n:Int,(p.1,n)∈ns/\(n:Rat)=t*p.2
 co:∀ d:Int,(∀ p∈ns,d ∣ p.2)->d ∣ 1
 sg:∃ p∈ns,(∀ q∈ns,pZ q.1 p.1=false)/\0 < p.2
theorem zU {k l:List Int} (hk:∃ i j,k=[i,j]) (hl:∃ i j,l=[i,j]) (h1:pZ k l=false) (h2:pZ l k=false):k=l:=by
 obtain⟨a,b,rfl⟩:=hk;obtain⟨c,d,rfl⟩:=hl;simp only [pZ,Bool.or_eq_false_iff,Bool.and_eq_false_iff,decide_eq_false_iff_not] at h1 h2
 have e1:a=c:=by omega
 have e2:b=d:=by omega
 rw [e1,e2]
theorem qj {α:Type}:∀ {l:List (List Int×α)} {k:List Int} {x y:α},(l.map (·.1)).Nodup->(k,x)∈l->(k,y)∈l->x=y
 | [],_,_,_,_,h,_=>nomatch h
 | p::l,k,x,y,nd,h1,h2=>by
  rw [LP,Mn] at nd;rcases LJ.mp h1 with e1 | m1
  ·rcases LJ.mp h2 with e2 | m2
   ·have:=e1.trans e2.symm;injection this
   ·refine absurd (LF.mpr ⟨_,m2,?_⟩) nd.1;rw [<- e1]
  ·rcases LJ.mp h2 with e2 | m2
   ·refine absurd (LF.mpr ⟨_,m1,?_⟩) nd.1;rw [<- e2]
   ·exact qj nd.2 m1 m2
theorem CJ (q:Rat):((q.den:Int):Rat)≠0:=λz=>by
 have:=q.den_nz;have:(q.den:Int)=0:=Mo.mp (by rw [z]; rfl)
 omega
theorem kg (q:Rat):((q.den:Int):Rat)*q=(q.num:Rat):=by
 have d0:=CJ q;have e:=Rat.num_divInt_den q;rw [Me] at e;grind
theorem iw {r:Rat} {n m:Int} (h:(m:Rat)=r*n):(r.den:Int)*m=r.num*n:=by
 have z:=kg r;have e2:(((r.den:Int)*m:Int):Rat)=((r.num*n:Int):Rat):=by
  rw [LB,LB,h,<- z];grind
 exact Mo.mp e2
theorem xM {a b n:Int} (h:a ∣ b*n) (c:Nat.Coprime a.natAbs b.natAbs):a ∣ n:=by
 have:=Mu.mpr h;rw [MC] at this;exact Mu.mp (Nat.Coprime.dvd_of_dvd_mul_left c this)
theorem u9 {c c':Zr} {ns ns':Zi} {s:Rat} (h:oI c ns) (h':oI c' ns') (s0:s≠0) (two:∀ p∈c,∃ i j,p.1=[i,j]) (two':∀ p∈c',∃ i j,p.1=[i,j])
  (hc:∀ p∈c,(p.1,s*p.2)∈c') (hc':∀ p∈c',∃ q,(p.1,q)∈c/\p.2=s*q) (nd:(c.map (·.1)).Nodup) (nd':(c'.map (·.1)).Nodup):∀ p∈ns',p∈ns:=by
 obtain⟨t,t0,f1,f2⟩:=h.sc;obtain⟨t',t0',f1',f2'⟩:=h'.sc;have ndn:(ns.map (·.1)).Nodup:=by rw [h.keys]; exact nd
 have ndn':(ns'.map (·.1)).Nodup:=by rw [h'.keys]; exact nd'
 have g1:∀ p∈ns',∃ n:Int,(p.1,n)∈ns/\(p.2:Rat)=(t'*s / t)*n:=λp hp=>by
  obtain⟨q',m1,e1⟩:=f1' p hp;obtain⟨q,m2,e2⟩:=hc' _ m1;obtain⟨n,m3,e3⟩:=f2 _ m2;refine⟨n,m3,?_⟩;simp only at e2 e3
  rw [e1,e2,e3];grind
 have g2:∀ p∈ns,∃ n:Int,(p.1,n)∈ns'/\(n:Rat)=(t'*s / t)*p.2:=λp hp=>by
  obtain⟨q,m1,e1⟩:=f1 p hp;obtain⟨n,m3,e3⟩:=f2' _ (hc _ m1);refine⟨n,m3,?_⟩;simp only at e3;rw [e1,e3];grind
 generalize t'*s / t=r at g1 g2
 have d1:(r.den:Int) ∣ 1:=h.co _ λp hp=>by
  obtain⟨n,_,e⟩:=g2 p hp;have z:=iw e;exact xM (b:=r.num) ⟨n,z.symm⟩ (Nat.Coprime.symm r.reduced)
 have d2:r.num ∣ 1:=h'.co _ λp hp=>by
  obtain⟨n,_,e⟩:=g1 p hp;have z:=iw e;exact xM (b:=(r.den:Int)) ⟨n,z⟩ r.reduced
 have den1:r.den=1:=by
  have:=Int.eq_one_of_dvd_one (by omega) d1
  omega
 have num1:r.num=1\/r.num=-1:=by
  have:=Mu.mpr d2;have h1:r.num.natAbs=1:=Nat.dvd_one.mp (by simpa using this)
  omega
 have rpos:r.num=1:=by
  rcases num1 with e | e
  ·exact e
  ·exfalso
   obtain⟨p,hp,mx,pos⟩:=h.sg;obtain⟨p',hp',mx',pos'⟩:=h'.sg;obtain⟨n,m1,e1⟩:=g2 p hp;obtain⟨n',m2,e2⟩:=g1 p' hp';obtain⟨q,w1,_⟩:=f1 p hp;obtain⟨q',w1',_⟩:=f1' p' hp';have ek:p.1=p'.1:=zU (two _ w1) (two' _ w1') (mx' (p.1,n) m1) (mx (p'.1,n') m2);have ep:n'=p.2:=qj ndn (k:=p.1) (by rw [ek]; exact m2) hp
   have z:=iw e2;rw [den1,e,ep] at z;omega
 intro p hp;obtain⟨n,m1,e1⟩:=g1 p hp;have z:=iw e1;rw [den1,rpos] at z;have:p.2=n:=by omega
 rw [<- this] at m1;exact m1
def gM (B:Int) (q:Rat):Int:=q.num*B.fdiv (q.den:Int)
theorem tF {B:Int} {q:Rat} (h:(q.den:Int) ∣ B):((gM B q:Int):Rat)=B*q:=by
 obtain⟨c,rfl⟩:=h;have d0:(q.den:Int)≠0:=by have:=q.den_nz; omega
 have z:=kg q;unfold gM;rw [Int.mul_fdiv_cancel_left c d0,LB,LB,<- z];grind
theorem Fj {c:Zr} {B g:Int} (B0:B≠0) (hd:∀ p∈c,(p.2.den:Int) ∣ B) (g0:g≠0) (gd:∀ p∈c,g ∣ gM B p.2) (gm:∀ d:Int,(∀ p∈c,d ∣ gM B p.2)->d ∣ g)
  (hs:∃ p∈c,(∀ q∈c,pZ q.1 p.1=false)/\0 < (gM B p.2).fdiv g):oI c (c.map λp=>(p.1,(gM B p.2).fdiv g)):=by
 have ex:∀ p∈c,g*(gM B p.2).fdiv g=gM B p.2:=λp hp=>by
  obtain⟨x,e⟩:=gd p hp;rw [e,Int.mul_fdiv_cancel_left x g0]
 have gr:(g:Rat)≠0:=by
  intro z;exact g0 (Mo.mp (by rw [z]; rfl))
 have tr:∀ p∈c,(((gM B p.2).fdiv g:Int):Rat)=((B:Rat) / g)*p.2:=λp hp=>by
  have e:=congrArg (λz:Int=>(z:Rat)) (ex p hp)
  simp only [LB] at e;rw [tF (hd p hp)] at e;grind
 refine⟨by rw [Mk]; rfl,⟨(B:Rat) / g,?_,λp hp=>?_,λp hp=>⟨_,LF.mpr ⟨p,hp,rfl⟩,tr p hp⟩⟩,λd h=>?_,?_⟩
 ·intro z;have:(B:Rat)=0:=by grind
  exact B0 (Mo.mp (by rw [this]; rfl))
 ·obtain⟨x,hx,rfl⟩:=LF.mp hp;exact⟨x.2,hx,tr x hx⟩
 ·have z:d*g ∣ g:=gm _ λp hp=>by
   obtain⟨x,e⟩:=h _ (LF.mpr ⟨p,hp,rfl⟩);simp only at e;refine⟨x,?_⟩;have:=ex p hp;rw [<- this,e];grind
  obtain⟨y,e⟩:=z;refine⟨y,?_⟩
  have : g * (d * y) = g * 1 := by rw [Int.mul_one]; conv => rhs; rw [e]
                                   grind
  exact(Int.eq_of_mul_eq_mul_left g0 this).symm
 ·obtain⟨p,hp,mx,pos⟩:=hs;refine⟨_,LF.mpr ⟨p,hp,rfl⟩,λq hq=>?_,pos⟩
  obtain⟨x,hx,rfl⟩:=LF.mp hq;exact mx x hx
def iB {α:Type} (f:α->D) (l:List (List Int×α)):List (List Int×D):=l.map λp=>(p.1,f p.2)
abbrev fc:=iB fr
abbrev bc:=iB D.int
abbrev sZ:=iB (λn:Int=>D.tup [.int n,.int 1])
abbrev bH (l:List (List Int×D)) (ep:Nat):DO:=.gen (.dT l ep)
section
variable {α:Type} {f:α->D}
theorem nD:∀ {l:List (List Int×α)} {k:List Int},k∉l.map (·.1)->de (iB f l) k=none
 | [],_,_=>rfl
 | p::l,k,h=>by
  rw [LP,LJ,not_or] at h;have e:de (iB f (p::l)) k=de (iB f l) k:=by simp [de,iB,LS,Ne.symm h.1]
  rw [e];exact nD h.2
theorem dI:∀ {l:List (List Int×α)} {k:List Int} {x:α},(l.map (·.1)).Nodup->(k,x)∈l->de (iB f l) k=some (f x)
 | [],_,_,_,h=>nomatch h
 | p::l,k,x,nd,h=>by
  rw [LP,Mn] at nd;rcases LJ.mp h with e | m
  ·subst e;simp [de,iB]
  ·have ne:p.1≠k:=λz=>nd.1 (LF.mpr ⟨_,m,z.symm⟩)
   have e:de (iB f (p::l)) k=de (iB f l) k:=by simp [de,iB,LS,ne]
   rw [e];exact dI nd.2 m
theorem fO {l:List (List Int×α)} {k:List Int} {x:α} (h:k∉l.map (·.1)):fk (iB f l) k (f x)=iB f (l++[(k,x)]):=by
 unfold fk;rw [nD h,if_neg (by simp)]
 simp [iB]
theorem cG {l:List (List Int×α)}:(iB f l).length=l.length:=LG _
theorem nC {l r:List (List Int×α)} {p:List Int×α} (h:((l++p::r).map (·.1)).Nodup):p.1∉l.map (·.1):=by
 rw [List.map_append,LP,List.nodup_append] at h;exact λm=>h.2.2 _ m _ LL rfl
end
theorem lim {n:Nat} (h:n<=100000):n < sizeLine:=Nat.lt_of_le_of_lt h (LN (by decide:100000 < 100001) (LV (rfl:Nat.ble 100001 sizeLine=true)))
theorem rh {l:Zr} {g:List Int×Rat->M1} (h:(l.map (·.1)).Nodup):((l.filter g).map (·.1)).Nodup:=List.Sublist.nodup (List.Sublist.map _ List.filter_sublist) h
abbrev nz (l:Zr):Zr:=l.filter λp=>decide (p.2≠0)
theorem wX {a b:Int} (ha:0 < a) (hb:0 < b):(a.fdiv ((Int.gcd a b:Nat):Int))*b=((Int.lcm a b:Nat):Int):=by
 have h1:((Int.gcd a b:Nat):Int) ∣ a:=Int.gcd_dvd_left a b;have g0:((Int.gcd a b:Nat):Int)≠0:=by
  have:=Int.gcd_pos_of_ne_zero_left (a:=a) b (by omega)
  omega
 have z:((Int.gcd a b:Nat):Int)*((Int.lcm a b:Nat):Int)=a*b:=by
  have e2:=congrArg (λn:Nat=>(n:Int)) (Int.gcd_mul_lcm a b)
  simp only [Int.natCast_mul] at e2;rw [Int.natAbs_of_nonneg (by omega),Int.natAbs_of_nonneg (by omega)] at e2
  exact e2
 generalize ((Int.gcd a b:Nat):Int)=g at h1 g0 z
 generalize ((Int.lcm a b:Nat):Int)=l at z;obtain⟨x,rfl⟩:=h1;rw [Int.mul_fdiv_cancel_left x g0];refine Int.eq_of_mul_eq_mul_left g0 ?_;rw [z,Int.mul_assoc]
def eZ:cH:=λds S k=>∃ a b:Int,ds=[.int a,.int b]/\0 < a/\0 < b/\Bt 400000 a/\Bt 400000 b/\k (.int ((Int.lcm a b:Nat):Int)) S
theorem lG:au ["one","other"] ["one","other"] (ap eK):=dX
theorem lj (Fn:FN K "common_multiple" eK f fd) (aY:bj P w K mg base "common_divisor" 1 cx) (hBl:mr mg base) (hTr:P.given.tree=none):
  aT P w K mg base c8 34 f fd ["one","other"] (dk K eZ):=by
 refine Fn.okJ lG (λds S k h=>?_) (λcdv A outer s H E hr=>⟨_,(aj (ao (aw bK (aw (lJ hr hBl hTr rfl rfl rfl (by decide)) (ah 0) (dq aY hr (aG 0 (aG 1 ac)))) (ah 1)))),λds S k h=>?_⟩)
 ·obtain⟨_,_,rfl,_⟩:=h
  rfl
 ·obtain⟨a,b,rfl,ha,hb,ba,bb,w⟩:=h;rw [<- wX ha hb] at w;have g0:((Int.gcd a b:Nat):Int)≠0:=by
   have:=Int.gcd_pos_of_ne_zero_left (a:=a) b (by omega)
   omega
  exact⟨g0,iF (ba.le (HM.aN _ _)) bb,w⟩
def wA:Int->List Rat->Int
 | m,[]=>m
 | m,q::qs=>wA ((Int.lcm m (q.den:Int):Nat):Int) qs
theorem pC {a b:Int} (ha:0 < a) (hb:0 < b):0 < ((Int.lcm a b:Nat):Int):=by
 have:=Int.lcm_pos (m:=a) (n:=b) (by omega) (by omega)
 omega
theorem DV {m n:Nat} {a b:Int} (ha:0 < a) (hb:0 < b) (ba:Bt m a) (bb:Bt n b):Bt (m+n) ((Int.lcm a b:Nat):Int):=by
 rw [<- wX ha hb];exact(ba.le (HM.aN _ _)).mul bb
theorem kA (q:Rat):0 < (q.den:Int):=by have:=q.den_nz; omega
theorem Ac {w:Nat}:∀ {qs:List Rat} {m:Int} {n:Nat},0 < m->Bt n m->(∀ q∈qs,Sz w q)->0 < wA m qs/\Bt (n+w*qs.length) (wA m qs)
 | [],_,_,h0,h,_=>⟨h0,h⟩
 | q::qs,m,n,h0,h,hq=>by
  obtain⟨a,b⟩:=Ac (qs:=qs) (pC h0 (kA q)) (DV h0 (kA q) h (hq q LL).den) λp hp=>hq p (LM _ hp)
  refine⟨a,b.mono ?_⟩;rw [LQ,Nat.mul_add];omega
theorem tP:∀ {qs:List Rat} {m:Int},m ∣ wA m qs/\∀ q∈qs,(q.den:Int) ∣ wA m qs
 | [],m=>⟨Int.dvd_refl m,λq h=>nomatch h⟩
 | q::qs,m=>by
  obtain⟨a,b⟩:=tP (qs:=qs) (m:=((Int.lcm m (q.den:Int):Nat):Int));refine⟨Int.dvd_trans (Int.dvd_lcm_left ..) a,λp hp=>?_⟩
  rcases LJ.mp hp with e | m'
  ·rw [e];exact Int.dvd_trans (Int.dvd_lcm_right ..) a
  ·exact b p m'
theorem nO {n:Nat} {g x:Int} (h:g ∣ x) (x0:x≠0) (b:Bt n x):Bt n g:=b.le (Nat.le_of_dvd (by omega) (Mu.mpr h))
theorem AZ {B:Int}:∀ {qs:List Rat} {m:Int},m ∣ B->(∀ q∈qs,(q.den:Int) ∣ B)->wA m qs ∣ B
 | [],_,h,_=>h
 | q::qs,m,h,hq=>AZ (qs:=qs) (Int.coe_lcm_dvd h (hq q LL)) λp hp=>hq p (LM _ hp)
theorem xL:∀ {qs:List Rat} {m:Int},0 < m->0 < wA m qs
 | [],_,h=>h
 | q::qs,m,h=>xL (qs:=qs) (pC h (kA q))
theorem Fp {q:Rat} {B t:Int} (b0:B≠0) (e:(B:Rat)*q=t):(q.den:Int) ∣ B:=by
 have r0:(B:Rat)≠0:=λz=>b0 (Mo.mp (by rw [z]; rfl))
 have:q=Rat.divInt t B:=by
  rw [Me,<- e];grind
 rw [this];rw [Rat.den_divInt,if_neg b0,Int.ofNat_dvd_left];exact Nat.div_dvd_of_dvd (Nat.gcd_dvd_left _ _)
def jQ:cH:=λds S k=>∃ (a:MR) (qs:List Rat) (B:Int),ds=[.ref a]/\S a=some (.lst (qs.map fr))/\0 < B/\Bt 60000 B/\(∀ q∈qs,(q.den:Int) ∣ B)/\k (.int (wA 1 qs)) S
theorem cU:au ["fractions","bottom","fraction"] ["fractions"] (ap gj):=dX
theorem nJ (Fn:FN K "common_bottom" gj f fd) (bZ:bj P w K mg base "common_multiple" 34 eZ):
  aT P w K mg base c8 35 f fd ["fractions"] (dk K jQ):=by
 refine Fn.okJ cU (λds S k h=>?_) (λcdv A outer s H E hr=>⟨_,(af (ai (i:=1) cU.nd ae) (af (d_ PassesOwn.never rfl (ah 0) (ar (i:=2) cU.nd) (aj (ai (i:=1) cU.nd (dq bZ hr (aG 1 (aa (aJ 2) ac)))))) (aj (ao (ah 1))))),λds S k h=>?_⟩)
 ·obtain⟨_,_,_,rfl,_⟩:=h
  rfl
 ·obtain⟨a,qs,B,rfl,ha,B0,bB,hq,w⟩:=h;refine⟨(qs.map fr,some a),by simp only [aR,ha],?_⟩
  refine aL (λr L S'=>S'=S/\∃ (rs:List Rat) (m:Int) (l2:MS D),L=[some (.ref a),some (.int m),l2]/\r=rs.map fr/\wA 1 qs=wA m rs/\0 < m/\m ∣ B/\∀ q∈rs,(q.den:Int) ∣ B) (λr L S' z9=>by obtain⟨e,_⟩:=z9; rw [e]; exact ha) ?_ ?_ _ _ _ ⟨rfl,qs,1,none,rfl,rfl,rfl,by decide,Int.one_dvd B,hq⟩
  ·rintro d r L S1 N1 ⟨rfl,rs,m,l2,rfl,er,hm,m0,bm,hr⟩ hN;cases rs with
   | nil=>cases er
   | cons q rs=>
    cases er;have hq:=hr q LL;exact⟨m,(q.den:Int),rfl,m0,kA q,(nO bm (by omega) bB).mono,(nO hq (by omega) bB).mono,hN _ _ ⟨rfl,rs,_,_,rfl,rfl,hm,pC m0 (kA q),Int.coe_lcm_dvd bm hq,λp hp=>hr p (LM _ hp)⟩⟩
  ·rintro L S1 ⟨rfl,rs,m,l2,rfl,er,hm,_⟩;cases rs with
   | nil=>rw [hm] at w; exact w
   | cons _ _=>cases er
def Dn (B:Int) (T:Nat) (c:Zr):Prop:=∀ p∈c,∃ t:Int,Bt T t/\(B:Rat)*p.2=t
theorem Dn.dv {B:Int} {T:Nat} {c:Zr} (h:Dn B T c) (b0:B≠0):∀ q∈c.map (·.2),(q.den:Int) ∣ B:=λq hq=>by
 obtain⟨p,hp,rfl⟩:=LF.mp hq;obtain⟨t,_,e⟩:=h p hp;exact Fp b0 e
theorem Dn.sz {B:Int} {T n:Nat} {c:Zr} (h:Dn B T c) (B0:0 < B) (bB:Bt n B) (hT:T<=n):∀ p∈c,Sz n p.2:=λp hp=>by
 obtain⟨t,bt,e⟩:=h p hp;have r0:(B:Rat)≠0:=λz=>by
  have:B=0:=Mo.mp (by rw [z]; rfl)
  omega
 have:p.2=Rat.divInt t B:=by
  rw [Me,<- e];grind
 rw [this];exact Sz.divInt (bt.mono hT) bB (by omega)
def j8:cH:=λds S k=>∃ (a:MR) (c:Zr) (ep:Nat) (B:Int),ds=[.ref a,.int B]/\S a=some (bH (fc c) ep)/\(c.map (·.1)).Nodup/\c.length<=1000/\(∀ p∈c,Sz 80000 p.2)/\Bt 80000 B/\∀ S' p ep',aK S S'->S' p=some (bH (bc (c.map λx=>(x.1,gM B x.2))) ep')->k (.ref p) S'
theorem gE:au ["curve","bottom","tops","key","fraction"] ["curve","bottom"] (ap j9):=dX
theorem sG (Fn:FN K "tops_over" j9 f fd) (hBl:mr mg base) (hTr:P.given.tree=none):
  aT P w K mg base c8 34 f fd ["curve","bottom"] (dk K j8):=by
 refine Fn.okJ gE (λds S k h=>?_) (λcdv A outer s H E hr=>⟨_,(af (ai (i:=2) gE.nd eW) (af (da PassesOwn.never rfl (gU (ah 0)) (gC (n:=2) rfl (aW (ar (i:=3) gE.nd) (aW (ar (i:=4) gE.nd) eY))) (aj (cD (aw bK (aJ 4) (aw (lJ hr hBl hTr rfl rfl rfl (by decide)) (ah 1) (aJ 4))) (dQ hr (ah 2) (ah 3))))) (aj (ao (ah 2))))),λds S k h=>?_⟩)
 ·obtain⟨_,_,_,_,rfl,_⟩:=h
  rfl
 ·obtain⟨a,c,ep,B,rfl,ha,nd,hl,hz,bB,w⟩:=h;refine λp hp e0=>⟨_,_,aI hp ha,?_⟩
  have nap:a≠p:=fo ha hp;refine aL (λr L S'=>∃ (don am:Zr) (e1:Nat) (l2 l3:MS D),c=don++am/\r=cn (fc am)/\L=[some (.ref a),some (.int B),some (.ref p),l2,l3]/\aK S S'/\S' a=some (bH (fc c) ep)/\S' p=some (bH (bc (don.map λx=>(x.1,gM B x.2))) e1)) (λr L S' z9=>by obtain⟨_,_,_,_,_,_,_,_,_,h,_⟩:=z9; exact h) ?_ ?_ _ _ _ ⟨[],c,e0,none,none,rfl,rfl,rfl,aK.new hp,aI hp ha,ak⟩
  ·rintro d r L S1 N1 ⟨don,am,e1,l2,l3,ec,er,rfl,x1,a1,p1⟩ hN;cases am with
   | nil=>cases er
   | cons q am=>
    cases er;have nq:=nC (p:=q) (ec▸nd);have hd:don.length < 1000:=by have:=congrArg List.length ec; rw [LY,LQ] at this; omega
    have sq:Sz 80000 q.2:=hz q (by rw [ec]; simp)
    have nk:q.1∉(don.map λx=>(x.1,gM B x.2)).map (·.1):=by rw [Mk]; exact nq
    refine⟨([cz q.1,fr q.2],none),rfl,rfl,rfl,(by have:=kA q.2; omega),iF sq.num (bB.le (HM.aN _ _)),_,_,_,p1,rfl,by rw [cG,LG]; exact lim (by omega),λe2=>hN _ _ ⟨don++[q],am,e2,_,_,by rw [ec]; simp,rfl,rfl,x1.put hp,by rw [bI nap]; exact a1,?_⟩⟩
    refine ak.trans ?_;have z:=fO (f:=D.int) (x:=gM B q.2) nk
    show some (DO.gen (EU.dT (fk _ q.1 (D.int (gM B q.2))) e2))=_
    rw [z];simp
  ·rintro L S1 ⟨don,am,e1,l2,l3,ec,er,rfl,x1,a1,p1⟩;cases am with
   | cons q am=>cases er
   | nil=>
    rw [L0] at ec;subst ec;exact w S1 p e1 x1 p1
structure Gp (l:Zi) (g:Int):Prop where
 dv:∀ p∈l,g ∣ p.2
 mx:∀ d:Int,(∀ p∈l,d ∣ p.2)->d ∣ g
 nn:0<=g
theorem Gp.nil:Gp [] 0:=⟨(by simp),(λd _=>Int.dvd_zero d),Int.le_refl 0⟩
theorem Gp.snoc {l:Zi} {g:Int} {p:List Int×Int} (h:Gp l g):Gp (l++[p]) ((Int.gcd g p.2:Nat):Int):=by
 refine⟨λq hq=>?_,λd hd=>Int.dvd_coe_gcd (h.mx d λq hq=>hd q (List.mem_append_left _ hq)) (hd p (by simp)),by omega⟩
 rcases List.mem_append.mp hq with m | m
 ·exact Int.dvd_trans (Int.gcd_dvd_left ..) (h.dv q m)
 ·have e:q=p:=by simpa using m
  rw [e];exact Int.gcd_dvd_right ..
theorem Ai {g x:Int} (h:g ∣ x) (h0:x≠0) (hs:(x < 0->g < 0)/\(0 < x->0 < g)):0 < x.fdiv g:=by
 obtain⟨y,rfl⟩:=h;have g0:g≠0:=λz=>h0 (by rw [z,Int.zero_mul])
 rw [Int.mul_fdiv_cancel_left y g0];rcases Int.lt_trichotomy (g*y) 0 with c | c | c
 ·have:=hs.1 c;exact Int.pos_of_mul_neg_left (Int.mul_comm g y▸c) (by omega)
 ·exact absurd c h0
 ·have:=hs.2 c;exact Int.pos_of_mul_pos_left (Int.mul_comm g y▸c) (by omega)
def cT:cH:=λds S k=>∃ (a:MR) (ts:Zi) (ep:Nat),ds=[.ref a]/\S a=some (bH (bc ts) ep)/\(ts.map (·.1)).Nodup/\ts.length<=1000/\ts≠[]/\(∀ p∈ts,∃ i j,p.1=[i,j])/\(∀ p∈ts,p.2≠0/\Bt 160000 p.2)/\
 ∀ S' p ep' g,aK S S'->g≠0->(∀ p∈ts,g ∣ p.2)->(∀ d:Int,(∀ p∈ts,d ∣ p.2)->d ∣ g)->(∃ m∈ts,(∀ q∈ts,pZ q.1 m.1=false)/\0 < m.2.fdiv g)->S' p=some (bH (sZ (ts.map λx=>(x.1,x.2.fdiv g))) ep')->k (.ref p) S'
theorem a8:au ["tops","shared","top","told","key"] ["tops"] (ap fq):=dX
theorem mh (Fn:FN K "normal_of_tops" fq f fd) (aY:bj P w K mg base "common_divisor" 1 cx) (eu:mg "max"=none) (hBl:mr mg base) (hTr:P.given.tree=none):
  aT P w K mg base c8 34 f fd ["tops"] (dk K cT):=by
 refine Fn.okJ a8 (λds S k h=>?_) (λcdv A outer s H E hr=>⟨_,(af (ai (i:=1) a8.nd ae) (af (da PassesOwn.never rfl (xl (ah 0)) (ar (i:=2) a8.nd) (aj (ai (i:=1) a8.nd (dq aY hr (aG 1 (aG 2 ac)))))) (af (aE (ax xX (gG hr (ah 0) (bp (BG hr) rfl eu ku (aG 0 ac)) Zf) ae (aA _)) (aj (ai (i:=1) a8.nd (eE eF (ah 1)))) aF) (af (ai (i:=3) a8.nd eW) (af (da PassesOwn.never rfl (gU (ah 0)) (gC (n:=2) rfl (aW (ar (i:=4) a8.nd) (aW (ar (i:=2) a8.nd) eY))) (aj (cD (aq (aa (aw (lJ hr hBl hTr rfl rfl rfl (by decide)) (ah 2) (ah 1)) (aa ae ac))) (dQ hr (ah 3) (ah 4))))) (aj (ao (ah 3)))))))),λds S k h=>?_⟩)
 ·obtain⟨_,_,_,rfl,_⟩:=h
  rfl
 ·obtain⟨a,ts,ep,rfl,ha,nd,hl,ne,two,hz,w⟩:=h;refine⟨_,_,ha,?_⟩;refine aL (λr L S'=>S'=S/\∃ (don am:Zi) (g:Int) (l2:MS D),ts=don++am/\r=am.map (λp=>D.int p.2)/\L=[some (.ref a),some (.int g),l2,none,none]/\Gp don g) (λr L S' z9=>by obtain⟨e,_⟩:=z9; rw [e]; exact ha) ?_ ?_ _ _ _ ⟨rfl,[],ts,0,none,rfl,by show List.map _ (List.map _ ts)=_; rw [Mk]; rfl,rfl,Gp.nil⟩
  ·rintro d r L S1 N1 ⟨rfl,don,am,g,l2,ec,er,rfl,hg⟩ hN;cases am with
   | nil=>cases er
   | cons q am=>
    cases er;exact hN _ _ ⟨rfl,don++[q],am,_,_,by rw [ec]; simp,rfl,rfl,hg.snoc⟩
  ·rintro L S1 ⟨rfl,don,am,g,l2,ec,er,rfl,hg⟩;cases am with
   | cons q am=>cases er
   | nil=>
    rw [L0] at ec;subst ec;have mk:∀ m∈bc ts,∃ x∈ts,m=(x.1,D.int x.2):=λm hm=>by
     obtain⟨x,hx,rfl⟩:=LF.mp hm;exact⟨x,hx,rfl⟩
    have am:∀ g':Int,g'≠0->(∀ p∈ts,g' ∣ p.2)->(∀ d:Int,(∀ p∈ts,d ∣ p.2)->d ∣ g')->(∃ m∈ts,(∀ q∈ts,pZ q.1 m.1=false)/\0 < m.2.fdiv g')->
      (yI (uB 3 EL) (yI (D4 (Dp (cJ 0) cn) (zi 2 (wj (dU 4) (wj (dU 2) Eh))) (Iu (ug (cj (qG D6 (cJ 2) (cJ 1)) (cj (dC (D.int 1)) jX))) (AW (cJ 3) (cJ 4)))) (GG (cJ 3)))) {nx:=λ_ S'=>k D.non S',rt:=k} [some (D.ref a),some (D.int g'),l2,none,none] S1:=by
     intro g' g0 gd gm gs;have gb:Bt 160000 g':=by
      obtain⟨m,hm,_⟩:=gs;exact nO (gd m hm) (hz m hm).1 (hz m hm).2
     refine λp hp e0=>⟨_,_,aI hp ha,?_⟩
     have nap:a≠p:=fo ha hp;refine aL (λr L S'=>∃ (don am:Zi) (e1:Nat) (l2 l3:MS D),ts=don++am/\r=cn (bc am)/\L=[some (.ref a),some (.int g'),l2,some (.ref p),l3]/\aK S1 S'/\S' a=some (bH (bc ts) ep)/\S' p=some (bH (sZ (don.map λx=>(x.1,x.2.fdiv g'))) e1)) (λr L S' z9=>by obtain⟨_,_,_,_,_,_,_,_,_,h,_⟩:=z9; exact h) ?_ ?_ _ _ _ ⟨[],ts,e0,l2,none,rfl,rfl,rfl,aK.new hp,aI hp ha,ak⟩
     ·rintro d r L S2 N1 ⟨don,am,e1,l2,l3,ec,er,rfl,x1,a1,p1⟩ hN;cases am with
      | nil=>cases er
      | cons q am=>
       cases er;have nq:=nC (p:=q) (ec▸nd);have hd:don.length < 1000:=by have:=congrArg List.length ec; rw [LY,LQ] at this; omega
       have nk:q.1∉(don.map λx=>(x.1,x.2.fdiv g')).map (·.1):=by rw [Mk]; exact nq
       refine⟨([cz q.1,.int q.2],none),rfl,rfl,rfl,g0,few,_,_,_,p1,rfl,by rw [cG,LG]; exact lim (by omega),λe2=>hN _ _ ⟨don++[q],am,e2,_,_,by rw [ec]; simp,rfl,rfl,x1.put hp,by rw [bI nap]; exact a1,?_⟩⟩
       refine ak.trans ?_;have z:=fO (f:=λn:Int=>D.tup [.int n,.int 1]) (x:=q.2.fdiv g') nk
       show some (DO.gen (EU.dT (fk _ q.1 (D.tup [.int (q.2.fdiv g'),.int 1])) e2))=_
       rw [z];simp
     ·rintro L S2 ⟨don,am,e1,l2,l3,ec,er,rfl,x1,a1,p1⟩;cases am with
      | cons q am=>cases er
      | nil=>
       rw [L0] at ec;subst ec;exact w S2 p e1 g' x1 g0 gd gm gs p1
    refine⟨_,_,ha,λz=>ne (List.map_eq_nil_iff.mp z),λm hm=>?_,λm hm mx=>?_⟩
    ·obtain⟨x,hx,rfl⟩:=mk m hm;exact two x hx
    ·obtain⟨x,hx,rfl⟩:=mk m hm;have g0:g≠0:=λz=>by
      have:=hg.dv x hx;rw [z] at this;exact(hz x hx).1 (Int.zero_dvd.mp this)
     have mx':∀ q∈ts,pZ q.1 x.1=false:=λq hq=>mx (q.1,.int q.2) (LF.mpr ⟨q,hq,rfl⟩)
     have gn:=hg.nn;refine⟨_,_,x.1,_,ha,rfl,dI nd hx,b_ (λneg=>am (-g) (by omega) (λp hp=>Int.neg_dvd.mpr (hg.dv p hp)) (λd hd=>Int.dvd_neg.mpr (hg.mx d hd)) ⟨x,hx,mx',Ai (Int.neg_dvd.mpr (hg.dv x hx)) (hz x hx).1 ⟨λ_=>by omega,λz=>by omega⟩⟩) (λpos=>am g g0 hg.dv hg.mx ⟨x,hx,mx',Ai (hg.dv x hx) (hz x hx).1 ⟨λz=>absurd z pos,λ_=>by omega⟩⟩)⟩
def uy:cH:=λds S k=>∃ (a:MR) (c:Zr) (ep:Nat) (B0:Int),ds=[.ref a]/\S a=some (bH (fc c) ep)/\(c.map (·.1)).Nodup/\c.length<=1000/\c≠[]/\(∀ p∈c,∃ i j,p.1=[i,j])/\(∀ p∈c,p.2≠0)/\0 < B0/\Bt 60000 B0/\Dn B0 60000 c/\∀ S' p ep' ns,aK S S'->oI c ns->S' p=some (bH (sZ ns) ep')->k (.ref p) S'
theorem yO:au ["curve"] ["curve"] (ap qp):=dX
theorem yz (Fn:FN K "normal" qp f fd) (cy:bj P w K mg base "normal_of_tops" 34 cT) (eD:bj P w K mg base "tops_over" 34 j8) (fR:bj P w K mg base "common_bottom" 35 jQ) (jV:mg "len"=none) (vQ:mg "list"=none):
  aT P w K mg base c8 36 f fd ["curve"] (dk K uy):=by
 refine Fn.okJ yO (λds S k h=>?_) (λcdv A outer s H E hr=>⟨_,(af (aE (ax fe (bp Ft rfl jV tM (aG 0 ac)) ae (aA _)) (aj pT) aF) (aj (ao (dq cy hr (aa (dq eD hr (aG 0 (aa (dq fR hr (aa (zq rfl rfl vQ (ah 0)) ac)) ac))) ac))))),λds S k h=>?_⟩)
 ·obtain⟨_,_,_,_,rfl,_⟩:=h
  rfl
 ·obtain⟨a,c,ep,B1,rfl,ha,nd,hl,ne,two,n0,B1p,bB1,hD,w⟩:=h;have hz:∀ p∈c,p.2≠0/\Sz 60000 p.2:=λp hp=>⟨n0 p hp,hD.sz B1p bB1 (by decide) p hp⟩
  have l0:((fc c).length:Int)≠0:=by rw [cG]; exact λz=>ne (MN.mp (by omega))
  refine⟨_,_,ha,b_ (λz=>absurd z l0) (λ_=>?_)⟩
  refine⟨_,_,ha,λq hq=>?_⟩
  have x1:aK S (put S q (.lst ((iB fr c).map (·.2)))):=aK.new hq;have e1:(iB fr c).map (·.2)=(c.map (·.2)).map fr:=by unfold iB; rw [Mk,Mk]; rfl
  have y1:put S q (.lst ((iB fr c).map (·.2))) q=some (.lst ((c.map (·.2)).map fr)):=by rw [ak,e1]
  generalize put S q (.lst ((iB fr c).map (·.2)))=S1 at x1 y1
  have B0:0 < wA 1 (c.map (·.2)):=xL (by decide)
  have dvd1:wA 1 (c.map (·.2)) ∣ B1:=AZ (Int.one_dvd _) (hD.dv (by omega))
  have dv:=(tP (qs:=c.map (·.2)) (m:=1)).2;refine⟨q,_,B1,rfl,y1,B1p,bB1.mono,hD.dv (by omega),?_⟩
  have bB':Bt 60000 (wA 1 (c.map (·.2))):=nO dvd1 (by omega) bB1
  clear dvd1;generalize wA 1 (c.map (·.2))=B at B0 bB' dv
  have dv':∀ p∈c,(p.2.den:Int) ∣ B:=λp hp=>dv p.2 (LF.mpr ⟨p,hp,rfl⟩)
  have top0:∀ p∈c,gM B p.2≠0:=λp hp z=>by
   have e:=tF (dv' p hp);rw [z] at e;have b0:(B:Rat)≠0:=λy=>by
    have:B=0:=Mo.mp (by rw [y]; rfl)
    omega
   have p0:=(hz p hp).1;have e2:(B:Rat)*p.2=0:=by rw [<- e]; rfl
   rcases LR.mp e2 with y | y
   ·exact b0 y
   ·exact p0 y
  refine⟨a,c,ep,B,rfl,x1 _ _ ha,nd,by omega,λp hp=>(hz p hp).2.mono,bB'.mono,λS2 p2 e2 x2 h2=>?_⟩
  have tk:(c.map λx=>(x.1,gM B x.2)).map (·.1)=c.map (·.1):=by rw [Mk]; rfl
  refine⟨p2,_,e2,rfl,h2,by rw [tk]; exact nd,by rw [LG]; omega,λz=>ne (List.map_eq_nil_iff.mp z),λp hp=>?_,λp hp=>?_,λS3 p3 e3 g x3 g0 gd gm gs h3=>?_⟩
  ·obtain⟨x,hx,rfl⟩:=LF.mp hp;exact two x hx
  ·obtain⟨x,hx,rfl⟩:=LF.mp hp;exact⟨top0 x hx,(((hz x hx).2.num).mul (bB'.le (HM.aN _ _))).mono⟩
  ·have n1:oI c (c.map λp=>(p.1,(gM B p.2).fdiv g)):=Fj (by omega) dv' g0 (λp hp=>gd (p.1,gM B p.2) (LF.mpr ⟨p,hp,rfl⟩)) (λd hd=>gm d λp hp=>by
     obtain⟨x,hx,rfl⟩:=LF.mp hp;exact hd x hx) (by
     obtain⟨m,hm,mx,pos⟩:=gs;obtain⟨x,hx,rfl⟩:=LF.mp hm;exact⟨x,hx,λq hq=>mx (q.1,gM B q.2) (LF.mpr ⟨q,hq,rfl⟩),pos⟩)
   rw [Mk] at h3;exact w S3 p3 e3 _ ((x1.trans x2).trans x3) n1 h3
theorem rD {α:Type} {f:α->D}:∀ {am don:List (List Int×α)},((don++am).map (·.1)).Nodup->aZ (iB f don) (iB f am)=iB f (don++am)
 | [],don,_=>by rw [L0]; rfl
 | p::am,don,nd=>by
  have e:aZ (iB f don) (iB f (p::am))=aZ (fk (iB f don) p.1 (f p.2)) (iB f am):=rfl;rw [e,fO (nC nd),rD (by rw [List.append_assoc]; exact nd),List.append_assoc]
  rfl
theorem dZ {α:Type} {f:α->D} {l:List (List Int×α)} (h:(l.map (·.1)).Nodup):aZ [] (iB f l)=iB f l:=rD (f:=f) (don:=[]) h
abbrev HA (a b r:Rat):Zr:=[([1,0],a),([0,1],b),([0,0],r)]
theorem Eg {w m:Nat} {c:Zr} (hz:∀ p∈c,Sz w p.2) (hl:c.length<=m):∃ B,0 < B/\Bt (1+w*m) B/\Dn B (w+(1+w*m)) c:=by
 have z:=Ac (w:=w) (qs:=c.map (·.2)) (m:=1) (n:=1) (by decide) (by decide) (λq hq=>by
  obtain⟨p,hp,rfl⟩:=LF.mp hq;exact hz p hp)
 have bB:=z.2.mono (show 1+w*(c.map (·.2)).length<=1+w*m by rw [LG]; exact Nat.add_le_add_left (Nat.mul_le_mul_left _ hl) _)
 exact⟨_,z.1,bB,λp hp=>⟨gM (wA 1 (c.map (·.2))) p.2,(hz p hp).num.mul (bB.le (HM.aN _ _)),(tF ((tP (m:=1)).2 _ (List.mem_map_of_mem hp))).symm⟩⟩
theorem Dn.up {B:Int} {T T':Nat} {c:Zr} (h:Dn B T c) (hT:T<=T'):Dn B T' c:=λp hp=>by
 obtain⟨t,bt,e⟩:=h p hp;exact⟨t,bt.mono hT,e⟩
theorem BX {a b r:Rat}:((HA a b r).map (·.1)).Nodup:=by show(([[1,0],[0,1],[0,0]]:List (List Int))).Nodup; decide
theorem sL {l:Zr} {p:List Int×Rat}:p∈nz l↔p∈l/\p.2≠0:=by
 rw [List.mem_filter];simp
theorem Gz {l:Zr}:(nz l).length<=l.length:=List.length_filter_le _ _
theorem JM {a b r:Rat} {P:Rat->Prop} (ha:P a) (hb:P b) (hr:P r):∀ p∈HA a b r,P p.2:=by
 intro p hp;simp only [LJ,LU,or_false] at hp;rcases hp with rfl | rfl | rfl <;> assumption
section
variable {α:Type} {f:α->D}
def gA (z:α) (c:List (List Int×α)) (k:List Int):α:=((c.find? λp=>decide (p.1=k)).map (·.2)).getD z
theorem bN {z:α}:∀ {c:List (List Int×α)} {k:List Int},k∉c.map (·.1)->gA z c k=z
 | [],_,_=>rfl
 | p::l,k,h=>by
  rw [LP,LJ,not_or] at h;have e:gA z (p::l) k=gA z l k:=by simp [gA,LS,Ne.symm h.1]
  rw [e];exact bN h.2
theorem cm {z:α}:∀ {c:List (List Int×α)} {k:List Int} {x:α},(c.map (·.1)).Nodup->(k,x)∈c->gA z c k=x
 | [],_,_,_,h=>nomatch h
 | p::l,k,x,nd,h=>by
  rw [LP,Mn] at nd;rcases LJ.mp h with e | m
  ·subst e;simp [gA]
  ·have ne:p.1≠k:=λz=>nd.1 (LF.mpr ⟨_,m,z.symm⟩)
   have e:gA z (p::l) k=gA z l k:=by simp [gA,LS,ne]
   rw [e];exact cm nd.2 m
theorem oG {z:α} {c:List (List Int×α)} {k:List Int}:(de (iB f c) k).getD (f z)=f (gA z c k):=by
 induction c with
 | nil=>rfl
 | cons p l ih=>
  by_cases h:p.1=k
  ·simp [de,iB,gA,h]
  ·have e1:de (iB f (p::l)) k=de (iB f l) k:=by simp [de,iB,LS,h]
   have e2:gA z (p::l) k=gA z l k:=by simp [gA,LS,h]
   rw [e1,e2,ih]
theorem hJ {z:α} {c:List (List Int×α)} (k:List Int) (nd:(c.map (·.1)).Nodup):k∉c.map (·.1)\/(k,gA z c k)∈c:=by
 by_cases h:k∈c.map (·.1)
 ·obtain⟨p,hp,rfl⟩:=LF.mp h;exact .inr (by rw [cm (x:=p.2) nd hp]; exact hp)
 ·exact .inl h
end
abbrev gR:=gA (0:Rat)
abbrev gI:=gA (0:Int)
theorem Ad {l:Zr} {k:List Int} {x:Rat}:∃ l':Zr,fk (fc l) k (fr x)=fc l'/\((l.map (·.1)).Nodup->(l'.map (·.1)).Nodup)/\l'.length<=l.length+1/\(∀ p∈l',p∈l\/p=(k,x))/\(k,x)∈l'/\∀ p∈l,p.1≠k->p∈l':=by
 by_cases h:k∈l.map (·.1)
 ·refine⟨l.map λp=>if p.1=k then(p.1,x) else p,?_,λnd=>?_,by rw [LG]; omega,λp hp=>?_,?_,λp hp n=>?_⟩
  ·unfold fk;obtain⟨p,hp,e⟩:=LF.mp h;have:(de (fc l) k).isSome=true:=by
    have:(fc l).find? (λp=>decide (p.1=k))≠none:=λz=>by
     have:=List.find?_eq_none.mp z (p.1,fr p.2) (LF.mpr ⟨p,hp,rfl⟩);simp [e] at this
    unfold de;cases hh:(fc l).find? (λp=>decide (p.1=k)) with
    | none=>exact absurd hh this
    | some v=>rfl
   rw [if_pos this];unfold fc iB;rw [Mk,Mk];refine List.map_congr_left λp _=>?_
   show(if p.1=k then(p.1,fr x) else(p.1,fr p.2))=_
   show _=((if p.1=k then(p.1,x) else p).1,fr (if p.1=k then(p.1,x) else p).2)
   split <;> rfl
  ·rw [Mk];have:((λp:List Int×Rat=>p.1) ∘ λp=>if p.1=k then(p.1,x) else p)=λp=>p.1:=by
    funext p
    show(if p.1=k then(p.1,x) else p).1=p.1
    split <;> rfl
   rw [this];exact nd
  ·obtain⟨q,hq,rfl⟩:=LF.mp hp
   by_cases e:q.1=k
   ·rw [if_pos e,e];exact .inr rfl
   ·rw [if_neg e];exact .inl hq
  ·obtain⟨p,hp,e⟩:=LF.mp h;exact LF.mpr ⟨p,hp,by rw [if_pos e,e]⟩
  ·exact LF.mpr ⟨p,hp,by rw [if_neg n]⟩
 ·refine⟨l++[(k,x)],fO h,λnd=>?_,by simp,λp hp=>?_,by simp,λp hp _=>by simp [hp]⟩
  ·rw [List.map_append,List.nodup_append];refine⟨nd,by simp,λa ha b hb=>?_⟩
   have:b=k:=by simpa using hb
   rw [this];exact λz=>h (z▸ha)
  ·rcases List.mem_append.mp hp with m | m
   ·exact .inl m
   ·exact .inr (by simpa using m)
theorem nN {α:Type} [BEq α] [LawfulBEq α]:∀ {l l':List α},l.Nodup->(∀ x∈l,x∈l')->l.length<=l'.length
 | [],_,_,_=>Mw _
 | a::l,l',nd,h=>by
  rw [Mn] at nd;have ma:=h a LL;have z:=nN (l:=l) (l':=l'.erase a) nd.2 λx hx=>(List.mem_erase_of_ne λe=>nd.1 (by rw [<- e]; exact hx)).mpr (h x (LM _ hx))
  rw [List.length_erase_of_mem ma] at z;have:0 < l'.length:=List.length_pos_of_mem ma;rw [LQ];omega
theorem rm {α:Type} {f:α->D} {l:List (List Int×α)} {k:List Int} {x:α}:∃ l':List (List Int×α),fk (iB f l) k (f x)=iB f l'/\((l.map (·.1)).Nodup->(l'.map (·.1)).Nodup)/\l'.length<=l.length+1/\(∀ p∈l',p∈l\/p=(k,x))/\(k,x)∈l'/\∀ p∈l,p.1≠k->p∈l':=by
 by_cases h:k∈l.map (·.1)
 ·refine⟨l.map λp=>if p.1=k then(p.1,x) else p,?_,λnd=>?_,by rw [LG]; omega,λp hp=>?_,?_,λp hp n=>?_⟩
  ·unfold fk;obtain⟨p,hp,e⟩:=LF.mp h;have:(de (iB f l) k).isSome=true:=by
    have:(iB f l).find? (λp=>decide (p.1=k))≠none:=λz=>by
     have:=List.find?_eq_none.mp z (p.1,f p.2) (LF.mpr ⟨p,hp,rfl⟩);simp [e] at this
    unfold de;cases hh:(iB f l).find? (λp=>decide (p.1=k)) with
    | none=>exact absurd hh this
    | some v=>rfl
   rw [if_pos this];unfold iB;rw [Mk,Mk];refine List.map_congr_left λp _=>?_
   show(if p.1=k then(p.1,f x) else(p.1,f p.2))=_
   show _=((if p.1=k then(p.1,x) else p).1,f (if p.1=k then(p.1,x) else p).2)
   split <;> rfl
  ·rw [Mk];have:((λp:List Int×α=>p.1) ∘ λp=>if p.1=k then(p.1,x) else p)=λp=>p.1:=by
    funext p
    show(if p.1=k then(p.1,x) else p).1=p.1
    split <;> rfl
   rw [this];exact nd
  ·obtain⟨q,hq,rfl⟩:=LF.mp hp
   by_cases e:q.1=k
   ·rw [if_pos e,e];exact .inr rfl
   ·rw [if_neg e];exact .inl hq
  ·obtain⟨p,hp,e⟩:=LF.mp h;exact LF.mpr ⟨p,hp,by rw [if_pos e,e]⟩
  ·exact LF.mpr ⟨p,hp,by rw [if_neg n]⟩
 ·refine⟨l++[(k,x)],fO h,λnd=>?_,by simp,λp hp=>?_,by simp,λp hp _=>by simp [hp]⟩
  ·rw [List.map_append,List.nodup_append];refine⟨nd,by simp,λa ha b hb=>?_⟩
   have:b=k:=by simpa using hb
   rw [this];exact λz=>h (z▸ha)
  ·rcases List.mem_append.mp hp with m | m
   ·exact .inl m
   ·exact .inr (by simpa using m)
def vU:List Int->List Int->List Int
 | [i,j],[a,b]=>[i+a,j+b]
 | _,_=>[]
section
variable {α:Type} [Add α] [Mul α] [OfNat α 0]
def t5 (p q:List Int×α) (k:List Int):α:=if vU p.1 q.1=k then p.2*q.2 else 0
def eG (p:List Int×α) (l:List (List Int×α)) (k:List Int) (s:α):α:=l.foldl (λs q=>s+t5 p q k) s
def kT (l l':List (List Int×α)) (k:List Int):α:=l.foldl (λs p=>eG p l' k s) 0
theorem xY {p q:List Int×α} {l:List (List Int×α)} {k:List Int} {s:α}:eG p (l++[q]) k s=eG p l k s+t5 p q k:=by
 unfold eG;rw [List.foldl_append]
 rfl
theorem yW {p:List Int×α} {l l':List (List Int×α)} {k:List Int}:kT (l++[p]) l' k=eG p l' k (kT l l' k):=by
 unfold kT;rw [List.foldl_append]
 rfl
end
structure Ci (b:Int) (c:Zi):Prop where
 nd:(c.map (·.1)).Nodup
 sm:∀ p∈c,∃ i j:Int,p.1=[i,j]/\0<=i/\0<=j/\i<=b/\j<=b
theorem Ci.put {b:Int} {c:Zi} (h:Ci b c) {i j:Int} {x:Int} (i0:0<=i) (j0:0<=j) (i1:i<=b) (j1:j<=b):∃ c',fk (bc c) [i,j] (D.int x)=bc c'/\Ci b c'/\c'.length<=c.length+1/\∀ k,gI c' k=if k=[i,j] then x else gI c k:=by
 obtain⟨c',e,nd,hl,mm,m1,m2⟩:=rm (f:=D.int) (l:=c) (k:=[i,j]) (x:=x);have nd':=nd h.nd;refine⟨c',e,⟨nd',λp hp=>?_⟩,hl,λk=>?_⟩
 ·rcases mm p hp with q | rfl
  ·exact h.sm p q
  ·exact⟨i,j,rfl,i0,j0,i1,j1⟩
 ·by_cases ek:k=[i,j]
  ·rw [if_pos ek,ek];exact cm nd' m1
  ·rw [if_neg ek];rcases hJ (z:=(0:Int)) k h.nd with q | q
   ·rw [show gI c k=0 from bN q]
    refine bN λz=>?_
    obtain⟨p,hp,rfl⟩:=LF.mp z;rcases mm p hp with y | y
    ·exact q (LF.mpr ⟨p,y,rfl⟩)
    ·exact ek (by rw [y])
   ·exact cm nd' (m2 _ q ek)
theorem An {α β:Type} {φ:α->β} {z:α} {k:List Int}:∀ {c:List (List Int×α)},gA (φ z) (c.map λp=>(p.1,φ p.2)) k=φ (gA z c k)
 | []=>rfl
 | p::l=>by
  by_cases h:p.1=k
  ·simp [gA,h]
  ·have e1:gA (φ z) ((p::l).map λp=>(p.1,φ p.2)) k=gA (φ z) (l.map λp=>(p.1,φ p.2)) k:=by simp [gA,LS,h]
   have e2:gA z (p::l) k=gA z l k:=by simp [gA,LS,h]
   rw [e1,e2];exact An
theorem Bg {z:Int} {l:Zi} {q:List Int×Int} (h:q.1∉l.map (·.1)) (k:List Int):gA z (l++[q]) k=if k=q.1 then q.2 else gA z l k:=by
 unfold gA;rw [List.find?_append]
 by_cases e:k=q.1
 ·rw [if_pos e];have:l.find? (λp=>decide (p.1=k))=none:=by
   rw [List.find?_eq_none];intro p hp;have:p.1≠k:=λy=>h (LF.mpr ⟨p,hp,y.trans e⟩)
   simpa using this
  rw [this];simp [e]
 ·rw [if_neg e];have:([q]:Zi).find? (λp=>decide (p.1=k))=none:=by simp [Ne.symm e]
  rw [this];simp
theorem yE:∀ i∈List.range 15,∀ j∈List.range 15,∀ a∈List.range 15,∀ b∈List.range 15,jU [(i:Int),(j:Int)]=jU [(a:Int),(b:Int)]->i=a/\j=b:=by decide +kernel
theorem Ci.hash {c:Zi} (h:Ci 14 c):((bc c).map λp=>jU p.1).Nodup:=by
 show(List.map (λp=>jU p.1) (c.map λp=>(p.1,D.int p.2))).Nodup
 rw [Mk];have nd:=h.nd;have sm:=h.sm;clear h
 induction c with
 | nil=>exact List.nodup_nil
 | cons p l ih=>
  rw [LP,Mn] at nd ⊢;refine⟨λz=>nd.1 ?_,ih nd.2 λq hq=>sm q (LM _ hq)⟩
  obtain⟨q,hq,e⟩:=LF.mp z;obtain⟨i,j,e1,i0,j0,i1,j1⟩:=sm p LL;obtain⟨i',j',e2,i0',j0',i1',j1'⟩:=sm q (LM _ hq);have e:jU q.1=jU p.1:=e;rw [e1,e2] at e;have r:∀ z:Int,0<=z->z<=14->∃ t∈List.range 15,z=(t:Int):=λz _ _=>⟨z.toNat,MB.mpr (by omega),by omega⟩
  obtain⟨x1,y1,rfl⟩:=r i i0 i1;obtain⟨x2,y2,rfl⟩:=r j j0 j1;obtain⟨x3,y3,rfl⟩:=r i' i0' i1';obtain⟨x4,y4,rfl⟩:=r j' j0' j1';obtain⟨a,b⟩:=yE x3 y3 x4 y4 x1 y1 x2 y2 e;subst a b;exact LF.mpr ⟨q,hq,by rw [e1,e2]⟩
def eO:cH:=λds S k=>∃ (a b:MR) (t t':Zi) (e e':Nat) (u u':Int),ds=[.ref a,.ref b]/\S a=some (bH (bc t) e)/\S b=some (bH (bc t') e')/\Ci u t/\Ci u' t'/\u<=14/\u'<=14/\t.length<=250/\t'.length<=250/\(∀ p∈t,Bt 600000 p.2)/\(∀ p∈t',Bt 600000 p.2)/\∀ S' p ep g,aK S S'->S p=none->Ci (u+u') g->g.length<=62500->(∀ k,gI g k=kT t t' k)->S' p=some (bH (bc g) ep)->k (.ref p) S'
theorem bo:au ["one","other","sums","mine","top","theirs","other_top","key"] ["one","other"] (ap eJ):=dX
theorem lq (Fn:FN K "product_of_tops" eJ f fd):
  aT P w K mg base c8 1 f fd ["one","other"] (dk K eO):=by
 refine Fn.okJ bo (λds S k h=>?_) (λcdv A outer s H E hr=>⟨_,(af (ai (i:=2) bo.nd eW) (af (da PassesOwn.never rfl (gU (ah 0)) (gC (n:=2) rfl (aW (ar (i:=3) bo.nd) (aW (ar (i:=4) bo.nd) eY))) (aj (da PassesOwn.never rfl (gU (ah 1)) (gC (n:=2) rfl (aW (ar (i:=5) bo.nd) (aW (ar (i:=6) bo.nd) eY))) (af (ai (i:=7) bo.nd (aq (aa (aw cS (aJ 3) (aJ 5)) (aa (aw cS (aJ 3) (aJ 5)) ac)))) (aj (cD (aw cS (oQ hr (ah 2) (ah 7) ae) (aw bK (ah 4) (ah 6))) (dQ hr (ah 2) (ah 7)))))))) (aj (ao (ah 2))))),λds S k h=>?_⟩)
 ·obtain⟨_,_,_,_,_,_,_,_,rfl,_⟩:=h
  rfl
 ·obtain⟨a,b,t,t',e,e',u,u',rfl,ha,hb,ht,ht',hu,hu',hl,hl',bt,bt',w⟩:=h;refine λp hp e0=>⟨_,_,aI hp ha,?_⟩
  have nap:a≠p:=fo ha hp;have nbp:b≠p:=fo hb hp;refine aL (λr L S'=>∃ (don am g:Zi) (e1:Nat) (l3 l4 l5 l6 l7:MS D),t=don++am/\r=cn (bc am)/\L=[some (.ref a),some (.ref b),some (.ref p),l3,l4,l5,l6,l7]/\aK S S'/\S' a=some (bH (bc t) e)/\S' b=some (bH (bc t') e')/\S' p=some (bH (bc g) e1)/\Ci (u+u') g/\g.length<=250*don.length/\∀ k,gI g k=kT don t' k) (λ_ _ _ z=>by obtain⟨_,_,_,_,_,_,_,_,_,_,_,_,_,h,_⟩:=z;exact h) ?_ ?_ _ _ _ ⟨[],t,[],e0,none,none,none,none,none,rfl,rfl,rfl,aK.new hp,aI hp ha,aI hp hb,ak,⟨List.nodup_nil,λp h=>(nomatch h)⟩,by decide,λk=>rfl⟩
  ·rintro d r L S1 N1 ⟨don,am,g,e1,l3,l4,l5,l6,l7,ec,er,rfl,x1,a1,b1,p1,hg,gl,gf⟩ hN;cases am with
   | nil=>cases er
   | cons q am=>
    cases er;have mq:q∈t:=by rw [ec]; simp
    have hd:don.length < 250:=by have:=congrArg List.length ec; rw [LY,LQ] at this; omega
    obtain⟨i,j,ek,i0,j0,i1,j1⟩:=ht.sm q mq;refine⟨([cz q.1,.int q.2],none),rfl,rfl,rfl,_,_,b1,?_⟩;refine aL (λr L S'=>∃ (don2 rest2 g:Zi) (e1:Nat) (l5 l6 l7:MS D),t'=don2++rest2/\r=cn (bc rest2)/\L=[some (.ref a),some (.ref b),some (.ref p),some (cz q.1),some (.int q.2),l5,l6,l7]/\aK S S'/\S' a=some (bH (bc t) e)/\S' b=some (bH (bc t') e')/\S' p=some (bH (bc g) e1)/\Ci (u+u') g/\g.length<=250*don.length+don2.length/\∀ k,gI g k=eG q don2 k (kT don t' k)) (λ_ _ _ z=>by obtain⟨_,_,_,_,_,_,_,_,_,_,_,_,h,_⟩:=z;exact h) ?_ ?_ _ _ _ ⟨[],t',g,e1,_,_,_,rfl,rfl,rfl,x1,a1,b1,p1,hg,by simpa using gl,gf⟩
    ·rintro d r L S2 N2 ⟨don2,rest2,g2,e2,m5,m6,m7,ec2,er2,rfl,x2,a2,b2,p2,hg2,gl2,gf2⟩ hN2;cases rest2 with
     | nil=>cases er2
     | cons q2 rest2=>
      cases er2;have mq2:q2∈t':=by rw [ec2]; simp
      have hd2:don2.length < 250:=by have:=congrArg List.length ec2; rw [LY,LQ] at this; omega
      obtain⟨i',j',ek2,i0',j0',i1',j1'⟩:=ht'.sm q2 mq2;have G:(de (bc g2) [i+i',j+j']).getD (D.int 0)=D.int (gI g2 [i+i',j+j']):=oG (f:=D.int) (z:=0);obtain⟨g3,eg3,hg3,gl3,gf3⟩:=hg2.put (i:=i+i') (j:=j+j') (x:=gI g2 [i+i',j+j']+q.2*q2.2) (by omega) (by omega) (by omega) (by omega)
      refine⟨([cz q2.1,.int q2.2],none),rfl,rfl,rfl,?_⟩;have fin:∀ e4:Nat,N2 [some (.ref a),some (.ref b),some (.ref p),some (cz q.1),some (.int q.2),some (cz q2.1),some (.int q2.2),some (.tup [.int (i+i'),.int (j+j')])] (put S2 p (bH (fk (bc g2) [i+i',j+j'] (.int (gI g2 [i+i',j+j']+q.2*q2.2))) e4)):=λe4=>hN2 _ _ ⟨don2++[q2],rest2,g3,e4,_,_,_,by rw [ec2]; simp,rfl,rfl,x2.put hp,by rw [bI nap]; exact a2,by rw [bI nbp]; exact b2,by rw [ak,eg3],hg3,by rw [LY]; simp; omega,λk=>by
       rw [gf3 k,xY,<- gf2 k];unfold t5;rw [ek,ek2]
       show _=gI g2 k+(if [i+i',j+j']=k then q.2*q2.2 else 0)
       by_cases e:k=[i+i',j+j']
       ·rw [if_pos e,if_pos e.symm,e]
       ·rw [if_neg e,if_neg (Ne.symm e),Int.add_zero]⟩
      rw [ek,ek2] at fin ⊢;refine⟨few,⟨_,_,p2⟩,_,_,[i+i',j+j'],p2,rfl,iF (bt q mq) (bt' q2 mq2),?_⟩;rw [G];exact⟨_,_,[i+i',j+j'],p2,rfl,by rw [cG]; exact lim (by omega),fin⟩
    ·rintro L S2 ⟨don2,rest2,g2,e2,m5,m6,m7,ec2,er2,rfl,x2,a2,b2,p2,hg2,gl2,gf2⟩;cases rest2 with
     | cons q2 rest2=>cases er2
     | nil=>
      rw [L0] at ec2;subst ec2;exact hN _ _ ⟨don++[q],am,g2,e2,_,_,_,_,_,by rw [ec]; simp,rfl,rfl,x2,a2,b2,p2,hg2,by rw [LY]; simp; omega,λk=>by rw [yW]; exact gf2 k⟩
  ·rintro L S1 ⟨don,am,g,e1,l3,l4,l5,l6,l7,ec,er,rfl,x1,a1,b1,p1,hg,gl,gf⟩;cases am with
   | cons q am=>cases er
   | nil=>
    rw [L0] at ec;subst ec;exact w S1 p e1 g x1 hp hg (by omega) gf p1
theorem Ci.up {u v:Int} {t:Zi} (h:Ci u t) (uv:u<=v):Ci v t:=⟨h.nd,λp hp=>by
 obtain⟨i,j,e,a,b,c,d⟩:=h.sm p hp;exact⟨i,j,e,a,b,by omega,by omega⟩⟩
def iG:cH:=λds S k=>∃ (a b:MR) (t t':Zi) (e e':Nat) (u:Int),ds=[.ref a,.ref b]/\S a=some (bH (bc t) e)/\S b=some (bH (bc t') e')/\Ci u t/\Ci u t'/\u<=14/\t.length+t'.length<=1000/\∀ S' p ep g,aK S S'->S p=none->Ci u g->g.length<=t.length+t'.length->(∀ k,gI g k=gI t k+gI t' k)->S' p=some (bH (bc g) ep)->k (.ref p) S'
theorem eI:au ["one","other","told","key","top"] ["one","other"] (ap iJ):=dX
theorem po (Fn:FN K "sum_of_tops" iJ f fd) (fX:mg "dict"=none):
  aT P w K mg base c8 1 f fd ["one","other"] (dk K iG):=by
 refine Fn.okJ eI (λds S k h=>?_) (λcdv A outer s H E hr=>⟨_,(af (ai (i:=2) eI.nd (du (vV hr) rfl fX oJ (aG 0 ac))) (af (da PassesOwn.never rfl (gU (ah 1)) (gC (n:=2) rfl (aW (ar (i:=3) eI.nd) (aW (ar (i:=4) eI.nd) eY))) (aj (cD (aw cS (oQ hr (ah 2) (ah 3) ae) (ah 4)) (dQ hr (ah 2) (ah 3))))) (aj (ao (ah 2))))),λds S k h=>?_⟩)
 ·obtain⟨_,_,_,_,_,_,_,rfl,_⟩:=h
  rfl
 ·obtain⟨a,b,t,t',e,e',u,rfl,ha,hb,ht,ht',hu,hl,w⟩:=h;refine .inl ⟨_,_,ha,(ht.up hu).hash,λp hp e1=>⟨_,_,aI hp hb,?_⟩⟩
  have nbp:b≠p:=fo hb hp;refine aL (λr L S'=>∃ (don am f:Zi) (e3:Nat) (l3 l4:MS D),t'=don++am/\r=cn (bc am)/\L=[some (.ref a),some (.ref b),some (.ref p),l3,l4]/\aK S S'/\S' b=some (bH (bc t') e')/\S' p=some (bH (bc f) e3)/\Ci u f/\f.length<=t.length+don.length/\∀ k,gI f k=gI t k+gI don k) (λ_ _ _ z=>by obtain⟨_,_,_,_,_,_,_,_,_,_,h,_⟩:=z;exact h) ?_ ?_ _ _ _ ⟨[],t',t,e1,none,none,rfl,rfl,rfl,aK.new hp,aI hp hb,ak,ht,LD _,λk=>(Int.add_zero _).symm⟩
  ·rintro d r L S1 N1 ⟨don,am,f,e3,l3,l4,ec,er,rfl,x1,b1,p1,hf,fl,hg⟩ hN;cases am with
   | nil=>cases er
   | cons q am=>
    cases er;have mq:q∈t':=by rw [ec]; simp
    have nq:=nC (p:=q) (ec▸ht'.nd);have hd:t.length+don.length < 2500:=by have:=congrArg List.length ec; rw [LY,LQ] at this; omega
    obtain⟨i,j,ek,i0,j0,i1,j1⟩:=ht'.sm q mq;obtain⟨f',ef,hf',fl',gf⟩:=hf.put (i:=i) (j:=j) (x:=gI f q.1+q.2) i0 j0 i1 j1;rw [<- ek] at ef gf
    have G:(de (bc f) q.1).getD (D.int 0)=D.int (gI f q.1):=oG (f:=D.int) (z:=0);refine⟨([cz q.1,.int q.2],none),rfl,rfl,rfl,⟨_,_,p1⟩,_,_,q.1,p1,rfl,?_⟩;rw [G];refine⟨_,_,q.1,p1,rfl,by rw [cG]; exact lim (by omega),λe4=>hN _ _ ⟨don++[q],am,f',e4,_,_,by rw [ec]; simp,rfl,rfl,x1.put hp,by rw [bI nbp]; exact b1,by rw [ak,ef],hf',by rw [LY]; simp; omega,λk=>?_⟩⟩
    rw [gf k,show gI (don++[q]) k=_ from Bg nq k]
    by_cases e:k=q.1
    ·rw [if_pos e,if_pos e,hg,e,show gI don q.1=0 from bN nq,Int.add_zero]
    ·rw [if_neg e,if_neg e];exact hg k
  ·rintro L S1 ⟨don,am,f,e3,l3,l4,ec,er,rfl,x1,b1,p1,hf,fl,hg⟩;cases am with
   | cons q am=>cases er
   | nil=>
    rw [L0] at ec;subst ec;exact w S1 p e3 f x1 hp hf fl hg p1
def dg:List Int->Int
 | [i,j]=>i+j
 | _=>0
def lC (c:Zi) (m:Int):Prop:=(∃ p∈c,dg p.1=m)/\∀ p∈c,dg p.1<=m
theorem lC.uniq {c:Zi} {m n:Int} (h:lC c m) (h':lC c n):m=n:=by
 obtain⟨⟨p,hp,e⟩,h2⟩:=h;obtain⟨⟨p',hp',e'⟩,h2'⟩:=h';have:=h2 p' hp';have:=h2' p hp;omega
def zT (c:Zi):Prop:=∀ p∈c,∃ i j:Int,p.1=[i,j]/\0<=i/\0<=j/\i<=20/\j<=20
theorem ve {S:DH} {p f:MR} {c:Zi} {e1:Nat} {k:DK} (hp:S p=none) (hf:S f=some (bH (bc c) e1)) (sm:zT c) (kk:∀ S2,aK S S2->S2 p=some (.lst ((c.map λx=>dg x.1).map D.int))->k (.ref p) S2):
  ∀ (am don:Zi) (l0:MS D) (S1:DH),c=don++am->aK S S1->S1 p=some (.lst ((don.map λx=>dg x.1).map D.int))->c.length<=1000->
   aX (λS=>S f=some (bH (bc c) e1)) p (dU 0) (eQ (qG Gh (qG qy (cJ 0) (dC (D.int 0))) (qG qy (cJ 0) (dC (D.int 1))))) k (am.map λx=>cz x.1) ((don.map λx=>dg x.1).map D.int) [l0] S1
 | [],don,l0,S1,ec,x1,h1,_=>by
  rw [L0] at ec;subst ec;exact⟨x1 _ _ hf,kk S1 x1 h1⟩
 | q::am,don,l0,S1,ec,x1,h1,hl=>by
  have f1:=x1 _ _ hf;have hd:don.length < 1000:=by have:=congrArg List.length ec; rw [LY,LQ] at this; omega
  have ec':c=(don++[q])++am:=by rw [ec]; simp
  obtain⟨i,j,e,_⟩:=sm q (by rw [ec]; simp)
  have ea:(don.map λx=>dg x.1).map D.int++[D.int (i+j)]=((don++[q]).map λx=>dg x.1).map D.int:=by simp [dg,e]
  rw [LP,e];refine⟨f1,h1,by rw [LG,LG]; exact lim (by omega),?_⟩
  show aX _ _ _ _ _ _ ((don.map λx=>dg x.1).map D.int++[D.int (i+j)]) _ (put S1 p (.lst ((don.map λx=>dg x.1).map D.int++[D.int (i+j)])))
  rw [ea];exact ve hp hf sm kk am (don++[q]) _ _ ec' (x1.put hp) ak hl
theorem Ct {c:Zi} {m:Int} (h1:m∈c.map λx=>dg x.1) (h2:∀ x∈c.map λx=>dg x.1,x<=m):lC c m:=by
 obtain⟨p,hp,e⟩:=LF.mp h1;exact⟨⟨p,hp,e⟩,λq hq=>h2 _ (LF.mpr ⟨q,hq,rfl⟩)⟩
theorem ux {c:Zr}:sB oN.k (fc c)=c.map λx=>cz x.1:=by show List.map _ (List.map _ c)=_; rw [Mk]; rfl
theorem ER {c:Zi}:sB oN.k (bc c)=c.map λx=>cz x.1:=by show List.map _ (List.map _ c)=_; rw [Mk]; rfl
def gF:cH:=λds S k=>∃ (a:MR) (c:Zi) (ep:Nat),ds=[.ref a]/\S a=some (bH (bc c) ep)/\c.length<=1000/\zT c/\(c=[]->∀ S',aK S S'->k .non S')/\∀ S' m,aK S S'->lC c m->k (.int m) S'
theorem qY:au ["curve"] ["curve"] (ap jD):=dX
theorem qS (Fn:FN K "degree_of" jD f fd) (eu:mg "max"=none):
  aT P w K mg base c8 1 f fd ["curve"] (dk K gF):=by
 refine Fn.okJ qY (λds S k h=>?_) (λcdv A outer s H E hr=>⟨_,(aj (ao (DQ rfl eu ku (aa (i7 rfl (cB (N:=["key"]) (cap:=[none]) rfl rfl rfl rfl trivial rfl rfl trivial) (fJ (ah 0)) (λ_ _ _ _=>(ar (i:=0) (show List.Nodup (["key"]:List Str) from by decide +kernel))) (λ_ _ _ _=>(aw cS (aJ 0) (aJ 0)))) ac) fu))),λds S k h=>?_⟩)
 ·obtain⟨_,_,_,rfl,_⟩:=h
  rfl
 ·obtain⟨a,c,ep,rfl,ha,hl,sm,w0,w⟩:=h;refine⟨_,_,ha,λp hp=>?_⟩
  rw [ER];refine ve (S:=S) hp ha sm (λS2 x2 h2=>⟨_,h2,λe=>w0 (List.map_eq_nil_iff.mp e) S2 x2,λm h1 h2=>w S2 m x2 (Ct h1 h2)⟩) c [] none _ rfl (aK.new hp) ak hl
abbrev qJ (l:Zi):Zi:=l.filter λp=>decide (p.2≠0)
theorem Dq {l:Zi} {k:List Int} (h:k∈(qJ l).map (·.1)):k∈l.map (·.1):=by
 obtain⟨p,hp,e⟩:=LF.mp h;exact LF.mpr ⟨p,(List.mem_filter.mp hp).1,e⟩
def db:cH:=λds S k=>∃ (a:MR) (c:Zi) (ep:Nat),ds=[.ref a]/\S a=some (bH (bc c) ep)/\(c.map (·.1)).Nodup/\c.length<=1000/\∀ S' p ep',aK S S'->S p=none->S' p=some (bH (bc (qJ c)) ep')->k (.ref p) S'
theorem ck:au ["tops","told","key","top"] ["tops"] (ap dc):=dX
theorem jm (Fn:FN K "without_nought_tops" dc f fd):
  aT P w K mg base c8 1 f fd ["tops"] (dk K db):=by
 refine Fn.okJ ck (λds S k h=>?_) (λcdv A outer s H E hr=>⟨_,(af (ai (i:=1) ck.nd eW) (af (da PassesOwn.never rfl (gU (ah 0)) (gC (n:=2) rfl (aW (ar (i:=2) ck.nd) (aW (ar (i:=3) ck.nd) eY))) (aj (aE (ax uJ (ah 3) ae (aA _)) (aj (cD (ah 3) (dQ hr (ah 1) (ah 2)))) aF))) (aj (ao (ah 1))))),λds S k h=>?_⟩)
 ·obtain⟨_,_,_,rfl,_⟩:=h
  rfl
 ·obtain⟨a,c,ep,rfl,ha,nd,hl,w⟩:=h;refine λp hp e0=>⟨_,_,aI hp ha,?_⟩
  refine aL (λr L S'=>∃ (don am:Zi) (e1:Nat) (l2 l3:MS D),c=don++am/\r=cn (bc am)/\L=[some (.ref a),some (.ref p),l2,l3]/\aK S S'/\S' a=some (bH (bc c) ep)/\S' p=some (bH (bc (qJ don)) e1)) (λ_ _ _ z=>by obtain⟨_,_,_,_,_,_,_,_,_,h,_⟩:=z;exact h) ?_ ?_ _ _ _ ⟨[],c,e0,none,none,rfl,rfl,rfl,aK.new hp,aI hp ha,ak⟩
  ·rintro d r L S1 N1 ⟨don,am,e1,l2,l3,ec,er,rfl,x1,a1,p1⟩ hN;cases am with
   | nil=>cases er
   | cons q am=>
    cases er;have nq:=nC (p:=q) (ec▸nd);have lz:(qJ don).length<=don.length:=List.length_filter_le _ _;have hd:don.length < 1000:=by have:=congrArg List.length ec; rw [LY,LQ] at this; omega
    have nap:a≠p:=fo ha hp;refine⟨([cz q.1,.int q.2],none),rfl,rfl,rfl,pY (λh0=>⟨_,_,_,p1,rfl,by rw [cG]; exact lim (by omega),λe2=>hN _ _ ⟨don++[q],am,e2,_,_,by rw [ec]; simp,rfl,rfl,x1.put hp,by rw [bI nap]; exact a1,?_⟩⟩) (λh0=>hN _ _ ⟨don++[q],am,e1,_,_,by rw [ec]; simp,rfl,rfl,x1,a1,?_⟩)⟩
    ·have q0:q.2≠0:=h0;rw [ak,fO (f:=D.int) (λz=>nq (Dq z))]
     simp [qJ,List.filter_append,q0]
    ·have q0:q.2=0:=h0;rw [p1];simp [qJ,List.filter_append,q0]
  ·rintro L S1 ⟨don,am,e1,l2,l3,ec,er,rfl,x1,a1,p1⟩;cases am with
   | cons q am=>cases er
   | nil=>
    rw [L0] at ec;subst ec;exact w S1 p e1 x1 hp p1
theorem gP {n:Nat} {M:Int} (h:Bt n M):∀ t,Bt (t*n+1) (M ^ t)
 | 0=>by rw [Int.pow_zero,Nat.zero_mul]; decide
 | t+1=>by rw [Int.pow_succ]; exact((gP h t).mul h).mono (by rw [Nat.add_mul]; omega)
def ia:cH:=λds S k=>∃ (n:Int) (m:Nat),ds=[.int n,.int m]/\m<=24/\Bt 4000 n/\∀ S' p,aK S S'->S p=none->S' p=some (.lst ((List.range (m+1)).map λi=>.int (n ^ i)))->k (.ref p) S'
theorem gh:au ["number","most","told","turn"] ["number","most"] (ap hV):=dX
theorem om (Fn:FN K "powers_up_to" hV f fd) (aB:mg "range"=none):
  aT P w K mg base c8 1 f fd ["number","most"] (dk K ia):=by
 refine Fn.okJ gh (λds S k h=>?_) (λcdv A outer s H E hr=>⟨_,(af (ai (i:=2) gh.nd (f_ (aa ae ac))) (af (cV PassesOwn.never rfl rfl aB (aG 1 ac) (ar (i:=3) gh.nd) (aj (kQ (sn (ah 2) (aw bK (bq bG (ah 2) (ah 3) Zf) (ah 0)))))) (aj (ao (ah 2))))),λds S k h=>?_⟩)
 ·obtain⟨_,_,rfl,_⟩:=h
  rfl
 ·obtain⟨n,m,rfl,hm,bn,w⟩:=h;refine⟨few,λp hp=>⟨⟨by omega,by omega⟩,?_⟩⟩
  refine aL (λr L S'=>aK S S'/\∃ (i:Nat) (l3:MS D),i<=m/\L=[some (.int n),some (.int m),some (.ref p),l3]/\r=(List.range' i (m - i)).map (λk:Nat=>D.int (k:Int))/\S' p=some (.lst ((List.range (i+1)).map λj=>.int (n ^ j)))) (λ_ _ _ _=>trivial) ?_ ?_ _ _ _ ⟨aK.new hp,0,none,Mw _,rfl,by rw [List.range_eq_range']; rfl,by rw [ak]; show _=some (DO.lst [D.int (n ^ 0)]); rw [Int.pow_zero]⟩
  ·rintro d r L S1 N1 ⟨x1,i,l3,hi,rfl,er,h1⟩ hN;cases hmi:m - i with
   | zero=>rw [hmi] at er; cases er
   | succ t=>
    rw [hmi,List.range'_succ,LP] at er;cases er;have hat:L2.atI ((List.range (i+1)).map λj=>D.int (n ^ j)) (i:Int)=some (.int (n ^ i)):=L2.jn (by rw [L8,List.getElem?_range (by omega)]; rfl)
    refine⟨⟨_,h1⟩,_,_,h1,hat,iF (gP bn i) bn (by omega),_,h1,by rw [LG,List.length_range]; exact lim (by omega),hN _ _ ⟨x1.put hp,i+1,_,by omega,rfl,by rw [show m - (i+1)=t by omega],?_⟩⟩
    rw [ak,List.range_succ (n:=i+1),List.map_append,LP,List.map_nil,Int.pow_succ]
  ·rintro L S1 ⟨x1,i,l3,hi,rfl,er,h1⟩;cases hmi:m - i with
   | succ t=>rw [hmi,List.range'_succ] at er; cases er
   | zero=>
    have:i=m:=by omega
    subst this;exact w S1 p x1 hp h1
def pv:List Int->Int->Int
 | [],_=>0
 | a::l,X=>a+X*pv l X
theorem lX:∀ (l:List Int) (N:Int),(∀ X:Int,N<=X->pv l X=0)->∀ a∈l,a=0
 | [],_,_,a,h=>nomatch h
 | c::l,N,h,a,ha=>by
  have c0:c=0:=by
   have hX:=h (max N (c.natAbs+1)) (by omega)
   have e:c=(max N ((c.natAbs:Int)+1))*(-(pv l (max N ((c.natAbs:Int)+1)))):=by
    unfold pv at hX;rw [Int.mul_neg];omega
   have hd:(max N ((c.natAbs:Int)+1)) ∣ c:=⟨_,e⟩;have hd2:=Mu.mpr hd;rcases Nat.eq_zero_or_pos c.natAbs with z | z
   ·omega
   ·have:=Nat.le_of_dvd z hd2;omega
  have hl:∀ X:Int,max N 1<=X->pv l X=0:=λX hx=>by
   have:=h X (by omega)
   unfold pv at this;rw [c0,Int.zero_add] at this;rcases Int.mul_eq_zero.mp this with z | z
   ·omega
   ·exact z
  rcases LJ.mp ha with z | z
  ·rw [z]; exact c0
  ·exact lX l _ hl a z
def gv (n:Nat) (f:Nat->Nat->Int) (X Y:Int):Int:=pv ((List.range n).map λi=>pv ((List.range n).map λj=>f i j) Y) X
theorem xG {n:Nat} {f:Nat->Nat->Int} (h:∀ X Y,1<=X->gv n f X Y=0) {i j:Nat} (hi:i < n) (hj:j < n):f i j=0:=by
 have h1:∀ Y,pv ((List.range n).map λj=>f i j) Y=0:=λY=>lX _ 1 (λX hX=>h X Y hX) _ (LF.mpr ⟨i,MB.mpr hi,rfl⟩)
 exact lX _ 0 (λY _=>h1 Y) _ (LF.mpr ⟨j,MB.mpr hj,rfl⟩)
theorem wL {α:Type} {f g:α->Int} {X:Int}:∀ {l:List α},pv (l.map λi=>f i+g i) X=pv (l.map f) X+pv (l.map g) X
 | []=>rfl
 | a::l=>by
  show f a+g a+X*pv _ X=(f a+X*pv _ X)+(g a+X*pv _ X)
  rw [wL,Int.mul_add];omega
theorem nj {n:Nat} {f g:Nat->Nat->Int} {X Y:Int}:gv n (λi j=>f i j+g i j) X Y=gv n f X Y+gv n g X Y:=by
 unfold gv;rw [<- wL]
 congr 2
 funext i
 exact wL
theorem zZ {n:Nat} {i:Nat} {c X:Int}:∀ {k:Nat},k<=i->i < k+n->pv ((List.range' k n).map λt=>if t=i then c else 0) X=c*X ^ (i - k):=by
 induction n with
 | zero=>intro k h1 h2; omega
 | succ n ih=>
  intro k h1 h2;rw [List.range'_succ,LP]
  show(if k=i then c else 0)+X*pv _ X=_
  by_cases e:k=i
  ·subst e;rw [if_pos rfl,Nat.sub_self,Int.pow_zero,Int.mul_one];have:∀ {m k':Nat},k < k'->pv ((List.range' k' m).map λt=>if t=k then c else 0) X=0:=by
    intro m
    induction m with
    | zero=>intro k' _; rfl
    | succ m ih2=>
     intro k' hk;rw [List.range'_succ,LP]
     show(if k'=k then c else 0)+X*pv _ X=0
     rw [if_neg (by omega),ih2 (by omega)]
     omega
   rw [this (by omega)]
   omega
  ·rw [if_neg e,ih (by omega) (by omega),show i - k=(i - (k+1))+1 by omega,Int.pow_succ,Int.zero_add]
   rw [<- Int.mul_assoc,Int.mul_comm X c,Int.mul_assoc,Int.mul_comm X]
theorem rZ {n a b:Nat} {c X Y:Int} (ha:a < n) (hb:b < n):gv n (λi j=>if i=a/\j=b then c else 0) X Y=c*(X ^ a*Y ^ b):=by
 unfold gv;have e:(λi=>pv ((List.range n).map λj=>if i=a/\j=b then c else 0) Y)=λi=>if i=a then c*Y ^ b else 0:=by
  funext i
  by_cases h:i=a
  ·rw [if_pos h];have:=zZ (n:=n) (i:=b) (c:=c) (X:=Y) (k:=0) (Mw _) (by omega)
   rw [<- List.range_eq_range',Nat.sub_zero] at this;rw [<- this]
   congr 2
   funext j
   by_cases hj:j=b <;> simp [h,hj]
  ·rw [if_neg h];have:(λj=>if i=a/\j=b then c else(0:Int))=λ_=>0:=by funext j; simp [h]
   rw [this];clear this
   induction (List.range n) with
   | nil=>rfl
   | cons x l ih=>show 0+Y*pv _ Y=0; rw [ih]; omega
 rw [e];have:=zZ (n:=n) (i:=a) (c:=c*Y ^ b) (X:=X) (k:=0) (Mw _) (by omega)
 rw [<- List.range_eq_range',Nat.sub_zero] at this;rw [this,Int.mul_assoc,Int.mul_comm (Y ^ b)]
def mn (k:List Int) (X Y:Int):Int:=match k with
 | [i,j]=>X ^ i.toNat*Y ^ j.toNat
 | _=>0
def vl (t:Zi) (X Y:Int):Int:=t.foldr (λp s=>p.2*mn p.1 X Y+s) 0
theorem oH {q:List Int×Int} {t:Zi} {k:List Int} (h:q.1∉t.map (·.1)):gI (q::t) k=(if q.1=k then q.2 else 0)+gI t k:=by
 by_cases e:q.1=k
 ·subst e;rw [if_pos rfl,show gI t q.1=0 from bN h,Int.add_zero]
  show((List.find? _ (q::t)).map _).getD 0=q.2
  rw [LS,decide_eq_true rfl]
  rfl
 ·rw [if_neg e,Int.zero_add]
  show((List.find? _ (q::t)).map _).getD 0=_
  rw [LS,Mv e]
  rfl
theorem ke {n:Nat} {b:Int} {X Y:Int} (hb:b < n):∀ {t:Zi},Ci b t->vl t X Y=gv n (λi j=>gI t [(i:Int),(j:Int)]) X Y
 | [],_=>by
  have:=rZ (n:=n+1) (a:=0) (b:=0) (c:=0) (X:=X) (Y:=Y) (by omega) (by omega)
  show 0=gv n (λ_ _=>0) X Y
  unfold gv;have z:∀ {l:List Nat} {Z:Int},pv (l.map λ_=>0) Z=0:=λ{l Z}=>by
   induction l with
   | nil=>rfl
   | cons x l ih=>show 0+Z*pv _ Z=0; rw [ih]; omega
  rw [show (λi:Nat=>pv ((List.range n).map λ_:Nat=>(0:Int)) Y)=λ_=>0 from funext λ_=>z,z]
 | q::t,h=>by
  have nd:=Mn.mp (show (q.1::t.map (·.1)).Nodup from h.nd)
  have ht:Ci b t:=⟨nd.2,λp hp=>h.sm p (LM _ hp)⟩
  obtain⟨i,j,e,i0,j0,i1,j1⟩:=h.sm q LL;rw [show (λa c:Nat=>gI (q::t) [(a:Int),(c:Int)])=fun(a c:Nat)=>(if a=i.toNat/\c=j.toNat then q.2 else 0)+gI t [(a:Int),(c:Int)] from funext λa=>funext λc=>by
   rw [oH nd.1,e]
   congr 1
   by_cases z:a=i.toNat/\c=j.toNat
   ·rw [if_pos z,if_pos (by rw [z.1,z.2,Int.toNat_of_nonneg i0,Int.toNat_of_nonneg j0])]
   ·rw [if_neg z,if_neg λy=>z ?_]
    injection y with y1 y2
    injection y2 with y2 _
    omega,nj,rZ (by omega) (by omega),<- ke hb ht]
  show q.2*mn q.1 X Y+vl t X Y=_
  rw [e]
  rfl
theorem sk {b:Int} {t t':Zi} (h:Ci b t) (h':Ci b t') (e:∀ X Y,1<=X->vl t X Y=vl t' X Y) (k:List Int):gI t k=gI t' k:=by
 by_cases hk:∃ i j:Int,k=[i,j]/\0<=i/\0<=j/\i<=b/\j<=b
 ·obtain⟨i,j,rfl,i0,j0,i1,j1⟩:=hk;have hb:b < ((b.toNat+1:Nat):Int):=by omega
  have z:∀ X Y,1<=X->gv (b.toNat+1) (λa c=>gI t [(a:Int),(c:Int)]+-(gI t' [(a:Int),(c:Int)])) X Y=0:=λX Y hX=>by
   have e1:=ke (X:=X) (Y:=Y) hb h;have e2:=ke (X:=X) (Y:=Y) hb h';have e3:gv (b.toNat+1) (λa c=>gI t' [(a:Int),(c:Int)]+-(gI t' [(a:Int),(c:Int)])) X Y=0:=by
    have:=ke (n:=b.toNat+1) (X:=X) (Y:=Y) hb (t:=[]) ⟨List.nodup_nil,λp h=>nomatch h⟩
    rw [show (λa c:Nat=>gI t' [(a:Int),(c:Int)]+-(gI t' [(a:Int),(c:Int)]))=fun(a c:Nat)=>gI [] [(a:Int),(c:Int)] from funext λa=>funext λc=>by rw [Int.add_right_neg]; rfl,<- this]
    rfl
   rw [nj] at e3 ⊢;rw [<- e1,e X Y hX,e2];exact e3
  have:=xG z (i:=i.toNat) (j:=j.toNat) (by omega) (by omega)
  rw [Int.toNat_of_nonneg i0,Int.toNat_of_nonneg j0] at this;omega
 ·have nk:∀ {s:Zi},Ci b s->gI s k=0:=λhs=>bN λz=>by
   obtain⟨p,hp,ep⟩:=LF.mp z;obtain⟨i,j,e,q⟩:=hs.sm p hp;exact hk ⟨i,j,by rw [<- ep,e],q⟩
  rw [nk h,nk h']
theorem F4 {a b c d:Int} {X Y:Int} (ha:0<=a) (hb:0<=b) (hc:0<=c) (hd:0<=d):mn [a+c,b+d] X Y=mn [a,b] X Y*mn [c,d] X Y:=by
 show X ^ (a+c).toNat*Y ^ (b+d).toNat=X ^ a.toNat*Y ^ b.toNat*(X ^ c.toNat*Y ^ d.toNat)
 rw [show (a+c).toNat=a.toNat+c.toNat by omega,show(b+d).toNat=b.toNat+d.toNat by omega,Int.pow_add,Int.pow_add]
 rw [Int.mul_assoc,Int.mul_assoc,<- Int.mul_assoc (X ^ c.toNat),Int.mul_comm (X ^ c.toNat),Int.mul_assoc (Y ^ b.toNat)]
theorem Ig {n:Nat} {b b':Int} {p q:List Int×Int} {X Y:Int} (hn:b+b' < n) (hp:∃ i j:Int,p.1=[i,j]/\0<=i/\0<=j/\i<=b/\j<=b) (hq:∃ i j:Int,q.1=[i,j]/\0<=i/\0<=j/\i<=b'/\j<=b'):gv n (λi j=>t5 p q [(i:Int),(j:Int)]) X Y=p.2*mn p.1 X Y*(q.2*mn q.1 X Y):=by
 obtain⟨i,j,ep,i0,j0,i1,j1⟩:=hp;obtain⟨i',j',eq,i0',j0',i1',j1'⟩:=hq;rw [show (λa c:Nat=>t5 p q [(a:Int),(c:Int)])=fun(a c:Nat)=>(if a=(i+i').toNat/\c=(j+j').toNat then p.2*q.2 else 0) from funext λa=>funext λc=>by
  unfold t5;rw [ep,eq]
  show(if [i+i',j+j']=[(a:Int),(c:Int)] then _ else _)=_
  by_cases z:a=(i+i').toNat/\c=(j+j').toNat
  ·rw [if_pos z,if_pos (by rw [z.1,z.2,Int.toNat_of_nonneg (by omega),Int.toNat_of_nonneg (by omega)])]
  ·rw [if_neg z,if_neg λy=>z ?_]
   injection y with y1 y2
   injection y2 with y2 _
   omega,rZ (by omega) (by omega),ep,eq]
 have:=F4 (X:=X) (Y:=Y) i0 j0 i0' j0'
 show p.2*q.2*mn [i+i',j+j'] X Y=_
 rw [this];rw [Int.mul_assoc,Int.mul_assoc,Int.mul_left_comm q.2]
theorem zk {n:Nat} {b b':Int} {p:List Int×Int} {X Y:Int} (hn:b+b' < n) (hp:∃ i j:Int,p.1=[i,j]/\0<=i/\0<=j/\i<=b/\j<=b):∀ {l:Zi} {φ:Nat->Nat->Int},(∀ q∈l,∃ i j:Int,q.1=[i,j]/\0<=i/\0<=j/\i<=b'/\j<=b')->
  gv n (λi j=>eG p l [(i:Int),(j:Int)] (φ i j)) X Y=gv n φ X Y+p.2*mn p.1 X Y*vl l X Y
 | [],φ,_=>by
  show gv n φ X Y=gv n φ X Y+p.2*mn p.1 X Y*0
  rw [Int.mul_zero,Int.add_zero]
 | q::l,φ,h=>by
  have:=zk (X:=X) (Y:=Y) hn hp (l:=l) (φ:=λi j=>φ i j+t5 p q [(i:Int),(j:Int)]) λq' hq'=>h q' (LM _ hq')
  show gv n (λi j=>eG p l [(i:Int),(j:Int)] (φ i j+t5 p q [(i:Int),(j:Int)])) X Y=_
  rw [this,nj,Ig hn hp (h q LL)]
  show _=gv n φ X Y+p.2*mn p.1 X Y*(q.2*mn q.1 X Y+vl l X Y)
  rw [Int.mul_add,Int.add_assoc]
theorem wN {n:Nat} {b b':Int} {X Y:Int} {l':Zi} (hn:b+b' < n) (h':∀ q∈l',∃ i j:Int,q.1=[i,j]/\0<=i/\0<=j/\i<=b'/\j<=b'):∀ {l:Zi} {φ:Nat->Nat->Int},(∀ q∈l,∃ i j:Int,q.1=[i,j]/\0<=i/\0<=j/\i<=b/\j<=b)->
  gv n (λi j=>l.foldl (λs p=>eG p l' [(i:Int),(j:Int)] s) (φ i j)) X Y=gv n φ X Y+vl l X Y*vl l' X Y
 | [],φ,_=>by
  show gv n φ X Y=gv n φ X Y+0*vl l' X Y
  rw [Int.zero_mul,Int.add_zero]
 | p::l,φ,h=>by
  have:=wN (X:=X) (Y:=Y) hn h' (l:=l) (φ:=λi j=>eG p l' [(i:Int),(j:Int)] (φ i j)) λq' hq'=>h q' (LM _ hq')
  show gv n (λi j=>l.foldl (λs p=>eG p l' [(i:Int),(j:Int)] s) (eG p l' [(i:Int),(j:Int)] (φ i j))) X Y=_
  rw [this,zk hn (h p LL) h']
  show _=gv n φ X Y+(p.2*mn p.1 X Y+vl l X Y)*vl l' X Y
  rw [Int.add_mul,Int.add_assoc]
theorem Ir {n:Nat} {X Y:Int}:gv n (λ_ _=>0) X Y=0:=by
 unfold gv;have z:∀ {l:List Nat} {Z:Int},pv (l.map λ_=>0) Z=0:=λ{l Z}=>by
  induction l with
  | nil=>rfl
  | cons x l ih=>show 0+Z*pv _ Z=0; rw [ih]; omega
 rw [show (λi:Nat=>pv ((List.range n).map λ_:Nat=>(0:Int)) Y)=λ_=>0 from funext λ_=>z,z]
theorem wI {b b' b'':Int} {t t' g:Zi} (h:Ci b t) (h':Ci b' t') (hg:Ci b'' g) (hb:b+b'<=b'') (e:∀ k,gI g k=kT t t' k) (X Y:Int):vl g X Y=vl t X Y*vl t' X Y:=by
 have hn:b'' < ((b''.toNat+1:Nat):Int):=by omega
 rw [ke hn hg,show(λi j:Nat=>gI g [(i:Int),(j:Int)])=fun(i j:Nat)=>t.foldl (λs p=>eG p t' [(i:Int),(j:Int)] s) 0 from funext λi=>funext λj=>e _]
 have:=wN (n:=b''.toNat+1) (X:=X) (Y:=Y) (show b+b' < ((b''.toNat+1:Nat):Int) by omega) h'.sm (φ:=λ_ _=>0) h.sm
 rw [this,Ir,Int.zero_add]
theorem v6 {b:Int} {t t' g:Zi} (h:Ci b t) (h':Ci b t') (hg:Ci b g) (e:∀ k,gI g k=gI t k+gI t' k) (X Y:Int):vl g X Y=vl t X Y+vl t' X Y:=by
 have hn:b < ((b.toNat+1:Nat):Int):=by omega
 rw [ke hn hg,ke hn h,ke hn h',<- nj]
 congr 1
 funext i j
 exact e _
theorem xa {X Y:Int}:∀ {t:Zi},vl (qJ t) X Y=vl t X Y
 | []=>rfl
 | q::t=>by
  by_cases e:q.2=0
  ·rw [show qJ (q::t)=qJ t by simp [qJ,List.filter_cons,e],xa]
   show _=q.2*mn q.1 X Y+vl t X Y
   rw [e,Int.zero_mul,Int.zero_add]
  ·rw [show qJ (q::t)=q::qJ t by simp [qJ,List.filter_cons,e]]
   show q.2*mn q.1 X Y+vl (qJ t) X Y=q.2*mn q.1 X Y+vl t X Y
   rw [xa]
theorem AQ {p:List Int×Int} {k:List Int} {M:Nat}:∀ {l:Zi} {s:Int},(∀ q∈l,(p.2*q.2).natAbs<=M)->(eG p l k s).natAbs<=s.natAbs+l.length*M
 | [],s,_=>by show s.natAbs<=s.natAbs+0*M; omega
 | q::l,s,h=>by
  have h1:=AQ (p:=p) (k:=k) (l:=l) (s:=s+t5 p q k) λq' hq=>h q' (LM _ hq)
  have h2:(t5 p q k).natAbs<=M:=by
   unfold t5
   split
   ·exact h q LL
   ·show(0:Int).natAbs<=M; exact Mw _
  have h3:=Int.natAbs_add_le s (t5 p q k)
  show(eG p l k (s+t5 p q k)).natAbs<=s.natAbs+(l.length+1)*M
  rw [Nat.add_mul,Nat.one_mul];omega
theorem zl {k:List Int} {M:Nat} {l':Zi}:∀ {l:Zi} {s:Int},(∀ p∈l,∀ q∈l',(p.2*q.2).natAbs<=M)->(l.foldl (λs p=>eG p l' k s) s).natAbs<=s.natAbs+l.length*(l'.length*M)
 | [],s,_=>by show s.natAbs<=s.natAbs+0*_; omega
 | p::l,s,h=>by
  have h1:=zl (k:=k) (l':=l') (l:=l) (s:=eG p l' k s) λp' hp=>h p' (LM _ hp)
  have h2:=AQ (p:=p) (k:=k) (l:=l') (s:=s) (h p LL)
  show(l.foldl (λs p=>eG p l' k s) (eG p l' k s)).natAbs<=s.natAbs+(l.length+1)*(l'.length*M)
  rw [Nat.add_mul,Nat.one_mul];omega
theorem sI {n n':Nat} {t t':Zi} {k:List Int} (hl:t.length<=250) (hl':t'.length<=250) (h:∀ p∈t,Bt n p.2) (h':∀ p∈t',Bt n' p.2):Bt (n+n'+16) (kT t t' k):=by
 have h1:=zl (k:=k) (M:=2 ^ (n+n')) (l':=t') (l:=t) (s:=0) λp hp q hq=>Nat.le_of_lt ((h p hp).mul (h' q hq))
 have h2:t.length*(t'.length*2 ^ (n+n'))<=250*(250*2 ^ (n+n')):=Nat.mul_le_mul hl (Nat.mul_le_mul_right _ hl');have h3:0 < 2 ^ (n+n'):=Nat.pow_pos (by decide)
 show(kT t t' k).natAbs < 2 ^ (n+n'+16)
 rw [Nat.pow_add];have h4:(kT t t' k).natAbs<=(0:Int).natAbs+t.length*(t'.length*2 ^ (n+n')):=h1;have:(0:Int).natAbs=0:=rfl;omega
theorem Ci.len {b:Nat} {t:Zi} (h:Ci (b:Int) t):t.length<=(b+1)*(b+1):=by
 have:=nN h.nd (l':=(List.range (b+1)).flatMap λi:Nat=>(List.range (b+1)).map λj:Nat=>[(i:Int),(j:Int)]) λx hx=>by
  obtain⟨p,hp,rfl⟩:=LF.mp hx;obtain⟨i,j,e,i0,j0,i1,j1⟩:=h.sm p hp;rw [e];refine List.mem_flatMap.mpr ⟨i.toNat,MB.mpr (by omega),LF.mpr ⟨j.toNat,MB.mpr (by omega),?_⟩⟩
  rw [Int.toNat_of_nonneg i0,Int.toNat_of_nonneg j0]
 rw [LG] at this;refine Mi this ?_;rw [List.length_flatMap];have z:∀ (l:List Nat) (c:Nat),(l.map λ_=>c).sum=l.length*c:=λl c=>by
  induction l with
  | nil=>simp
  | cons x l ih=>rw [LP,List.sum_cons,ih,LQ,Nat.add_mul,Nat.one_mul,Nat.add_comm]
 simp only [LG,List.length_range,z];exact LD _
theorem o8 {t:Zi} {f:List Int×Int->M1} (nd:(t.map (·.1)).Nodup):((t.filter f).map (·.1)).Nodup:=List.Nodup.sublist (List.Sublist.map _ List.filter_sublist) nd
theorem Ci.nil {b:Int}:Ci b []:=⟨List.nodup_nil,λp h=>nomatch h⟩
theorem EF:∀ {r:Zi},(∀ p∈r,p.2≠0->∃ j,p.1=[0,j]\/p.1=[1,j])->∃ A B:Int->Int,∀ X Y,vl r X Y=A Y+X*B Y
 | [],_=>⟨λ_=>0,λ_=>0,λX Y=>by show 0=0+X*0; omega⟩
 | p::r,h=>by
  obtain⟨A,B,e⟩:=EF (r:=r) λq hq=>h q (LM _ hq)
  have e':∀ X Y,vl (p::r) X Y=p.2*mn p.1 X Y+(A Y+X*B Y):=λX Y=>by rw [<- e]; rfl
  by_cases z:p.2=0
  ·exact⟨A,B,λX Y=>by rw [e',z]; omega⟩
  ·obtain⟨j,k | k⟩:=h p LL z
   ·exact⟨λY=>p.2*Y ^ j.toNat+A Y,B,λX Y=>by rw [e',k]; show p.2*(X ^ 0*Y ^ j.toNat)+_=_; grind⟩
   ·exact⟨A,λY=>p.2*Y ^ j.toNat+B Y,λX Y=>by rw [e',k]; show p.2*(X ^ 1*Y ^ j.toNat)+_=_; grind⟩
theorem xZ {M r h:Int} (e:r=h*M) (s:r.natAbs < M.natAbs):r=0:=by
 have hd:M.natAbs ∣ r.natAbs:=Mu.mpr ⟨h,by rw [e,Int.mul_comm]⟩
 have:=Nat.eq_zero_of_dvd_of_lt hd s;omega
theorem rk {A B h N Y:Int} (hN:(A.natAbs:Int)+B.natAbs < N) (e:A+N*B=h*(N*N+Y*Y)):A+N*B=0:=by
 refine xZ e ?_;have h1:=Int.natAbs_add_le A (N*B);rw [MC] at h1;have n0:(N.natAbs:Int)=N:=by omega
 have h2:(N*N+Y*Y).natAbs=N.natAbs*N.natAbs+Y.natAbs*Y.natAbs:=by
  have a1:N*N=((N.natAbs*N.natAbs:Nat):Int):=(Int.natAbs_mul_self' N).symm▸(Int.natAbs_mul_self (a:=N)).symm;have a2:Y*Y=((Y.natAbs*Y.natAbs:Nat):Int):=(Int.natAbs_mul_self (a:=Y)).symm;rw [a1,a2];omega
 rw [h2];generalize A.natAbs=α at*
 generalize B.natAbs=β at*
 generalize N.natAbs=ν at*
 have h3:α+ν*β<=ν*(ν - 1):=by
  have z:α+β<=ν - 1:=by omega
  have z1:=Nat.mul_le_mul_left ν z;rw [Nat.mul_add] at z1;have z2:α<=ν*α:=Nat.le_mul_of_pos_left α (by omega)
  omega
 have h4:ν*(ν - 1) < ν*ν:=Nat.mul_lt_mul_of_pos_left (by omega) (by omega)
 have h5:0<=Y.natAbs*Y.natAbs:=Mw _;omega
theorem BS {A B Y:Int} {h:Int->Int} (e:∀ X,1<=X->A+X*B=h X*(X*X+Y*Y)):A=0/\B=0:=by
 have h1:=rk (N:=(A.natAbs:Int)+B.natAbs+1) (by omega) (e _ (by omega))
 have h2:=rk (N:=(A.natAbs:Int)+B.natAbs+2) (by omega) (e _ (by omega))
 have:B=0:=by
  rw [Int.add_mul] at h1 h2
  omega
 rw [this,Int.mul_zero] at h1;exact⟨by omega,this⟩
theorem Bj {b:Int} {s s':Zi} {i j z:Int} (h:Ci b s) (h':Ci b s') (i0:0<=i) (j0:0<=j) (i1:i<=b) (j1:j<=b) (e:∀ k,gI s' k=if k=[i,j] then z else gI s k) (X Y:Int):vl s' X Y=vl s X Y+(z - gI s [i,j])*mn [i,j] X Y:=by
 have hn:b < ((b.toNat+1:Nat):Int):=by omega
 rw [ke hn h',ke hn h,show(λa c:Nat=>gI s' [(a:Int),(c:Int)])=fun(a c:Nat)=>gI s [(a:Int),(c:Int)]+(if a=i.toNat/\c=j.toNat then z - gI s [i,j] else 0) from funext λa=>funext λc=>by
  rw [e]
  by_cases y:a=i.toNat/\c=j.toNat
  ·have:[(a:Int),(c:Int)]=[i,j]:=by rw [y.1,y.2,Int.toNat_of_nonneg i0,Int.toNat_of_nonneg j0]
   rw [if_pos y,if_pos this,this];omega
  ·rw [if_neg y,if_neg λy'=>y ?_,Int.add_zero]
   injection y' with y1 y2
   injection y2 with y2 _
   omega,nj,rZ (by omega) (by omega)]
 rfl
theorem rT {p:List Int×Int} {k:List Int}:∀ {l:Zi} {s:Int},(∀ q∈l,t5 p q k=0)->eG p l k s=s
 | [],s,_=>rfl
 | q::l,s,h=>by
  show eG p l k (s+t5 p q k)=s
  rw [h q LL,Int.add_zero];exact rT λq hq=>h q (LM _ hq)
theorem nI {k:List Int} {l':Zi}:∀ {l:Zi} {s:Int},(∀ p∈l,∀ q∈l',t5 p q k=0)->l.foldl (λs p=>eG p l' k s) s=s
 | [],s,_=>rfl
 | p::l,s,h=>by
  show l.foldl (λs p=>eG p l' k s) (eG p l' k s)=s
  rw [rT (h p LL)];exact nI λq hq=>h q (LM _ hq)
theorem zN {g t:Zi} {b b' hi hj:Int} {k:List Int} (hg:Ci b g) (ht:Ci b' t) (h:∀ k,gI g k≠0->dg k<=hi) (h':∀ p∈t,dg p.1<=hj) (n:kT g t k≠0):dg k<=hi+hj:=by
 refine Decidable.byContradiction λc=>n (nI λp hp q hq=>?_)
 unfold t5
 by_cases e:vU p.1 q.1=k
 ·by_cases p0:p.2=0
  ·rw [p0,Int.zero_mul]
   split <;> rfl
  ·exfalso
   obtain⟨i,j,ek,_⟩:=hg.sm p hp;obtain⟨i',j',ek',_⟩:=ht.sm q hq;have h1:=h p.1 (by rw [show gI g p.1=p.2 from cm hg.nd hp]; exact p0)
   have h2:=h' q hq;rw [ek] at h1 e
   rw [ek'] at h2 e
   have h1:i+j<=hi:=h1;have h2:i'+j'<=hj:=h2;refine c ?_;rw [<- e]
   show i+i'+(j+j')<=hi+hj
   omega
 ·rw [if_neg e]
structure Tg (Nn:Nat) (c:Zi):Prop where
 nd:(c.map (·.1)).Nodup
 sm:∀ p∈c,∃ i j:Int,p.1=[i,j]/\0<=i/\0<=j/\i+j<=Nn
theorem Tg.ci {Nn:Nat} {c:Zi} (h:Tg Nn c):Ci (Nn:Int) c:=⟨h.nd,λp hp=>by
 obtain⟨i,j,e,i0,j0,ij⟩:=h.sm p hp;exact⟨i,j,e,i0,j0,by omega,by omega⟩⟩
def hC (T:Int->Int->Int) (m y d i:Int):Nat->Int
 | 0=>0
 | s+1=>hC T m y d i s*y+T i (d - i - s)*m ^ s
def hO (T:Int->Int->Int) (m x y d:Int):Nat->Int
 | 0=>0
 | s+1=>hO T m x y d s*x+hC T m y d (d - s) (s+1)
theorem xq {n:Nat} {t:Zi} (nd:(t.map (·.1)).Nodup) (h:∀ p∈t,Bt n p.2) (k:List Int):Bt n (gI t k):=by
 rcases hJ (z:=(0:Int)) k nd with x | x
 ·rw [show gI t k=0 from bN x]
  show(0:Int).natAbs < 2 ^ n
  exact Nat.pow_pos (by decide)
 ·exact h _ x
theorem pz {n:Nat} {t:Zi} (nd:(t.map (·.1)).Nodup) (h:∀ k,Bt n (gI t k)):∀ p∈t,Bt n p.2:=λp hp=>by
 have:=h p.1;rw [show gI t p.1=p.2 from cm nd hp] at this
 exact this
theorem kM {S S':DH} (x:aK S S') {p:MR} (h:S' p=none):S p=none:=by
 cases e:S p with
 | none=>rfl
 | some o=>rw [x _ _ e] at h; cases h
theorem u8 {d:Nat}:k9 (d:Int) (-1)=(List.range' 0 (d+1)).map λk:Nat=>D.int ((d:Int) - (k:Int)):=by
 unfold k9;rw [show ((d:Int) - -1).toNat=d+1 by omega,List.range_eq_range']
theorem Ci.one {b x:Int} (hb:0<=b):Ci b [([0,0],x)]:=⟨by simp,λp h=>by
 have:p=([0,0],x):=by simpa using h
 subst this;exact⟨0,0,rfl,by decide,by decide,hb,hb⟩⟩
theorem FB {x X Y:Int}:vl [([0,0],x)] X Y=x:=by
 show x*(X ^ 0*Y ^ 0)+0=x
 rw [Int.pow_zero,Int.pow_zero];omega
def gX:cH:=λds S k=>∃ (a b c:MR) (t tx ty:Zi) (e e1 e2:Nat) (m:Int) (n c' d:Nat),ds=[.ref a,.ref b,.ref c,.int m]/\S a=some (bH (bc t) e)/\S b=some (bH (bc tx) e1)/\S c=some (bH (bc ty) e2)/\Ci 12 t/\lC t d/\d<=12/\Ci 1 tx/\Ci 1 ty/\(∀ p∈tx,dg p.1<=1)/\(∀ p∈ty,dg p.1<=1)/\n<=80000/\c'<=2000/\(∀ p∈t,Bt n p.2)/\(∀ p∈tx,Bt c' p.2)/\(∀ p∈ty,Bt c' p.2)/\Bt c' m/\1<=n/\
 ∀ S' p ep g,aK S S'->S p=none->Tg d g->(∀ p∈g,p.2≠0/\Bt (n+13*(c'+18)) p.2)->(∀ X Y,vl g X Y=hO (λi j=>gI t [i,j]) m (vl tx X Y) (vl ty X Y) d (d+1))->S' p=some (bH (bc g) ep)->k (.ref p) S'
theorem c7:au ["tops","x","y","bottom","degree","bottoms","told","i","column","j","top"] ["tops","x","y","bottom"] (ap pX):=dX
theorem ye (Fn:FN K "set_in" pX f fd) (cp:bj P w K mg base "degree_of" 1 gF) (cX:bj P w K mg base "powers_up_to" 1 ia) (cO:bj P w K mg base "sum_of_tops" 1 iG) (bF:bj P w K mg base "product_of_tops" 1 eO) (a_:bj P w K mg base "without_nought_tops" 1 db) (aB:mg "range"=none):
  aT P w K mg base c8 2 f fd ["tops","x","y","bottom"] (dk K gX):=by
 refine Fn.okJ c7 (λds S k h=>?_) (λcdv A outer s H E hr=>⟨_,(af (ai (i:=4) c7.nd (dq cp hr (aG 0 ac))) (af (ai (i:=5) c7.nd (dq cX hr (aG 3 (aG 4 ac)))) (af (ai (i:=6) c7.nd eW) (af (lO PassesOwn.never rfl rfl aB (aG 4 (aa (eE eF ae) (aa (eE eF ae) ac))) (ar (i:=7) c7.nd) (af (ai (i:=8) c7.nd eW) (af (lO PassesOwn.never rfl rfl aB (aa (aw gz (ah 4) (ah 7)) (aa (eE eF ae) (aa (eE eF ae) ac))) (ar (i:=9) c7.nd) (af (ai (i:=10) c7.nd (aw bK (oQ hr (ah 0) (aq (aG 7 (aG 9 ac))) ae) (bq bG (ah 5) (aw gz (aw gz (ah 4) (ah 7)) (ah 9)) Zf))) (aj (ai (i:=8) c7.nd (dq cO hr (aa (dq bF hr (aG 8 (aG 2 ac))) (aa (fF hr (br (aq (aa ae (aa ae ac))) (ah 10) iM)) ac))))))) (aj (ai (i:=6) c7.nd (dq cO hr (aa (dq bF hr (aG 6 (aG 1 ac))) (aG 8 ac)))))))) (aj (ao (dq a_ hr (aG 6 ac)))))))),λds S k h=>?_⟩)
 ·obtain⟨_,_,_,_,_,_,_,_,_,_,_,_,_,rfl,_⟩:=h
  rfl
 ·obtain⟨a,b,c,t,tx,ty,e,e1,e2,m,n,c',d,rfl,ha,hb,hc,ht,hd,d2,hx,hy,dx,dy,hn,hc',bt,bx,by_,bm,n1,w⟩:=h;have lt:t.length<=169:=Ci.len (b:=12) ht;have lx:tx.length<=4:=Ci.len (b:=1) hx;have ly:ty.length<=4:=Ci.len (b:=1) hy;refine⟨a,t,e,rfl,ha,by omega,λp hp=>?_,λz=>?_,λS1 d' x1 hd'=>?_⟩
  ·obtain⟨i,j,e,i0,j0,i1,j1⟩:=ht.sm p hp;exact⟨i,j,e,i0,j0,by omega,by omega⟩
  ·obtain⟨⟨p,hp,_⟩,_⟩:=hd;rw [z] at hp;cases hp
  have ed:=hd'.uniq hd;subst ed;refine⟨m,d,rfl,by omega,bm.mono,λS2 p5 x2 h5 hp5=>λp6 hp6 e6=>⟨rfl,⟨by omega,by omega,by decide,by decide⟩,?_⟩⟩
  rw [u8];have X2:aK S S2:=x1.trans x2;refine aL (λr L S'=>aK S2 S'/\∃ (s:Nat) (g:Zi) (q:MR) (eq:Nat) (l7 l8 l9 l10:MS D),s<=d+1/\r=(List.range' s (d+1 - s)).map (λk:Nat=>D.int ((d:Int) - (k:Int)))/\L=[some (.ref a),some (.ref b),some (.ref c),some (.int m),some (.int d),some (.ref p5),some (.ref q),l7,l8,l9,l10]/\S' q=some (bH (bc g) eq)/\S q=none/\Ci (s:Int) g/\(∀ p∈g,Bt (n+s*(c'+18)) p.2)/\(∀ k,gI g k≠0->dg k<=(s:Int) - 1)/\∀ X Y,vl g X Y=hO (λi j=>gI t [i,j]) m (vl tx X Y) (vl ty X Y) d s) (λ_ _ _ _=>trivial) ?_ ?_ _ _ _ ⟨aK.new hp6,0,[],p6,e6,none,none,none,none,Mw _,rfl,rfl,ak,kM X2 hp6,Ci.nil,λp h=>(nomatch h),λk h=>absurd rfl h,λX Y=>rfl⟩
  ·rintro dd r L S3 N1 ⟨x3,s,g,q,eq,l7,l8,l9,l10,hs,er,rfl,hq,hq0,hg,bg,dgg,vg⟩ hN;cases hds:d+1 - s with
   | zero=>rw [hds] at er; cases er
   | succ s'=>
    rw [hds,List.range'_succ,LP] at er;cases er;have X3:aK S S3:=X2.trans x3;refine λp8 hp8 e8=>⟨rfl,⟨by omega,by omega,by decide,by decide⟩,?_⟩
    rw [show (d:Int) - ((d:Int) - (s:Int))=(s:Int) by omega,u8]
    refine aL (λr L S'=>aK S3 S'/\∃ (k:Nat) (col:Zi) (q8:MR) (eq8:Nat) (l9 l10:MS D),k<=s+1/\r=(List.range' k (s+1 - k)).map (λk:Nat=>D.int ((s:Int) - (k:Int)))/\L=[some (.ref a),some (.ref b),some (.ref c),some (.int m),some (.int d),some (.ref p5),some (.ref q),some (.int ((d:Int) - (s:Int))),some (.ref q8),l9,l10]/\S' q8=some (bH (bc col) eq8)/\Ci (k:Int) col/\(∀ p∈col,Bt (n+k*(c'+17)) p.2)/\(∀ k',gI col k'≠0->dg k'<=(k:Int) - 1)/\∀ X Y,vl col X Y=hC (λi j=>gI t [i,j]) m (vl ty X Y) d ((d:Int) - (s:Int)) k) (λ_ _ _ _=>trivial) ?_ ?_ _ _ _ ⟨aK.new hp8,0,[],p8,e8,l9,l10,Mw _,rfl,rfl,ak,Ci.nil,λp h=>(nomatch h),λk h=>absurd rfl h,λX Y=>rfl⟩
    ·rintro dd r L S4 N2 ⟨x4,k',col,q8,eq8,l9,l10,hk,er,rfl,hq8,hcol,bcol,dcol,vcol⟩ hN2;cases hdk:s+1 - k' with
     | zero=>rw [hdk] at er; cases er
     | succ s''=>
      rw [hdk,List.range'_succ,LP] at er;cases er;have X4:aK S S4:=X3.trans x4;have h54:S4 p5=some (.lst ((List.range (d+1)).map λi=>.int (m ^ i))):=x4 _ _ (x3 _ _ hp5)
      have hat:L2.atI ((List.range (d+1)).map λi=>D.int (m ^ i)) ((d:Int) - ((d:Int) - (s:Int)) - ((s:Int) - (k':Int)))=some (.int (m ^ k')):=by
       rw [show (d:Int) - ((d:Int) - (s:Int)) - ((s:Int) - (k':Int))=(k':Int) by omega]
       exact L2.jn (by rw [L8,List.getElem?_range (by omega)]; rfl)
      have G:(de (bc t) [(d:Int) - (s:Int),(s:Int) - (k':Int)]).getD (D.int 0)=D.int (gI t [(d:Int) - (s:Int),(s:Int) - (k':Int)]):=oG (f:=D.int) (z:=0);have bT:=xq ht.nd bt [(d:Int) - (s:Int),(s:Int) - (k':Int)];have bM:=gP bm k';have lcol:col.length<=169:=Mi (Ci.len hcol) (Nat.mul_le_mul (show k'+1<=13 by omega) (show k'+1<=13 by omega))
      have kc:k'*(c'+17)<=12*2017:=Nat.mul_le_mul (by omega) (by omega)
      have kc2:k'*c'<=k'*(c'+17):=Nat.mul_le_mul_left _ (by omega)
      refine⟨⟨_,_,X4 _ _ ha⟩,few,_,_,[(d:Int) - (s:Int),(s:Int) - (k':Int)],X4 _ _ ha,rfl,?_⟩;rw [G];refine⟨_,_,h54,hat,iF bT bM (by omega),?_⟩
      refine⟨q8,c,col,ty,eq8,e2,(k':Int),1,rfl,hq8,X4 _ _ hc,hcol,hy,by omega,by decide,by omega,by omega,λp hp=>(bcol p hp).mono,λp hp=>(by_ p hp).mono,λS5 p9 e9 g5 x5 h9 hg5 l5 gf5 hp9=>?_⟩
      refine λp10 hp10 e10=>⟨few,e10,bc [([0,0],gI t [(d:Int) - (s:Int),(s:Int) - (k':Int)]*m ^ k')],ak,rfl,by show 1<=15; decide,λe11=>?_⟩
      have l5':g5.length<=196:=Mi (Ci.len (b:=k'+1) (by rw [show ((k'+1:Nat):Int)=(k':Int)+1 by omega]; exact hg5)) (Nat.mul_le_mul (show k'+1+1<=14 by omega) (show k'+1+1<=14 by omega))
      refine⟨p9,p10,g5,[([0,0],gI t [(d:Int) - (s:Int),(s:Int) - (k':Int)]*m ^ k')],e9,e11,(k':Int)+1,rfl,((aK.new hp10).put hp10) _ _ hp9,by rw [ak,dZ (f:=D.int) (l:=[([0,0],gI t [(d:Int) - (s:Int),(s:Int) - (k':Int)]*m ^ k')]) (by simp)],hg5,Ci.one (by omega),by omega,by show g5.length+1<=1000; omega,λS6 p11 e12 g6 x6 h11 hg6 l6 gf6 hp11=>?_⟩
      have bb:∀ k,Bt (n+(k'+1)*(c'+17)) (gI g6 k):=λk=>by
       rw [gf6 k,gf5 k];have b1:=sI (k:=k) (by omega) (by omega) bcol by_
       have b2:Bt (n+(k'*c'+1)) (gI [([0,0],gI t [(d:Int) - (s:Int),(s:Int) - (k':Int)]*m ^ k')] k):=xq (by simp) (λp hp=>by
        have:p=([0,0],gI t [(d:Int) - (s:Int),(s:Int) - (k':Int)]*m ^ k'):=by simpa using hp
        rw [this];exact bT.mul bM) k
       refine(b1.add b2).mono ?_;rw [Nat.add_mul,Nat.one_mul];omega
      refine hN2 _ _ ⟨x4.trans (x5.trans (((aK.new hp10).put hp10).trans x6)),k'+1,g6,p11,e12,_,_,by omega,by rw [show s+1 - (k'+1)=s'' by omega],rfl,hp11,by rw [show ((k'+1:Nat):Int)=(k':Int)+1 by omega]; exact hg6,pz hg6.nd bb,λk hk=>?_,λX Y=>?_⟩
      ·rw [gf6 k,gf5 k] at hk
       by_cases z:kT col ty k=0
       ·rw [z,Int.zero_add] at hk
        by_cases e:k=[0,0]
        ·rw [e]
         show(0:Int)+0<=_
         omega
        ·exact absurd (show gI [([0,0],gI t [(d:Int) - (s:Int),(s:Int) - (k':Int)]*m ^ k')] k=0 from bN (by simpa using e)) hk
       ·have:=zN hcol hy dcol dy z;omega
      ·rw [v6 hg5 (Ci.one (by omega)) hg6 gf6,FB,wI hcol hy hg5 (Int.le_refl _) gf5,vcol]
       show _=hC _ _ _ _ _ k'*vl ty X Y+gI t [(d:Int) - (s:Int),(d:Int) - ((d:Int) - (s:Int)) - (k':Int)]*m ^ k'
       rw [show (d:Int) - ((d:Int) - (s:Int)) - (k':Int)=(s:Int) - (k':Int) by omega]
    ·rintro L S4 ⟨x4,k',col,q8,eq8,l9,l10,hk,er,rfl,hq8,hcol,bcol,dcol,vcol⟩;cases hdk:s+1 - k' with
     | succ s''=>rw [hdk,List.range'_succ] at er; cases er
     | zero=>
      have ek:k'=s+1:=by omega
      subst ek;have X4:aK S S4:=X3.trans x4;have lg:g.length<=169:=Mi (Ci.len hg) (Nat.mul_le_mul (show s+1<=13 by omega) (show s+1<=13 by omega))
      have sc:s*(c'+18)<=12*2018:=Nat.mul_le_mul (by omega) (by omega)
      refine⟨q,b,g,tx,eq,e1,(s:Int),1,rfl,x4 _ _ hq,X4 _ _ hb,hg,hx,by omega,by decide,by omega,by omega,λp hp=>(bg p hp).mono,λp hp=>(bx p hp).mono,λS5 p9 e9 g5 x5 h9 hg5 l5 gf5 hp9=>?_⟩
      have hcol':Ci ((s:Int)+1) col:=by rw [show ((s+1:Nat):Int)=(s:Int)+1 by omega] at hcol; exact hcol
      have l5':g5.length<=196:=Mi (Ci.len (b:=s+1) (by rw [show ((s+1:Nat):Int)=(s:Int)+1 by omega]; exact hg5)) (Nat.mul_le_mul (show s+1+1<=14 by omega) (show s+1+1<=14 by omega))
      have lc':col.length<=196:=Mi (Ci.len hcol) (Nat.mul_le_mul (show s+1+1<=14 by omega) (show s+1+1<=14 by omega))
      refine⟨p9,q8,g5,col,e9,eq8,(s:Int)+1,rfl,hp9,x5 _ _ hq8,hg5,hcol',by omega,by omega,λS6 p11 e12 g6 x6 h11 hg6 l6 gf6 hp11=>?_⟩
      have bb:∀ k,Bt (n+(s+1)*(c'+18)) (gI g6 k):=λk=>by
       rw [gf6 k,gf5 k];have b1:=sI (k:=k) (by omega) (by omega) bg bx
       have b2:=xq hcol.nd bcol k;refine(b1.add b2).mono ?_;have:s*(c'+17)<=s*(c'+18):=Nat.mul_le_mul_left _ (by omega)
       rw [Nat.add_mul,Nat.add_mul,Nat.one_mul,Nat.one_mul];omega
      refine hN _ _ ⟨x3.trans (x4.trans (x5.trans x6)),s+1,g6,p11,e12,_,_,_,_,by omega,by rw [show d+1 - (s+1)=s' by omega],rfl,hp11,kM (X4.trans x5) h11,by rw [show ((s+1:Nat):Int)=(s:Int)+1 by omega]; exact hg6,pz hg6.nd bb,λk hk=>?_,λX Y=>?_⟩
      ·rw [gf6 k,gf5 k] at hk
       by_cases z:kT g tx k=0
       ·rw [z,Int.zero_add] at hk;have:=dcol k hk;omega
       ·have:=zN hg hx dgg dx z;omega
      ·rw [v6 hg5 hcol' hg6 gf6,wI hg hx hg5 (Int.le_refl _) gf5,vg,vcol]
       rfl
  ·rintro L S3 ⟨x3,s,g,q,eq,l7,l8,l9,l10,hs,er,rfl,hq,hq0,hg,bg,dgg,vg⟩;cases hds:d+1 - s with
   | succ s'=>rw [hds,List.range'_succ] at er; cases er
   | zero=>
    have es:s=d+1:=by omega
    subst es;have lg:g.length<=196:=Mi (Ci.len hg) (Nat.mul_le_mul (show d+1+1<=14 by omega) (show d+1+1<=14 by omega))
    refine⟨q,g,eq,rfl,hq,hg.nd,by omega,λS4 p e4 x4 h4 hp4=>w S4 p e4 (qJ g) (X2.trans (x3.trans x4)) (kM (X2.trans x3) h4) ?_ ?_ ?_ hp4⟩
    ·refine⟨o8 hg.nd,λp hp=>?_⟩
     obtain⟨hm,p0⟩:=List.mem_filter.mp hp;obtain⟨i,j,ek,i0,j0,_,_⟩:=hg.sm p hm;have:=dgg p.1 (by rw [show gI g p.1=p.2 from cm hg.nd hm]; simpa using p0)
     rw [ek] at this;have:i+j<=((d+1:Nat):Int) - 1:=this;exact⟨i,j,ek,i0,j0,by omega⟩
    ·intro p hp;obtain⟨hp,p0⟩:=List.mem_filter.mp hp;refine⟨by simpa using p0,(bg p hp).mono ?_⟩
     have:(d+1)*(c'+18)<=13*(c'+18):=Nat.mul_le_mul_right _ (by omega)
     omega
    ·intro X Y;rw [xa,vg]
theorem Tg.put {Nn:Nat} {c:Zi} (h:Tg Nn c) {i j x:Int} (i0:0<=i) (j0:0<=j) (ij:i+j<=Nn):∃ c',fk (bc c) [i,j] (D.int x)=bc c'/\Tg Nn c'/\∀ k,gI c' k=if k=[i,j] then x else gI c k:=by
 obtain⟨c',e,nd,hl,mm,m1,m2⟩:=rm (f:=D.int) (l:=c) (k:=[i,j]) (x:=x);have nd':=nd h.nd;refine⟨c',e,⟨nd',λp hp=>?_⟩,λk=>?_⟩
 ·rcases mm p hp with q | rfl
  ·exact h.sm p q
  ·exact⟨i,j,rfl,i0,j0,ij⟩
 ·by_cases ek:k=[i,j]
  ·rw [if_pos ek,ek];exact cm nd' m1
  ·rw [if_neg ek];rcases hJ (z:=(0:Int)) k h.nd with q | q
   ·rw [show gI c k=0 from bN q]
    refine bN λz=>?_
    obtain⟨p,hp,rfl⟩:=LF.mp z;rcases mm p hp with y | y
    ·exact q (LF.mpr ⟨p,y,rfl⟩)
    ·exact ek (by rw [y])
   ·exact cm nd' (m2 _ q ek)
theorem Cd {X Y:Int}:∀ {l l':Zi},vl (l++l') X Y=vl l X Y+vl l' X Y
 | [],l'=>by show vl l' X Y=0+vl l' X Y; omega
 | p::l,l'=>by
  show p.2*mn p.1 X Y+vl (l++l') X Y=p.2*mn p.1 X Y+vl l X Y+vl l' X Y
  rw [Cd];omega
def yn (i:Int) (p:List Int×Int):M1:=decide (p.1.head?=some i) && decide (p.2≠0)
def jW (i:Int) (l:Zi):List (List Int):=(l.filter (yn i)).map (·.1)
theorem oz {S:DH} {p f:MR} {c:Zi} {e1:Nat} {k:DK} {i:Int} (hp:S p=none) (hf:S f=some (bH (bc c) e1)) (nd:(c.map (·.1)).Nodup) (two:∀ p∈c,∃ i j,p.1=[i,j]) (kk:∀ S2,aK S S2->S2 p=some (.lst ((jW i c).map cz))->k (.ref p) S2):
  ∀ (am don:Zi) (l0:MS D) (S1:DH),c=don++am->aK S S1->S1 p=some (.lst ((jW i don).map cz))->c.length<=1000->
   aX (λS=>S f=some (bH (bc c) e1)) p (dU 0) (lT (Ef (nW (qG J6 (qG qy (cJ 0) (dC (D.int 0))) (cJ 1))) (nW (qG HB (xr (cJ 2) (cJ 0)) (dC (D.int 0))))) (cJ 0)) k (am.map λx=>cz x.1) ((jW i don).map cz) [l0,some (.int i),some (.ref f)] S1
 | [],don,l0,S1,ec,x1,h1,_=>by
  rw [L0] at ec;subst ec;exact⟨x1 _ _ hf,kk S1 x1 h1⟩
 | q::am,don,l0,S1,ec,x1,h1,hl=>by
  have f1:=x1 _ _ hf;have hd:don.length < 1000:=by have:=congrArg List.length ec; rw [LY,LQ] at this; omega
  have hd2:(jW i don).length<=don.length:=by unfold jW; rw [LG]; exact List.length_filter_le _ _
  have ec':c=(don++[q])++am:=by rw [ec]; simp
  have hq:q∈c:=by rw [ec]; simp
  obtain⟨i',j,e⟩:=two q hq;rw [LP,e];refine⟨f1,rH (λt1=>?_) (λt1=>BH ?_)⟩
  ·have hi:i'=i:=by simpa using t1
   refine⟨_,_,q.1,_,f1,by rw [e],dI nd hq,pY (λh0=>⟨h1,by rw [LG]; exact lim (by omega),?_⟩) (λh0=>?_)⟩
   ·have ea:(jW i don).map cz++[cz [i',j]]=(jW i (don++[q])).map cz:=by simp [jW,yn,List.filter_append,e,hi,h0]
    rw [ea];exact oz hp hf nd two kk am (don++[q]) _ _ ec' (x1.put hp) ak hl
   ·have ea:jW i don=jW i (don++[q]):=by simp [jW,yn,List.filter_append,h0]
    rw [ea] at h1 ⊢;exact oz hp hf nd two kk am (don++[q]) _ _ ec' x1 h1 hl
  ·have hi:i'≠i:=by simpa using t1
   have ea:jW i don=jW i (don++[q]):=by simp [jW,yn,List.filter_append,e,hi]
   rw [ea] at h1 ⊢;exact oz hp hf nd two kk am (don++[q]) _ _ ec' x1 h1 hl
theorem xf {S:DH} {p f:MR} {c:Zi} {e1:Nat} {k:DK} (hp:S p=none) (hf:S f=some (bH (bc c) e1)) (kk:∀ S2,aK S S2->S2 p=some (.lst ((c.map λx=>!decide (x.2=0)).map D.bl))->k (.ref p) S2):
  ∀ (am don:Zi) (l0:MS D) (S1:DH),c=don++am->aK S S1->S1 p=some (.lst ((don.map λx=>!decide (x.2=0)).map D.bl))->c.length<=1000->
   aX (λS=>S f=some (bH (bc c) e1)) p (dU 0) (eQ (qG HB (cJ 0) (dC (D.int 0)))) k (am.map λx=>D.int x.2) ((don.map λx=>!decide (x.2=0)).map D.bl) [l0] S1
 | [],don,l0,S1,ec,x1,h1,_=>by
  rw [L0] at ec;subst ec;exact⟨x1 _ _ hf,kk S1 x1 h1⟩
 | q::am,don,l0,S1,ec,x1,h1,hl=>by
  have f1:=x1 _ _ hf;have hd:don.length < 1000:=by have:=congrArg List.length ec; rw [LY,LQ] at this; omega
  have ec':c=(don++[q])++am:=by rw [ec]; simp
  have ea:(don.map λx=>!decide (x.2=0)).map D.bl++[D.bl (!decide (q.2=0))]=((don++[q]).map λx=>!decide (x.2=0)).map D.bl:=by simp
  rw [LP];refine⟨f1,h1,by rw [LG,LG]; exact lim (by omega),?_⟩
  show aX _ _ _ _ _ _ ((don.map λx=>!decide (x.2=0)).map D.bl++[D.bl (!decide (q.2=0))]) _ (put S1 p (.lst ((don.map λx=>!decide (x.2=0)).map D.bl++[D.bl (!decide (q.2=0))])))
  rw [ea];exact xf hp hf kk am (don++[q]) _ _ ec' (x1.put hp) ak hl
structure Rw (t:Zi) (Nn:Nat) (i:Int) (ks:List (List Int)) (told am:Zi):Prop where
 tr:Tg Nn am
 tt:Tg (Nn - 2) told
 tn:∀ p∈told,p.2≠0
 v:∀ X Y,vl t X Y=vl told X Y*(X*X+Y*Y)+vl am X Y
 up:∀ a j,gI am [a,j]≠0->a < i\/(a=i/\[a,j]∈ks)
 kn:ks.Nodup
 kx:∀ k∈ks,∃ j,k=[i,j]/\gI am k≠0
 tk:∀ p∈told,∃ a j,p.1=[a,j]/\i<=a+2/\(a+2=i->[i,j]∉ks)
theorem Rw.row {t told am:Zi} {Nn:Nat} {i:Int} (h:Rw t Nn (i+1) [] told am):Rw t Nn i (jW i am) told am where
 tr:=h.tr
 tt:=h.tt
 tn:=h.tn
 v:=h.v
 up:=λa j n=>by
  rcases h.up a j n with z | z
  ·by_cases e:a=i
   ·refine .inr ⟨e,?_⟩;rcases hJ (z:=(0:Int)) [a,j] h.tr.nd with q | q
    ·exact absurd (bN q) n
    ·refine LF.mpr ⟨_,List.mem_filter.mpr ⟨q,?_⟩,rfl⟩;have n':¬ gA 0 am [a,j]=0:=n;simp [yn,e] at n' ⊢;exact n'
   ·exact .inl (by omega)
  ·cases z.2
 kn:=o8 h.tr.nd
 kx:=λk hk=>by
  obtain⟨p,hp,rfl⟩:=LF.mp hk;obtain⟨hp,hb⟩:=List.mem_filter.mp hp;obtain⟨a,j,e,_⟩:=h.tr.sm p hp;have hb:p.1.head?=some i/\p.2≠0:=by simpa [yn] using hb
  rw [e] at hb;have:a=i:=by simpa using hb.1
  refine⟨j,by rw [e,this],?_⟩
  rw [show gI am p.1=p.2 from cm h.tr.nd hp]
  exact hb.2
 tk:=λp hp=>by
  obtain⟨a,j,e,z,_⟩:=h.tk p hp;exact⟨a,j,e,by omega,λy=>by omega⟩
theorem Rw.step {t told am:Zi} {Nn:Nat} {i j:Int} {ks:List (List Int)} (h:Rw t Nn i ([i,j]::ks) told am) (i2:2<=i):[i - 2,j]∉told.map (·.1)/\∃ r1 r2,fk (bc am) [i - 2,j+2] (.int (gI am [i - 2,j+2] - gI am [i,j]))=bc r1/\fk (bc r1) [i,j] (.int 0)=bc r2/\Tg Nn r1/\gI r1 [i,j]=gI am [i,j]/\([i,j],gI am [i,j])∈am/\Rw t Nn i ks (told++[([i - 2,j],gI am [i,j])]) r2:=by
 obtain⟨j',ej,n0⟩:=h.kx [i,j] LL;have hm:([i,j],gI am [i,j])∈am:=by
  rcases hJ (z:=(0:Int)) [i,j] h.tr.nd with q | q
  ·exact absurd (bN q) n0
  ·exact q
 obtain⟨i',j',e,i0,j0,ij⟩:=h.tr.sm _ hm;injection e with e1 e2
 injection e2 with e2 _
 subst e1 e2;have nk:[i - 2,j]∉told.map (·.1):=λz=>by
  obtain⟨p,hp,ep⟩:=LF.mp z;obtain⟨a,b,e,_,y⟩:=h.tk p hp;rw [e] at ep;injection ep with e1 e2
  injection e2 with e2 _
  subst e1 e2;exact y (by omega) LL
 obtain⟨r1,p1,g1,f1⟩:=h.tr.put (i:=i - 2) (j:=j+2) (x:=gI am [i - 2,j+2] - gI am [i,j]) (by omega) (by omega) (by omega)
 obtain⟨r2,p2,g2,f2⟩:=g1.put (i:=i) (j:=j) (x:=0) (by omega) (by omega) (by omega)
 have nl:([i,j]:List Int)≠[i - 2,j+2]:=λz=>by
  injection z with z _
  omega
 have e1:gI r1 [i,j]=gI am [i,j]:=by rw [f1,if_neg nl]
 have nd:=Mn.mp h.kn;refine⟨nk,r1,r2,p1,p2,g1,e1,hm,⟨g2,⟨?_,λp hp=>?_⟩,λp hp=>?_,λX Y=>?_,λa b n=>?_,nd.2,λk hk=>?_,λp hp=>?_⟩⟩
 ·rw [List.map_append,List.nodup_append];refine⟨h.tt.nd,by simp,λa ha b hb=>?_⟩
  have:b=[i - 2,j]:=by simpa using hb
  rw [this];exact λz=>nk (z▸ha)
 ·rcases List.mem_append.mp hp with m | m
  ·exact h.tt.sm p m
  ·have:p=([i - 2,j],gI am [i,j]):=by simpa using m
   rw [this];exact⟨i - 2,j,rfl,by omega,j0,by omega⟩
 ·rcases List.mem_append.mp hp with m | m
  ·exact h.tn p m
  ·have:p=([i - 2,j],gI am [i,j]):=by simpa using m
   rw [this];exact n0
 ·rw [h.v X Y,Cd,Bj g1.ci g2.ci (by omega) (by omega) (by omega) (by omega) f2,Bj h.tr.ci g1.ci (by omega) (by omega) (by omega) (by omega) f1,e1]
  have q1:mn [i,j] X Y=X*X*mn [i - 2,j] X Y:=by
   show X ^ i.toNat*Y ^ j.toNat=X*X*(X ^ (i - 2).toNat*Y ^ j.toNat)
   rw [show i.toNat=(i - 2).toNat+2 by omega,Int.pow_add]
   grind
  have q2:mn [i - 2,j+2] X Y=Y*Y*mn [i - 2,j] X Y:=by
   show X ^ (i - 2).toNat*Y ^ (j+2).toNat=Y*Y*(X ^ (i - 2).toNat*Y ^ j.toNat)
   rw [show (j+2).toNat=j.toNat+2 by omega,Int.pow_add]
   grind
  show _=(vl told X Y+(gI am [i,j]*mn [i - 2,j] X Y+0))*_+_
  rw [q1,q2];generalize mn [i - 2,j] X Y=M;generalize gI am [i,j]=x;generalize gI am [i - 2,j+2]=y;grind
 ·rw [f2] at n
  by_cases e:[a,b]=[i,j]
  ·rw [if_pos e] at n;exact absurd rfl n
  ·rw [if_neg e,f1] at n
   by_cases e':[a,b]=[i - 2,j+2]
   ·injection e' with e' _
    exact .inl (by omega)
   ·rw [if_neg e'] at n;rcases h.up a b n with z | ⟨z,m⟩
    ·exact .inl z
    ·rcases LJ.mp m with y | y
     ·exact absurd y e
     ·exact .inr ⟨z,y⟩
 ·obtain⟨b,ek,n⟩:=h.kx k (LM _ hk);refine⟨b,ek,?_⟩;rw [f2,if_neg (show ¬ k=[i,j] from λz=>nd.1 (z▸hk)),f1,if_neg (show ¬ k=[i - 2,j+2] from λz=>by rw [ek] at z; injection z with z _; omega)]
  exact n
 ·rcases List.mem_append.mp hp with m | m
  ·obtain⟨a,b,e,z,y⟩:=h.tk p m;exact⟨a,b,e,z,λy' m'=>y y' (LM _ m')⟩
  ·have:p=([i - 2,j],gI am [i,j]):=by simpa using m
   rw [this];exact⟨i - 2,j,rfl,by omega,λ_=>nd.1⟩
theorem Fa {t:Zi} (h:∀ p∈t,p.2=0) (X Y:Int):vl t X Y=0:=by
 induction t with
 | nil=>rfl
 | cons p l ih=>
  show p.2*mn p.1 X Y+vl l X Y=0
  rw [h p LL,ih λq hq=>h q (LM _ hq)]
  omega
theorem Rw.none {t told am:Zi} {Nn:Nat} {i:Int} (h:Rw t Nn i [] told am) (i2:i<=2) {p:List Int×Int} (hp:p∈am) (p0:p.2≠0):¬ ∃ f:Int->Int->Int,∀ X Y,1<=X->vl t X Y=f X Y*(X*X+Y*Y):=by
 rintro⟨f,hf⟩;obtain⟨A,B,e⟩:=EF (r:=am) λq hq n=>by
  obtain⟨a,b,eq,a0,_⟩:=h.tr.sm q hq;have:gI am [a,b]≠0:=by rw [<- eq,show gI am q.1=q.2 from cm h.tr.nd hq]; exact n
  rcases h.up a b this with z | z
  ·have:a=0\/a=1:=by omega
   rcases this with rfl | rfl
   ·exact⟨b,.inl eq⟩
   ·exact⟨b,.inr eq⟩
  ·cases z.2
 have z:∀ Y,A Y=0/\B Y=0:=λY=>BS (Y:=Y) (h:=λX=>f X Y - vl told X Y) λX hX=>by
  have h1:=h.v X Y;rw [hf X Y hX,e X Y] at h1;rw [Int.sub_mul];omega
 have:=sk h.tr.ci (Ci.nil (b:=(Nn:Int))) (λX Y _=>by rw [e,(z Y).1,(z Y).2]; show 0+X*0=0; omega) p.1
 rw [show gI am p.1=p.2 from cm h.tr.nd hp] at this
 exact p0 this
theorem yf {m:Int}:k9 m 1=(List.range' 0 (m - 1).toNat).map λk:Nat=>D.int (m - (k:Int)):=by
 unfold k9;rw [List.range_eq_range']
def mV:cH:=λds S k=>∃ (a:MR) (t:Zi) (e Nn:Nat),ds=[.ref a]/\S a=some (bH (bc t) e)/\Tg Nn t/\Nn<=12/\t≠[]/\(∀ S' p ep g,aK S S'->S p=none->Tg (Nn - 2) g->(∀ p∈g,p.2≠0)->(∀ X Y,vl t X Y=vl g X Y*(X*X+Y*Y))->S' p=some (bH (bc g) ep)->k (.ref p) S')/\∀ S',aK S S'->(¬ ∃ h:Int->Int->Int,∀ X Y,1<=X->vl t X Y=h X Y*(X*X+Y*Y))->k .non S'
theorem cP:au ["tops","rest","told","i","keys","key","lower"] ["tops"] (ap jN):=dX
theorem qQ (Fn:FN K "over_round" jN f fd) (cp:bj P w K mg base "degree_of" 1 gF) (fX:mg "dict"=none) (aB:mg "range"=none) (zP:mg "any"=none):
  aT P w K mg base c8 2 f fd ["tops"] (dk K mV):=by
 refine Fn.okJ cP (λds S k h=>?_) (λcdv A outer s H E hr=>⟨_,(af (ai (i:=1) cP.nd (du (vV hr) rfl fX oJ (aG 0 ac))) (af (ai (i:=2) cP.nd eW) (af (lO PassesOwn.never rfl rfl aB (aa (dq cp hr (aG 0 ac)) (aa ae (aa (eE eF ae) ac))) (ar (i:=3) cP.nd) (af (qI (iv:=4) cP.nd rfl (cB (N:=["key","i","rest"]) (cap:=[none,some 3,some 1]) rfl rfl rfl rfl ⟨rfl,rfl,trivial⟩ rfl rfl ⟨⟨rfl,.inl rfl,.inl rfl⟩,⟨rfl,.inl rfl,.inl rfl⟩,trivial⟩) (fJ (ah 1)) (λ_ _ _ _=>(ar (i:=0) (show List.Nodup (["key","i","rest"]:List Str) from by decide +kernel))) (λ_ _ _ _=>(WJ.pt (oP (ax fe (aJ 0) (ah 1) (aA _)) (mC (ax uJ (gG hr (ah 2) (ah 0) Zf) ae (aA _)))))) (λ_ _ _ _=>(ah 0))) (aj (d_ PassesOwn.never rfl (ah 4) (ar (i:=5) cP.nd) (af (ai (i:=6) cP.nd (aq (aa (aw gz (ah 3) ae) (aa (aw cS (aJ 5) ae) ac)))) (af (cD (gG hr (ah 1) (ah 5) Zf) (dQ hr (ah 2) (aq (aa (aw gz (ah 3) ae) (aa (aJ 5) ac))))) (af (cD (aw gz (oQ hr (ah 1) (ah 6) ae) (gG hr (ah 1) (ah 5) Zf)) (dQ hr (ah 1) (ah 6))) (aj (cD ae (dQ hr (ah 1) (ah 5))))))))))) (aj (ao (uV (iu (bp GZ rfl zP Gi (aa (i7 rfl (cB (N:=["top"]) (cap:=[none]) rfl rfl rfl rfl trivial rfl rfl trivial) (xl (ah 1)) (λ_ _ _ _=>(ar (i:=0) (show List.Nodup (["top"]:List Str) from by decide +kernel))) (λ_ _ _ _=>(lE uJ (ah 0) ae (aA _)))) ac))) fu (ah 2))))))),λds S k h=>?_⟩)
 ·obtain⟨_,_,_,_,rfl,_⟩:=h
  rfl
 ·obtain⟨a,t,e,Nn,rfl,ha,ht,d4,t0,w,w0⟩:=h;have len:∀ {c:Zi},Tg Nn c->c.length<=169:=λh=>Mi (Ci.len h.ci) (Nat.mul_le_mul (show Nn+1<=13 by omega) (show Nn+1<=13 by omega))
  have len2:∀ {c:Zi},Tg (Nn - 2) c->c.length<=169:=λh=>Mi (Ci.len h.ci) (Nat.mul_le_mul (show Nn - 2+1<=13 by omega) (show Nn - 2+1<=13 by omega))
  have lt:=len ht;refine .inl ⟨_,_,ha,(ht.ci.up (by omega)).hash,λp1 hp1 e1=>λp2 hp2 e2=>?_⟩
  have n21:p2≠p1:=λz=>by rw [z,ak] at hp2; cases hp2
  have hp2':S p2=none:=by rw [bI n21] at hp2; exact hp2
  have X2:aK S (put (put S p1 (bH (bc t) e1)) p2 (bH (bc []) e2)):=(aK.new hp1).trans (aK.new hp2);refine⟨a,t,e,rfl,X2 _ _ ha,by omega,λp hp=>?_,λz=>(t0 z).elim,λS1 m x1 hd=>?_⟩
  ·obtain⟨i,j,e,i0,j0,ij⟩:=ht.sm p hp;exact⟨i,j,e,i0,j0,by omega,by omega⟩
  have mb:0<=m/\m<=12:=by
   obtain⟨⟨p,hp,ep⟩,_⟩:=hd;obtain⟨i,j,e,i0,j0,ij⟩:=ht.sm p hp;rw [e] at ep;have ep:i+j=m:=ep;omega
  have R0:Rw t Nn (m+1) [] [] t:=⟨ht,⟨List.nodup_nil,λp h=>(nomatch h)⟩,λp h=>(nomatch h),λX Y=>by show _=0*_+_; omega,λa j n=>by
   rcases hJ (z:=(0:Int)) [a,j] ht.nd with q | q
   ·exact absurd (bN q) n
   ·obtain⟨i',j',e',i0,j0,ij⟩:=ht.sm _ q;have:=hd.2 _ q;have this:a+j<=m:=this;injection e' with e1 e2
    injection e2 with e2 _
    exact .inl (by omega),List.nodup_nil,λk h=>(nomatch h),λp h=>(nomatch h)⟩
  refine⟨rfl,⟨by omega,by omega,by decide,by decide⟩,?_⟩
  rw [yf];have h11:S1 p1=some (bH (bc t) e1):=x1 _ _ (by rw [bI (Ne.symm n21)]; exact ak)
  have h12:S1 p2=some (bH (bc []) e2):=x1 _ _ ak;refine aL (λr L S'=>aK S S'/\∃ (s:Nat) (told am:Zi) (e3 e4:Nat) (l3 l4 l5 l6:MS D),s<=(m - 1).toNat/\r=(List.range' s ((m - 1).toNat - s)).map (λk:Nat=>D.int (m - (k:Int)))/\L=[some (.ref a),some (.ref p1),some (.ref p2),l3,l4,l5,l6]/\S' p1=some (bH (bc am) e3)/\S' p2=some (bH (bc told) e4)/\Rw t Nn (m - s+1) [] told am) (λ_ _ _ _=>trivial) ?_ ?_ _ _ _ ⟨X2.trans x1,0,[],t,e1,e2,none,none,none,none,Mw _,rfl,rfl,h11,h12,by rw [show m - ((0:Nat):Int)+1=m+1 by omega]; exact R0⟩
  ·rintro dd r L S3 N1 ⟨x3,s,told,am,e3,e4,l3,l4,l5,l6,hs,er,rfl,h31,h32,hR⟩ hN;cases hds:(m - 1).toNat - s with
   | zero=>rw [hds] at er; cases er
   | succ s'=>
    rw [hds,List.range'_succ,LP] at er;cases er;refine⟨_,_,h31,λp4 hp4=>?_⟩
    rw [ER];refine oz (S:=S3) (i:=m - (s:Int)) hp4 h31 hR.tr.nd (λp hp=>by obtain⟨i,j,e,_⟩:=hR.tr.sm p hp; exact⟨i,j,e⟩) (λS4 x4 h4=>?_) am [] none _ rfl (aK.new hp4) ak (by have:=len hR.tr; omega)
    have n41:p4≠p1:=λz=>by rw [z,h31] at hp4; cases hp4
    have n42:p4≠p2:=λz=>by rw [z,h32] at hp4; cases hp4
    refine⟨((jW (m - (s:Int)) am).map cz,some p4),by show(match S4 p4 with | some (.lst ds)=>some (ds,some p4) | _=>none)=_; rw [h4],?_⟩
    refine aL (λr L S'=>aK S S'/\∃ (ks:List (List Int)) (told rest':Zi) (e3 e4:Nat) (l5 l6:MS D),r=ks.map cz/\L=[some (.ref a),some (.ref p1),some (.ref p2),some (.int (m - (s:Int))),some (.ref p4),l5,l6]/\S' p4=some (.lst ((jW (m - (s:Int)) am).map cz))/\S' p1=some (bH (bc rest') e3)/\S' p2=some (bH (bc told) e4)/\Rw t Nn (m - s) ks told rest') (λr L S' h=>?_) ?_ ?_ _ _ _ ⟨x3.trans x4,jW (m - (s:Int)) am,told,am,e3,e4,l5,l6,rfl,rfl,h4,x4 _ _ h31,x4 _ _ h32,Rw.row hR⟩
    ·obtain⟨_,_,_,_,_,_,_,_,_,_,h,_⟩:=h;exact h
    ·rintro dd r L S5 N2 ⟨x5,ks,told5,rest5,e5,e6,l5,l6,er,rfl,h54,h51,h52,hR5⟩ hN2;cases ks with
     | nil=>cases er
     | cons kq ks=>
      cases er;obtain⟨j,ek,_⟩:=hR5.kx kq LL;subst ek;obtain⟨nk,r1,r2,q1,q2,g1,ge,hm,hR6⟩:=hR5.step (by omega)
      have l5':=len hR5.tr;have l6':=len2 hR5.tt;have l7':=len g1;have G:∀ k,(de (bc rest5) k).getD (D.int 0)=D.int (gI rest5 k):=λk=>oG (f:=D.int) (z:=0)
      refine⟨few,_,_,[m - (s:Int),j],_,h51,rfl,dI hR5.tr.nd hm,few,_,_,[m - (s:Int) - 2,j],h52,rfl,by rw [cG]; exact lim (by omega),λe7=>?_⟩
      have h61:put S5 p2 (bH (fk (bc told5) [m - (s:Int) - 2,j] (D.int (gI rest5 [m - (s:Int),j]))) e7) p1=some (bH (bc rest5) e5):=by rw [bI (Ne.symm n21)]; exact h51
      refine⟨⟨_,_,h61⟩,_,_,[m - (s:Int) - 2,j+2],h61,rfl,?_⟩;rw [G];refine⟨_,_,[m - (s:Int),j],_,h61,rfl,dI hR5.tr.nd hm,?_⟩;refine⟨_,_,[m - (s:Int) - 2,j+2],h61,rfl,by rw [cG]; exact lim (by omega),λe8=>?_⟩
      refine⟨_,_,[m - (s:Int),j],ak,rfl,?_,λe9=>?_⟩
      ·show(fk (bc rest5) _ _).length < _
       rw [q1,cG];exact lim (by omega)
      refine hN2 _ _ ⟨((x5.put hp2').put hp1).put hp1,ks,told5++[([m - (s:Int) - 2,j],gI rest5 [m - (s:Int),j])],r2,e9,e7,_,_,rfl,rfl,by rw [bI n41,bI n41,bI n42]; exact h54,?_,?_,hR6⟩
      ·rw [ak]
       show some (bH (fk (fk (bc rest5) _ _) _ _) e9)=_
       rw [q1,q2]
      ·rw [bI n21,bI n21,ak];have z:=fO (f:=D.int) (x:=gI rest5 [m - (s:Int),j]) nk;rw [z]
    ·rintro L S5 ⟨x5,ks,told5,rest5,e5,e6,l5,l6,er,rfl,h54,h51,h52,hR5⟩;cases ks with
     | cons kq ks=>cases er
     | nil=>exact hN _ _ ⟨x5,s+1,told5,rest5,e5,e6,_,_,_,_,by omega,by rw [show (m - 1).toNat - (s+1)=s' by omega],rfl,h51,h52,by rw [show m - ((s+1:Nat):Int)+1=m - (s:Int) by omega]; exact hR5⟩
  ·rintro L S3 ⟨x3,s,told,am,e3,e4,l3,l4,l5,l6,hs,er,rfl,h31,h32,hR⟩;cases hds:(m - 1).toNat - s with
   | succ s'=>rw [hds,List.range'_succ] at er; cases er
   | zero=>
    have i2:m - (s:Int)+1<=2:=by omega
    refine⟨_,_,h31,λp8 hp8=>?_⟩
    rw [show sB oN.v (bc am)=am.map λx=>D.int x.2 by show List.map _ (List.map _ am)=_; rw [Mk]; rfl]
    refine xf (S:=S3) hp8 h31 (λS4 x4 h4=>?_) am [] none _ rfl (aK.new hp8) ak (by have:=len hR.tr; omega)
    refine⟨(_,some p8),am.map λx=>!decide (x.2=0),by show(match S4 p8 with | some (.lst ds)=>some (ds,some p8) | _=>none)=_; rw [h4],rfl,rH (λt1=>?_) (λt1=>?_)⟩
    ·rw [List.any_map] at t1;obtain⟨p,hp,pb⟩:=List.any_eq_true.mp t1;exact w0 S4 (x3.trans x4) (hR.none i2 hp (by simpa using pb))
    ·refine w S4 p2 e4 told (x3.trans x4) hp2' hR.tt hR.tn (λX Y=>?_) (x4 _ _ h32)
     rw [hR.v X Y,Fa (t:=am) λp hp=>?_,Int.add_zero]
     rw [List.any_map] at t1;have:=List.any_eq_false.mp t1 p hp
     simpa using this
abbrev oy (Q:Int):Zi:=[([2,0],Q),([0,2],Q)]
theorem tJ {Q:Int}:Ci 2 (oy Q):=⟨by show([[2,0],[0,2]]:List (List Int)).Nodup; decide,λp hp=>by
 simp only [oy,LJ,LU,or_false] at hp;rcases hp with rfl | rfl
 ·exact⟨2,0,rfl,by decide,by decide,by decide,by decide⟩
 ·exact⟨0,2,rfl,by decide,by decide,by decide,by decide⟩⟩
theorem Eb {Q X Y:Int}:vl (oy Q) X Y=Q*(X*X+Y*Y):=by
 show Q*(X ^ 2*Y ^ 0)+(Q*(X ^ 0*Y ^ 2)+0)=_
 grind
theorem Tg.two {N:Nat} {t:Zi} (h:Tg N t):∀ p∈t,∃ i j,p.1=[i,j]:=λp hp=>by
 obtain⟨i,j,e,_⟩:=h.sm p hp;exact⟨i,j,e⟩
theorem Dt {p:List Int×Int} {i0 j0:Int} (e:p.1=[i0,j0]) {i j s:Int}:eG p (oy 1) [i,j] s=s+(if p.1=[i - 2,j] then p.2 else 0)+(if p.1=[i,j - 2] then p.2 else 0):=by
 have a1:(vU p.1 [2,0]=[i,j])↔p.1=[i - 2,j]:=by
  rw [e]
  show [i0+2,j0+0]=[i,j]↔_
  simp only [List.cons.injEq,and_true];omega
 have a2:(vU p.1 [0,2]=[i,j])↔p.1=[i,j - 2]:=by
  rw [e]
  show [i0+0,j0+2]=[i,j]↔_
  simp only [List.cons.injEq,and_true];omega
 show s+(if vU p.1 [2,0]=[i,j] then p.2*1 else 0)+(if vU p.1 [0,2]=[i,j] then p.2*1 else 0)=_
 simp only [a1,a2,Int.mul_one]
theorem xF:∀ {g:Zi} {s i j:Int},(g.map (·.1)).Nodup->(∀ p∈g,∃ i j,p.1=[i,j])->g.foldl (λs p=>eG p (oy 1) [i,j] s) s=s+gI g [i - 2,j]+gI g [i,j - 2]
 | [],s,i,j,_,_=>by show s=s+0+0; omega
 | p::g,s,i,j,nd,h=>by
  obtain⟨i0,j0,e⟩:=h p LL;have nd':=Mn.mp nd
  show g.foldl (λs p=>eG p (oy 1) [i,j] s) (eG p (oy 1) [i,j] s)=_
  rw [xF nd'.2 λq hq=>h q (LM _ hq),Dt e,oH nd'.1,oH nd'.1]
  omega
theorem pW {N:Nat} {t g:Zi} (ht:Tg N t) (hg:Tg (N - 2) g) (v:∀ X Y,vl t X Y=vl g X Y*(X*X+Y*Y)) (i j:Nat):gI t [(i:Int),(j:Int)]=gI g [(i:Int) - 2,j]+gI g [(i:Int),(j:Int) - 2]:=by
 have hn:((N:Nat):Int) < ((N+i+j+3:Nat):Int):=by omega
 have z:=xG (n:=N+i+j+3) (f:=λi j=>g.foldl (λs p=>eG p (oy 1) [(i:Int),(j:Int)] s) (-(gI t [(i:Int),(j:Int)]))) (λX Y _=>by
  have h1:=wN (n:=N+i+j+3) (b:=((N - 2:Nat):Int)) (b':=2) (X:=X) (Y:=Y) (l':=oy 1) (by omega) (tJ (Q:=1)).sm (l:=g) (φ:=λi j=>-(gI t [(i:Int),(j:Int)])) hg.ci.sm
  have h2:gv (N+i+j+3) (λi j=>gI t [(i:Int),(j:Int)]+-(gI t [(i:Int),(j:Int)])) X Y=gv (N+i+j+3) (λi j=>gI t [(i:Int),(j:Int)]) X Y+gv (N+i+j+3) (λi j=>-(gI t [(i:Int),(j:Int)])) X Y:=nj
  rw [show (λi j:Nat=>gI t [(i:Int),(j:Int)]+-(gI t [(i:Int),(j:Int)]))=λ_ _=>0 from funext λ_=>funext λ_=>by omega,Ir,<- ke hn ht.ci] at h2
  rw [h1,Eb,Int.one_mul,<- v X Y];omega) (i:=i) (j:=j) (by omega) (by omega)
 have z:g.foldl (λs p=>eG p (oy 1) [(i:Int),(j:Int)] s) (-(gI t [(i:Int),(j:Int)]))=0:=z
 rw [xF hg.nd hg.two] at z;omega
theorem xw {N M:Nat} {t g:Zi} (ht:Tg N t) (hg:Tg (N - 2) g) (v:∀ X Y,vl t X Y=vl g X Y*(X*X+Y*Y)) (bt:∀ k,(gI t k).natAbs<=M):∀ (j i:Nat),(gI g [(i:Int),(j:Int)]).natAbs<=(j / 2+1)*M
 | 0,i=>by
  have h:=pW ht hg v (i+2) 0;have b:=bt [((i+2:Nat):Int),((0:Nat):Int)];have z:gI g [((i+2:Nat):Int),((0:Nat):Int) - 2]=0:=bN λq=>by
   obtain⟨p,hp,e⟩:=LF.mp q;obtain⟨x,y,e2,x0,y0,_⟩:=hg.sm p hp;rw [e2] at e;simp only [List.cons.injEq,and_true] at e;omega
  rw [z,show((i+2:Nat):Int) - 2=(i:Int) by omega] at h
  show(gI g [(i:Int),((0:Nat):Int)]).natAbs<=1*M
  omega
 | 1,i=>by
  have h:=pW ht hg v (i+2) 1;have b:=bt [((i+2:Nat):Int),((1:Nat):Int)];have z:gI g [((i+2:Nat):Int),((1:Nat):Int) - 2]=0:=bN λq=>by
   obtain⟨p,hp,e⟩:=LF.mp q;obtain⟨x,y,e2,x0,y0,_⟩:=hg.sm p hp;rw [e2] at e;simp only [List.cons.injEq,and_true] at e;omega
  rw [z,show((i+2:Nat):Int) - 2=(i:Int) by omega] at h
  show(gI g [(i:Int),((1:Nat):Int)]).natAbs<=1*M
  omega
 | j+2,i=>by
  have h:=pW ht hg v (i+2) (j+2);have b:=bt [((i+2:Nat):Int),((j+2:Nat):Int)];have ih:=xw ht hg v bt j (i+2);rw [show ((i+2:Nat):Int) - 2=(i:Int) by omega,show((j+2:Nat):Int) - 2=(j:Int) by omega] at h
  have e:((j+2) / 2+1)*M=(j / 2+1)*M+M:=by
   rw [show (j+2) / 2+1=j / 2+1+1 by omega,Nat.add_mul (j / 2+1) 1,Nat.one_mul]
  rw [e];omega
theorem CT {N n:Nat} {t g:Zi} (ht:Tg N t) (hg:Tg (N - 2) g) (hN:N<=13) (v:∀ X Y,vl t X Y=vl g X Y*(X*X+Y*Y)) (bt:∀ p∈t,Bt n p.2):∀ p∈g,Bt (n+3) p.2:=λp hp=>by
 obtain⟨i,j,e,i0,j0,ij⟩:=hg.sm p hp;have bk:∀ k,(gI t k).natAbs<=2 ^ n:=λk=>by
  rcases hJ (z:=(0:Int)) k ht.nd with x | x
  ·rw [show gI t k=0 from bN x]
   exact Mw _
  ·exact Nat.le_of_lt (bt _ x)
 have h:=xw (M:=2 ^ n) ht hg v bk j.toNat i.toNat;rw [show ((i.toNat:Nat):Int)=i by omega,show((j.toNat:Nat):Int)=j by omega,<- e,show gI g p.1=p.2 from cm hg.nd hp] at h
 have h2:(j.toNat / 2+1)*2 ^ n<=7*2 ^ n:=Nat.mul_le_mul_right _ (by omega)
 have h3:0 < 2 ^ n:=Nat.pow_pos (by decide)
 show p.2.natAbs < 2 ^ (n+3)
 rw [Nat.pow_add];omega
def JG (g:Zi):Prop:=¬ ∃ h:Int->Int->Int,∀ X Y,1<=X->vl g X Y=h X Y*(X*X+Y*Y)
theorem El:∀ {t:Zi},(∀ p∈t,∃ i j:Int,p.1=[i,j]/\0<=i/\0<=j/\i+j<=1)->∃ A B C:Int,∀ X Y,vl t X Y=A+B*X+C*Y
 | [],_=>⟨0,0,0,λX Y=>by show(0:Int)=_; omega⟩
 | p::t,h=>by
  obtain⟨A,B,C,e⟩:=El λq hq=>h q (LM _ hq)
  obtain⟨i,j,ek,i0,j0,ij⟩:=h p LL;have cs:(i=0/\j=0)\/(i=1/\j=0)\/(i=0/\j=1):=by omega
  rcases cs with ⟨rfl,rfl⟩ | ⟨rfl,rfl⟩ | ⟨rfl,rfl⟩
  ·refine⟨A+p.2,B,C,λX Y=>?_⟩
   show p.2*mn p.1 X Y+vl t X Y=_
   rw [ek,e X Y]
   show p.2*(X ^ 0*Y ^ 0)+_=_
   grind
  ·refine⟨A,B+p.2,C,λX Y=>?_⟩
   show p.2*mn p.1 X Y+vl t X Y=_
   rw [ek,e X Y]
   show p.2*(X ^ 1*Y ^ 0)+_=_
   grind
  ·refine⟨A,B,C+p.2,λX Y=>?_⟩
   show p.2*mn p.1 X Y+vl t X Y=_
   rw [ek,e X Y]
   show p.2*(X ^ 0*Y ^ 1)+_=_
   grind
theorem Ip {g:Zi} (h:Tg 0 g):g=[]\/∃ c,g=[([0,0],c)]:=by
 have k0:∀ p∈g,p.1=[0,0]:=λp hp=>by
  obtain⟨i,j,e,i0,j0,ij⟩:=h.sm p hp;have i1:i=0:=by omega
  have j1:j=0:=by omega
  rw [e,i1,j1]
 match g,h.nd,k0 with
 | [],_,_=>exact .inl rfl
 | [p],_,k0=>exact .inr ⟨p.2,by rw [<- k0 p LL]⟩
 | p::q::r,nd,k0=>
  have e1:=k0 p LL;have e2:=k0 q (LM _ LL);have:p.1∉(q::r).map (·.1):=(Mn.mp nd).1;exact absurd (by rw [e1,<- e2]; exact LL) this
theorem Ha {t g:Zi} {Nn:Nat} (ht:Tg Nn t) (hn:Nn < 2) (nz:∀ p∈g,p.2≠0) (hg:Tg (Nn - 2) g) (v:∀ X Y,vl t X Y=vl g X Y*(X*X+Y*Y)):g=[]:=by
 obtain⟨A,B,C,e⟩:=El (t:=t) λp hp=>by
  obtain⟨i,j,e,i0,j0,ij⟩:=ht.sm p hp;exact⟨i,j,e,i0,j0,by omega⟩
 rw [show Nn - 2=0 by omega] at hg
 rcases Ip hg with z | ⟨c,rfl⟩
 ·exact z
 ·have vc:∀ X Y,vl [([0,0],c)] X Y=c:=λX Y=>by
   show c*(X ^ 0*Y ^ 0)+0=c
   grind
  have a0:=v 0 0;have a1:=v 1 0;have a2:=v (-1) 0;rw [e,vc] at a0 a1 a2
  have c0:c=0:=by omega
  exact absurd c0 (nz _ LL)
def KM (S:DH) (t:Zi) (Nn n:Nat):Nat->Lo->DH->Prop:=λm L S'=>aK S S'/\((∃ (q:MR) (tt:Zi) (e r:Nat) (l0:MS D),m=Nn - 2*r+1/\2*r<=Nn/\L=[l0,some (.ref q)]/\S' q=some (bH (bc tt) e)/\Tg (Nn - 2*r) tt/\tt≠[]/\(∀ p∈tt,p.2≠0)/\(∀ p∈tt,Bt (n+3*r) p.2)/\∀ X Y,vl t X Y=vl tt X Y*(X*X+Y*Y) ^ r)\/(∃ (q:MR) (g:Zi) (e r:Nat),m=0/\2*r<=Nn/\L=[some (.ref q),some .non]/\S' q=some (bH (bc g) e)/\Tg (Nn - 2*r) g/\g≠[]/\(∀ p∈g,p.2≠0)/\(∀ p∈g,Bt (n+3*r) p.2)/\JG g/\∀ X Y,vl t X Y=vl g X Y*(X*X+Y*Y) ^ r))
def iU:cH:=λds S k=>∃ (a:MR) (t:Zi) (e Nn n:Nat),ds=[.ref a]/\S a=some (bH (bc t) e)/\Tg Nn t/\Nn<=12/\t≠[]/\(∀ p∈t,p.2≠0)/\(∀ p∈t,Bt n p.2)/\∀ S' p ep g r,aK S S'->2*r<=Nn->Tg (Nn - 2*r) g->g≠[]->(∀ p∈g,p.2≠0)->(∀ p∈g,Bt (n+3*r) p.2)->JG g->(∀ X Y,vl t X Y=vl g X Y*(X*X+Y*Y) ^ r)->S' p=some (bH (bc g) ep)->k (.ref p) S'
theorem df:au ["tops","rest"] ["tops"] (ap ft):=dX
theorem lV (Fn:FN K "without_rounds" ft f fd) (je:bj P w K mg base "over_round" 2 mV):
  aT P w K mg base c8 3 f fd ["tops"] (dk K iU):=by
 refine Fn.okJ df (λds S k h=>?_) (λcdv A outer s H E hr=>⟨_,(af (ai (i:=1) df.nd (ah 0)) (af (lu PassesOwn.never (ax oR (ah 1) fu (aA _)) (af (ai (i:=0) df.nd (ah 1)) (aj (ai (i:=1) df.nd (dq je hr (aG 0 ac)))))) (aj (ao (ah 0))))),λds S k h=>?_⟩)
 ·obtain⟨_,_,_,_,_,rfl,_⟩:=h
  rfl
 ·obtain⟨a,t,e,Nn,n,rfl,ha,ht,n12,tne,nz,bt,w⟩:=h;refine⟨KM S t Nn n,⟨Nn+1,aK.refl _,.inl ⟨a,t,e,0,_,rfl,by omega,rfl,ha,ht,tne,nz,bt,λX Y=>by rw [Int.pow_zero,Int.mul_one]⟩⟩,?_⟩
  rintro m L S' ⟨x,⟨q,tt,e,r,l0,rfl,hr,rfl,hq,htt,tne',nz',bt',v⟩ | ⟨q,g,e,r,rfl,hr,rfl,hq,hg,gne,gnz,gbt,nr,v⟩⟩
  ·refine⟨λL' S''=>∃ m',m' < Nn - 2*r+1/\KM S t Nn n m' L' S'',λ_ _ z=>z,?_⟩
   refine⟨q,tt,e,Nn - 2*r,rfl,hq,htt,by omega,tne',λS2 p ep g x2 hp hg nzg vg hpg=>?_,λS2 x2 nd=>?_⟩
   ·have gne:g≠[]:=by
     rintro rfl;obtain⟨p0,hp0⟩:=List.exists_mem_of_ne_nil _ tne';have z:∀ k,gI tt k=gI [] k:=sk htt.ci (Ci.nil (b:=((Nn - 2*r:Nat):Int))) λX Y _=>by rw [vg X Y]; show 0*_=0; rw [Int.zero_mul]
     have h1:gI tt p0.1=p0.2:=cm htt.nd hp0;rw [z] at h1;exact nz' p0 hp0 h1.symm
    by_cases h2:Nn - 2*r < 2
    ·exact absurd (Ha htt h2 nzg hg vg) gne
    ·refine⟨Nn - 2*(r+1)+1,by omega,x.trans x2,.inl ⟨p,g,ep,r+1,_,rfl,by omega,rfl,hpg,by rw [show Nn - 2*(r+1)=Nn - 2*r - 2 by omega]; exact hg,gne,nzg,λp hp=>(CT htt hg (by omega) vg bt' p hp).mono,λX Y=>?_⟩⟩
     rw [v X Y,vg X Y,Int.pow_succ,Int.mul_assoc,Int.mul_comm (X*X+Y*Y)]
   ·exact⟨0,by omega,x.trans x2,.inr ⟨q,tt,e,r,rfl,hr,rfl,x2 _ _ hq,htt,tne',nz',bt',nd,v⟩⟩
  ·exact w S' q e g r x hr hg gne gnz gbt nr v hq
def mQ (P:Int) (s:Nat) (l:Zi):Zi:=(l.filter λp=>decide (dg p.1=(s:Int))).map λp=>(p.1,p.2*P ^ s)
theorem j7 {P:Int} {s:Nat} {l:Zi}:(mQ P s l).map (·.1)=(l.filter λp=>decide (dg p.1=(s:Int))).map (·.1):=by
 unfold mQ;rw [Mk]
 rfl
theorem Bn {P:Int} {s:Nat} {l:Zi} (nd:(l.map (·.1)).Nodup) (k:List Int):gI (mQ P s l) k=if dg k=(s:Int) then gI l k*P ^ s else 0:=by
 have nd':((mQ P s l).map (·.1)).Nodup:=by rw [j7]; exact o8 nd
 by_cases h:dg k=(s:Int)
 ·rw [if_pos h];rcases hJ (z:=(0:Int)) k nd with q | q
  ·rw [show gI l k=0 from bN q,Int.zero_mul]
   refine bN λz=>q ?_
   rw [j7] at z;obtain⟨p,hp,e⟩:=LF.mp z;exact LF.mpr ⟨p,(List.mem_filter.mp hp).1,e⟩
  ·exact cm nd' (LF.mpr ⟨_,List.mem_filter.mpr ⟨q,by simpa using h⟩,rfl⟩)
 ·rw [if_neg h];refine bN λz=>h ?_
  rw [j7] at z;obtain⟨p,hp,e⟩:=LF.mp z;have:=(List.mem_filter.mp hp).2;rw [e] at this
  simpa using this
theorem F9 {P:Int} {s:Nat} {l:Zi} {b:Int} (h:Ci b l):Ci (s:Int) (mQ P s l):=⟨by rw [j7]; exact o8 h.nd,λp hp=>by
 obtain⟨q,hq,rfl⟩:=LF.mp hp;obtain⟨hq,hs⟩:=List.mem_filter.mp hq;obtain⟨i,j,e,i0,j0,i1,j1⟩:=h.sm q hq;rw [e] at hs;have hs:i+j=(s:Int):=of_decide_eq_true hs;exact⟨i,j,e,i0,j0,by omega,by omega⟩⟩
theorem uS {P:Int} {s:Nat} {l:Zi} {q:List Int×Int}:mQ P s (l++[q])=if dg q.1=(s:Int) then mQ P s l++[(q.1,q.2*P ^ s)] else mQ P s l:=by
 unfold mQ;rw [List.filter_append,List.map_append]
 by_cases h:dg q.1=(s:Int) <;> simp [h]
def tO (t:Zi) (P Q X Y:Int):Nat->Int
 | 0=>0
 | s+1=>tO t P Q X Y s*(Q*(X*X+Y*Y))+vl (mQ P s t) X Y
theorem zz {g:Zi} {b lo hi Q:Int} {k:List Int} (hg:Ci b g) (h:∀ k,gI g k≠0->lo<=dg k/\dg k<=hi) (n:kT g (oy Q) k≠0):lo+2<=dg k/\dg k<=hi+2:=by
 refine Decidable.byContradiction λc=>n (nI λp hp q hq=>?_)
 unfold t5
 by_cases e:vU p.1 q.1=k
 ·by_cases p0:p.2=0
  ·rw [p0,Int.zero_mul]
   split <;> rfl
  ·exfalso
   obtain⟨i,j,ek,_⟩:=hg.sm p hp;have h1:=h p.1 (by rw [show gI g p.1=p.2 from cm hg.nd hp]; exact p0)
   rw [ek] at h1 e
   have h1:lo<=i+j/\i+j<=hi:=h1;refine c ?_;rw [<- e];simp only [oy,LJ,LU,or_false] at hq;rcases hq with rfl | rfl
   ·show lo+2<=i+2+(j+0)/\i+2+(j+0)<=hi+2
    omega
   ·show lo+2<=i+0+(j+2)/\i+0+(j+2)<=hi+2
    omega
 ·rw [if_neg e]
def iD:cH:=λds S k=>∃ (a:MR) (t:Zi) (e:Nat) (P Q:Int) (n d z:Nat),ds=[.ref a,.tup [.int P,.int Q]]/\S a=some (bH (bc t) e)/\Tg d t/\lC t d/\d<=6/\(∀ p∈t,p.2≠0)/\P≠0/\Q≠0/\(∀ p∈t,Bt n p.2)/\n<=80000/\Bt 400 P/\Bt 400 Q/\∀ S' p ep g r,aK S S'->2*r<=2*d->Tg (2*d - 2*r) g->g≠[]->(∀ p∈g,p.2≠0)->(∀ p∈g,Bt (n+6600+3*r) p.2)->JG g->(∀ X Y,tO t P Q X Y (d+1)=vl g X Y*(X*X+Y*Y) ^ r)->S' p=some (bH (bc g) ep)->k (.ref p) S'
theorem be:au ["tops","power","degree","powers","grown_round","told","level","part","key","top"] ["tops","power"] (ap iI):=dX
theorem pE (Fn:FN K "turned_over" iI f fd) (cp:bj P w K mg base "degree_of" 1 gF) (cX:bj P w K mg base "powers_up_to" 1 ia) (cO:bj P w K mg base "sum_of_tops" 1 iG) (bF:bj P w K mg base "product_of_tops" 1 eO) (fz:bj P w K mg base "without_rounds" 3 iU) (a_:bj P w K mg base "without_nought_tops" 1 db) (aB:mg "range"=none):
  aT P w K mg base c8 4 f fd ["tops","power"] (dk K iD):=by
 refine Fn.okJ be (λds S k h=>?_) (λcdv A outer s H E hr=>⟨_,(af (ai (i:=2) be.nd (dq cp hr (aG 0 ac))) (af (ai (i:=3) be.nd (dq cX hr (aa (aJ 1) (aG 2 ac)))) (af (ai (i:=4) be.nd (fF hr (br (aq (aa ae (aa ae ac))) (aJ 1) (br (aq (aa ae (aa ae ac))) (aJ 1) iM)))) (af (ai (i:=5) be.nd eW) (af (cV PassesOwn.never rfl rfl aB (aa (aw cS (ah 2) ae) ac) (ar (i:=6) be.nd) (af (ai (i:=7) be.nd eW) (af (da PassesOwn.never rfl (gU (ah 0)) (gC (n:=2) rfl (aW (ar (i:=8) be.nd) (aW (ar (i:=9) be.nd) eY))) (aj (aE (ax fe (aw cS (aJ 8) (aJ 8)) (ah 6) (aA _)) (aj (cD (aw bK (ah 9) (bq bG (ah 3) (ah 6) Zf)) (dQ hr (ah 7) (ah 8)))) aF))) (aj (ai (i:=5) be.nd (dq cO hr (aa (dq bF hr (aG 5 (aG 4 ac))) (aG 7 ac)))))))) (aj (ao (dq fz hr (aa (dq a_ hr (aG 5 ac)) ac))))))))),λds S k h=>?_⟩)
 ·obtain⟨_,_,_,_,_,_,_,_,rfl,_⟩:=h
  rfl
 ·obtain⟨a,t,e,P,Q,n,d,z,rfl,ha,ht,hd,d2,tnz,P0,Q0,bt,hn,bP,bQ,w⟩:=h;have h2:Ci 6 t:=ht.ci.up (by omega)
  have lt:t.length<=49:=Ci.len (b:=6) h2;refine⟨a,t,e,rfl,ha,by omega,λp hp=>?_,λz=>?_,λS1 d' x1 hd'=>?_⟩
  ·obtain⟨i,j,e,i0,j0,i1,j1⟩:=h2.sm p hp;exact⟨i,j,e,i0,j0,by omega,by omega⟩
  ·obtain⟨⟨p,hp,_⟩,_⟩:=hd;rw [z] at hp;cases hp
  have ed:=hd'.uniq hd;subst ed;refine⟨P,d,rfl,by omega,bP.mono,λS2 p3 x2 h3 hp3=>λp4 hp4 e4=>⟨few,few,e4,bc (oy Q),ak,rfl,by show 2<=15; decide,λe5=>λp5 hp5 e6=>⟨⟨by omega,by omega⟩,?_⟩⟩⟩
  have X2:aK S S2:=x1.trans x2;have X4:aK S2 (put (put (put S2 p4 (.gen (.dT [] e4))) p4 (.gen (.dT (aZ [] (bc (oy Q))) e5))) p5 (.gen (.dT [] e6))):=((aK.new hp4).put hp4).trans (aK.new hp5);have h5:put (put (put S2 p4 (.gen (.dT [] e4))) p4 (.gen (.dT (aZ [] (bc (oy Q))) e5))) p5 (.gen (.dT [] e6)) p5=some (bH (bc []) e6):=ak;have h4:put (put (put S2 p4 (.gen (.dT [] e4))) p4 (.gen (.dT (aZ [] (bc (oy Q))) e5))) p5 (.gen (.dT [] e6)) p4=some (bH (bc (oy Q)) e5):=by
   rw [aI hp5 ak,dZ (f:=D.int) (l:=oy Q) tJ.nd]
  rw [show ((d:Int)+1).toNat=d+1 by omega,List.range_eq_range']
  generalize put (put (put S2 p4 (.gen (.dT [] e4))) p4 (.gen (.dT (aZ [] (bc (oy Q))) e5))) p5 (.gen (.dT [] e6))=S4 at X4 h4 h5 ⊢
  refine aL (λr L S'=>aK S4 S'/\∃ (s:Nat) (g:Zi) (q:MR) (eq:Nat) (l6 l7 l8 l9:MS D),s<=d+1/\r=(List.range' s (d+1 - s)).map (λk:Nat=>D.int (k:Int))/\L=[some (.ref a),some (.tup [.int P,.int Q]),some (.int d),some (.ref p3),some (.ref p4),some (.ref q),l6,l7,l8,l9]/\S' q=some (bH (bc g) eq)/\Ci (2*(s:Int) - 2) g/\(∀ p∈g,Bt (n+s*900) p.2)/\(∀ X Y,vl g X Y=tO t P Q X Y s)/\(∀ k,gI g k≠0->(s:Int) - 1<=dg k/\dg k<=2*(s:Int) - 2)/\∀ k,1<=s->dg k=(s:Int) - 1->gI g k=gI t k*P ^ (s - 1)) (λ_ _ _ _=>trivial) ?_ ?_ _ _ _ ⟨aK.refl _,0,[],p5,e6,none,none,none,none,Mw _,rfl,rfl,h5,Ci.nil,λp h=>(nomatch h),λX Y=>rfl,λk h=>absurd rfl h,λk h=>absurd h (by decide)⟩
  ·rintro dd r L S5 N1 ⟨x5,s,g,q,eq,l6,l7,l8,l9,hs,er,rfl,hq,hg,bg,vg,vd,vt⟩ hN;cases hds:d+1 - s with
   | zero=>rw [hds] at er; cases er
   | succ s'=>
    rw [hds,List.range'_succ,LP] at er;cases er;have X5:aK S S5:=X2.trans (X4.trans x5);refine λp7 hp7 e7=>⟨_,_,aI hp7 (X5 _ _ ha),?_⟩
    have n7a:a≠p7:=fo (X5 _ _ ha) hp7;have n37:p3≠p7:=fo (x5 _ _ (X4 _ _ hp3)) hp7;have hat:L2.atI ((List.range (d+1)).map λi=>D.int (P ^ i)) (s:Int)=some (.int (P ^ s)):=L2.jn (by rw [L8,List.getElem?_range (by omega)]; rfl)
    refine aL (λr L S'=>∃ (don am:Zi) (e1:Nat) (l8 l9:MS D),t=don++am/\r=cn (bc am)/\L=[some (.ref a),some (.tup [.int P,.int Q]),some (.int d),some (.ref p3),some (.ref p4),some (.ref q),some (.int (s:Int)),some (.ref p7),l8,l9]/\aK S5 S'/\S' a=some (bH (bc t) e)/\S' p7=some (bH (bc (mQ P s don)) e1)) (λ_ _ _ z=>by obtain⟨_,_,_,_,_,_,_,_,_,h,_⟩:=z;exact h) ?_ ?_ _ _ _ ⟨[],t,e7,l8,l9,rfl,rfl,rfl,aK.new hp7,aI hp7 (X5 _ _ ha),ak⟩
    ·rintro dd r L S6 N2 ⟨don,am,e8,l8,l9,ec,er,rfl,x6,a6,h67⟩ hN2;cases am with
     | nil=>cases er
     | cons u am=>
      cases er;have mu:u∈t:=by rw [ec]; simp
      have nu:=nC (p:=u) (ec▸h2.nd);obtain⟨i,j,ek,i0,j0,i1,j1⟩:=h2.sm u mu;have lz:(mQ P s don).length<=don.length:=by unfold mQ; rw [LG]; exact List.length_filter_le _ _
      have hd9:don.length < 50:=by have:=congrArg List.length ec; rw [LY,LQ] at this; omega
      have nk:u.1∉(mQ P s don).map (·.1):=λz=>by
       rw [j7] at z;obtain⟨p,hp,e⟩:=LF.mp z;exact nu (LF.mpr ⟨p,(List.mem_filter.mp hp).1,e⟩)
      have gd:dg u.1=i+j:=by rw [ek]; rfl
      have go:∀ e9:Nat,dg u.1=(s:Int)->N2 [some (.ref a),some (.tup [.int P,.int Q]),some (.int d),some (.ref p3),some (.ref p4),some (.ref q),some (.int (s:Int)),some (.ref p7),some (cz u.1),some (.int u.2)] (put S6 p7 (bH (fk (bc (mQ P s don)) u.1 (.int (u.2*P ^ s))) e9)):=λe9 hu=>hN2 _ _ ⟨don++[u],am,e9,_,_,by rw [ec]; simp,rfl,rfl,x6.put hp7,by rw [bI n7a]; exact a6,by
       rw [ak,uS,if_pos hu,show fk (bc (mQ P s don)) u.1 (D.int (u.2*P ^ s))=_ from fO (f:=D.int) (x:=u.2*P ^ s) nk]⟩
      have no:dg u.1≠(s:Int)->N2 [some (.ref a),some (.tup [.int P,.int Q]),some (.int d),some (.ref p3),some (.ref p4),some (.ref q),some (.int (s:Int)),some (.ref p7),some (cz u.1),some (.int u.2)] S6:=λhu=>hN2 _ _ ⟨don++[u],am,e8,_,_,by rw [ec]; simp,rfl,rfl,x6,a6,by rw [h67,uS,if_neg hu]⟩
      refine⟨([cz u.1,.int u.2],none),rfl,rfl,?_⟩;rw [gd] at go no
      rw [ek] at go no ⊢
      refine⟨rfl,rH (λt1=>?_) (λt1=>no ?_)⟩
      case refine_2=>simpa using t1
      refine⟨_,_,x6 _ _ (x5 _ _ (X4 _ _ hp3)),hat,iF (bt u mu) (gP bP s) (by omega),_,_,[i,j],h67,rfl,by rw [cG]; exact lim (by omega),λe9=>go e9 (by simpa using t1)⟩
    ·rintro L S6 ⟨don,am,e8,l8,l9,ec,er,rfl,x6,a6,h67⟩;cases am with
     | cons u am=>cases er
     | nil=>
      rw [L0] at ec;subst ec;have hpt:Ci (2*(s:Int)) (mQ P s t):=(F9 h2).up (by omega)
      have lpt:(mQ P s t).length<=49:=by unfold mQ; rw [LG]; exact Mi (List.length_filter_le _ _) lt
      have lg:g.length<=169:=by
       rcases Nat.eq_zero_or_pos s with z | z
       ·cases g with
        | nil=>exact Mw _
        | cons u g=>
         obtain⟨i,j,_,i0,j0,i1,j1⟩:=hg.sm u LL;omega
       ·exact Ci.len (b:=12) (hg.up (by omega))
      refine⟨q,p4,g,oy Q,eq,e5,2*(s:Int) - 2,2,rfl,x6 _ _ hq,x6 _ _ (x5 _ _ h4),hg,tJ,by omega,by decide,by omega,by show 2<=250; decide,λp hp=>(bg p hp).mono,λp hp=>?_,λS7 p9 e9 g7 x7 h9 hg7 l7 gf7 hp9=>?_⟩
      ·have:p.2=Q:=by
        simp only [oy,LJ,LU,or_false] at hp;rcases hp with rfl | rfl <;> rfl
       rw [this];exact bQ.mono
      have hg7':Ci (2*(s:Int)) g7:=hg7.up (by omega)
      have l7':g7.length<=169:=Ci.len (b:=12) (hg7.up (by omega))
      refine⟨p9,p7,g7,mQ P s t,e9,e8,2*(s:Int),rfl,hp9,x7 _ _ h67,hg7',hpt,by omega,by omega,λS8 p10 e10 g8 x8 h10 hg8 l8 gf8 hp10=>?_⟩
      have bb:∀ k,Bt (n+(s+1)*900) (gI g8 k):=λk=>by
       rw [gf8 k,gf7 k];have b1:=sI (k:=k) (by omega) (by show 2<=250; decide) bg (t':=oy Q) (n':=400) (λp hp=>by
        simp only [oy,LJ,LU,or_false] at hp;rcases hp with rfl | rfl <;> exact bQ)
       have b2:=xq hpt.nd (n:=n+(s*400+1)) (λp hp=>by
        obtain⟨u,hu,rfl⟩:=LF.mp hp;exact(bt u (List.mem_filter.mp hu).1).mul (gP bP s)) k
       exact(b1.add b2).mono
      refine hN _ _ ⟨x5.trans (x6.trans (x7.trans x8)),s+1,g8,p10,e10,_,_,_,_,by omega,by rw [show d+1 - (s+1)=s' by omega],rfl,hp10,by rw [show 2*((s+1:Nat):Int) - 2=2*(s:Int) by omega]; exact hg8,pz hg8.nd bb,λX Y=>?_,λk hk=>?_,λk _ hk=>?_⟩
      ·rw [v6 hg7' hpt hg8 gf8,wI hg tJ hg7 (Int.le_refl _) gf7,vg,Eb]
       rfl
      ·rw [gf8 k,gf7 k,Bn ht.nd] at hk
       by_cases z:kT g (oy Q) k=0
       ·by_cases y:dg k=(s:Int)
        ·omega
        ·rw [z,if_neg y] at hk;exact absurd rfl hk
       ·have:=zz hg vd z;omega
      ·have hk:dg k=(s:Int):=by omega
       have z:kT g (oy Q) k=0:=Decidable.byContradiction λz=>by
        have:=zz hg vd z;omega
       rw [gf8 k,gf7 k,Bn ht.nd,z,if_pos hk,Int.zero_add]
       rfl
  ·rintro L S5 ⟨x5,s,g,q,eq,l6,l7,l8,l9,hs,er,rfl,hq,hg,bg,vg,vd,vt⟩;cases hds:d+1 - s with
   | succ s'=>rw [hds,List.range'_succ] at er; cases er
   | zero=>
    have es:s=d+1:=by omega
    subst es;have hg4:Ci 12 g:=hg.up (by omega)
    have lg:g.length<=169:=Ci.len (b:=12) hg4;have X5:aK S S5:=X2.trans (X4.trans x5);refine⟨q,g,eq,rfl,hq,hg.nd,by omega,λS6 p6 e6' x6 h6 hp6=>?_⟩
    have nzn:∀ p∈qJ g,p.2≠0:=λp hp=>by simpa using (List.mem_filter.mp hp).2
    have vn:∀ X Y,vl (qJ g) X Y=tO t P Q X Y (d+1):=λX Y=>by rw [xa,vg]
    have tg:Tg (2*d) (qJ g):=⟨o8 hg.nd,λp hp=>by
     have hm:=(List.mem_filter.mp hp).1;obtain⟨i,j,ek,i0,j0,_,_⟩:=hg.sm p hm;have:=(vd p.1 (by rw [show gI g p.1=p.2 from cm hg.nd hm]; exact nzn p hp)).2
     rw [ek] at this;have:i+j<=2*((d+1:Nat):Int) - 2:=this;exact⟨i,j,ek,i0,j0,by omega⟩⟩
    have ne:qJ g≠[]:=λz=>by
     obtain⟨⟨p,hp,ep⟩,_⟩:=hd;have h1:=vt p.1 (by omega) (by omega)
     rw [show gI t p.1=p.2 from cm ht.nd hp] at h1
     have n1:p.2*P ^ (d+1 - 1)≠0:=Int.mul_ne_zero (tnz p hp) (Int.pow_ne_zero P0);rcases hJ (z:=(0:Int)) p.1 hg.nd with q | q
     ·rw [show gI g p.1=0 from bN q] at h1
      exact n1 h1.symm
     ·have hm:(p.1,gA 0 g p.1)∈qJ g:=List.mem_filter.mpr ⟨q,by
       have:gA 0 g p.1≠0:=by rw [show gA 0 g p.1=_ from h1]; exact n1
       simpa using this⟩
      rw [z] at hm;cases hm
    exact⟨p6,qJ g,e6',2*d,n+6600,rfl,hp6,tg,by omega,ne,nzn,λp hp=>(bg p (List.mem_filter.mp hp).1).mono,λS7 p7 e7 g7 r x7 hr hg7 gne gnz gbt nr v hp7=>w S7 p7 e7 g7 r (X5.trans (x6.trans x7)) hr hg7 gne gnz gbt nr (λX Y=>by rw [<- vn]; exact v X Y) hp7⟩
def pq:List Rat->Rat->Rat
 | [],_=>0
 | a::l,x=>a+x*pq l x
def dJ (f:Rat->Rat):Prop:=∃ l,∀ x,f x=pq l x
theorem dJ.const (c:Rat):dJ λ_=>c:=⟨[c],λx=>by show c=c+x*0; grind⟩
theorem dJ.id:dJ λx=>x:=⟨[0,1],λx=>by show x=0+x*(1+x*0); grind⟩
def uL:List Rat->List Rat->List Rat
 | [],l=>l
 | a::l,[]=>a::l
 | a::l,b::l'=>(a+b)::uL l l'
theorem uY:∀ (l l':List Rat) (x:Rat),pq (uL l l') x=pq l x+pq l' x
 | [],l,x=>by show pq l x=0+pq l x; grind
 | a::l,[],x=>by show a+x*pq l x=a+x*pq l x+0; grind
 | a::l,b::l',x=>by
  show a+b+x*pq (uL l l') x=a+x*pq l x+(b+x*pq l' x)
  rw [uY l l' x];grind
theorem C4 (c:Rat):∀ (l:List Rat) (x:Rat),pq (l.map λa=>c*a) x=c*pq l x
 | [],x=>by show(0:Rat)=c*0; grind
 | a::l,x=>by
  show c*a+x*pq (l.map λa=>c*a) x=c*(a+x*pq l x)
  rw [C4 c l x];grind
def yc:List Rat->List Rat->List Rat
 | [],_=>[]
 | a::l,l'=>uL (l'.map λb=>a*b) (0::yc l l')
theorem EO:∀ (l l':List Rat) (x:Rat),pq (yc l l') x=pq l x*pq l' x
 | [],l',x=>by show(0:Rat)=0*_; grind
 | a::l,l',x=>by
  show pq (uL (l'.map λb=>a*b) (0::yc l l')) x=(a+x*pq l x)*pq l' x
  rw [uY,C4]
  show a*pq l' x+(0+x*pq (yc l l') x)=_
  rw [EO l l' x];grind
theorem dJ.add {f g:Rat->Rat} (h:dJ f) (h':dJ g):dJ λx=>f x+g x:=by
 obtain⟨l,e⟩:=h;obtain⟨l',e'⟩:=h';exact⟨uL l l',λx=>by show f x+g x=_; rw [uY,e,e']⟩
theorem dJ.mul {f g:Rat->Rat} (h:dJ f) (h':dJ g):dJ λx=>f x*g x:=by
 obtain⟨l,e⟩:=h;obtain⟨l',e'⟩:=h';exact⟨yc l l',λx=>by show f x*g x=_; rw [EO,e,e']⟩
theorem dJ.pow {f:Rat->Rat} (h:dJ f):∀ n:Nat,dJ λx=>f x ^ n
 | 0=>by
  obtain⟨l,e⟩:=dJ.const 1;exact⟨l,λx=>by show f x ^ 0=_; rw [Rat.pow_zero]; exact e x⟩
 | n+1=>by
  obtain⟨l,e⟩:=(dJ.pow h n).mul h;exact⟨l,λx=>by show f x ^ (n+1)=_; rw [Rat.pow_succ]; exact e x⟩
theorem ni:∀ l:List Rat,∃ (M:Int) (zs:List Int),M≠0/\l.map (λa=>a*(M:Rat))=zs.map λz:Int=>(z:Rat)
 | []=>⟨1,[],by decide,rfl⟩
 | a::l=>by
  obtain⟨M,zs,m0,e⟩:=ni l;refine⟨M*a.den,a.num*M::zs.map λz=>z*a.den,Int.mul_ne_zero m0 (by have:=a.den_nz; omega),?_⟩
  rw [LP,LP]
  congr 1
  ·have e1:((a.num:Int):Rat)=a*(((a.den:Nat):Int):Rat):=iq a;rw [LB,LB,e1];grind
  ·have h2:(l.map λx=>x*((M*a.den:Int):Rat))=(l.map λx=>x*(M:Rat)).map λy=>y*((a.den:Int):Rat):=by
    rw [Mk];refine List.map_congr_left λx _=>?_
    show x*((M*a.den:Int):Rat)=x*(M:Rat)*((a.den:Int):Rat)
    rw [LB];grind
   rw [h2,e,Mk,Mk];refine List.map_congr_left λz _=>?_
   show(z:Rat)*((a.den:Int):Rat)=((z*a.den:Int):Rat)
   rw [LB]
theorem zF:∀ (zs:List Int) (X:Int),pq (zs.map λz:Int=>(z:Rat)) (X:Rat)=((pv zs X:Int):Rat)
 | [],X=>rfl
 | z::zs,X=>by
  show(z:Rat)+(X:Rat)*pq (zs.map λz:Int=>(z:Rat)) (X:Rat)=((pv (z::zs) X:Int):Rat)
  rw [zF zs X]
  show _=((z+X*pv zs X:Int):Rat)
  rw [LW,LB]
theorem p_ {M:Rat}:∀ (l:List Rat) (x:Rat),pq (l.map λa=>a*M) x=pq l x*M
 | [],x=>by show(0:Rat)=0*M; grind
 | a::l,x=>by
  show a*M+x*pq (l.map λa=>a*M) x=(a+x*pq l x)*M
  rw [p_ l x];grind
theorem BB:∀ {l:List Rat},(∀ a∈l,a=0)->∀ x,pq l x=0
 | [],_,_=>rfl
 | a::l,h,x=>by
  show a+x*pq l x=0
  rw [h a LL,BB (λb hb=>h b (LM _ hb)) x]
  grind
theorem dJ.zero {f:Rat->Rat} (h:dJ f) (N:Int) (z:∀ X:Int,N<=X->f (X:Rat)=0) (x:Rat):f x=0:=by
 obtain⟨l,e⟩:=h;obtain⟨M,zs,m0,ez⟩:=ni l;have hm:(M:Rat)≠0:=λq=>m0 (by exact_mod_cast q)
 have hz:∀ X:Int,N<=X->pv zs X=0:=λX hX=>by
  have h1:=zF zs X;rw [<- ez,p_,<- e,z X hX,Rat.zero_mul] at h1
  exact_mod_cast h1.symm
 have hs:=lX zs N hz;have hl:∀ a∈l,a=0:=λa ha=>by
  have:a*(M:Rat)∈zs.map λz:Int=>(z:Rat):=by rw [<- ez]; exact LF.mpr ⟨a,ha,rfl⟩
  obtain⟨w,hw,ew⟩:=LF.mp this;rw [hs w hw] at ew;have ew:(0:Rat)=a*M:=ew;exact(LR.mp ew.symm).resolve_right hm
 rw [e];exact BB hl x
theorem dJ.eq {f g:Rat->Rat} (hf:dJ f) (hg:dJ g) (N:Int) (z:∀ X:Int,N<=X->f (X:Rat)=g (X:Rat)) (x:Rat):f x=g x:=by
 have h:dJ λx=>f x+(-1)*g x:=hf.add ((dJ.const (-1)).mul hg)
 have:=h.zero N (λX hX=>by rw [z X hX]; grind) x
 have this:f x+(-1)*g x=0:=this;grind
def mq (k:List Int) (x y:Rat):Rat:=match k with
 | [i,j]=>x ^ i.toNat*y ^ j.toNat
 | _=>0
def vq (t:Zi) (x y:Rat):Rat:=t.foldr (λp s=>(p.2:Rat)*mq p.1 x y+s) 0
theorem mZ {p:List Int×Int} {t:Zi} {x y:Rat}:vq (p::t) x y=(p.2:Rat)*mq p.1 x y+vq t x y:=rfl
theorem gL (X:Int):∀ n:Nat,((X ^ n:Int):Rat)=(X:Rat) ^ n
 | 0=>by rw [Int.pow_zero,Rat.pow_zero]; rfl
 | n+1=>by rw [Int.pow_succ,Rat.pow_succ,LB,gL X n]
theorem GT {k:List Int} {X Y:Int} (h:∃ i j,k=[i,j]):mq k (X:Rat) (Y:Rat)=((mn k X Y:Int):Rat):=by
 obtain⟨i,j,rfl⟩:=h
 show(X:Rat) ^ i.toNat*(Y:Rat) ^ j.toNat=((X ^ i.toNat*Y ^ j.toNat:Int):Rat)
 rw [LB,gL,gL]
theorem jz {X Y:Int}:∀ {t:Zi},(∀ p∈t,∃ i j,p.1=[i,j])->vq t (X:Rat) (Y:Rat)=((vl t X Y:Int):Rat)
 | [],_=>rfl
 | p::t,h=>by
  show(p.2:Rat)*mq p.1 (X:Rat) (Y:Rat)+vq t (X:Rat) (Y:Rat)=((p.2*mn p.1 X Y+vl t X Y:Int):Rat)
  rw [GT (h p LL),jz λq hq=>h q (LM _ hq),LW,LB]
theorem Kr {k:List Int} (y:Rat):dJ λx=>mq k x y:=by
 match k with
 | [i,j]=>exact(dJ.pow dJ.id i.toNat).mul (dJ.const (y ^ j.toNat))
 | []=>exact dJ.const 0
 | [_]=>exact dJ.const 0
 | _::_::_::_=>exact dJ.const 0
theorem Km {k:List Int} (x:Rat):dJ λy=>mq k x y:=by
 match k with
 | [i,j]=>exact(dJ.const (x ^ i.toNat)).mul (dJ.pow dJ.id j.toNat)
 | []=>exact dJ.const 0
 | [_]=>exact dJ.const 0
 | _::_::_::_=>exact dJ.const 0
theorem DP (y:Rat):∀ t:Zi,dJ λx=>vq t x y
 | []=>dJ.const 0
 | p::t=>((dJ.const (p.2:Rat)).mul (Kr y)).add (DP y t)
theorem IN (x:Rat):∀ t:Zi,dJ λy=>vq t x y
 | []=>dJ.const 0
 | p::t=>((dJ.const (p.2:Rat)).mul (Km x)).add (IN x t)
structure jb (F:Rat->Rat->Rat):Prop where
 x:∀ y,dJ λx=>F x y
 y:∀ x,dJ λy=>F x y
theorem jb.vq (t:Zi):jb (vq t):=⟨λy=>DP y t,λx=>IN x t⟩
theorem jb.const (c:Rat):jb λ_ _=>c:=⟨λ_=>dJ.const c,λ_=>dJ.const c⟩
theorem jb.add {F G:Rat->Rat->Rat} (h:jb F) (h':jb G):jb λx y=>F x y+G x y:=⟨λy=>(h.x y).add (h'.x y),λx=>(h.y x).add (h'.y x)⟩
theorem jb.mul {F G:Rat->Rat->Rat} (h:jb F) (h':jb G):jb λx y=>F x y*G x y:=⟨λy=>(h.x y).mul (h'.x y),λx=>(h.y x).mul (h'.y x)⟩
theorem jb.pow {F:Rat->Rat->Rat} (h:jb F) (n:Nat):jb λx y=>F x y ^ n:=⟨λy=>(h.x y).pow n,λx=>(h.y x).pow n⟩
theorem jb.eq {F G:Rat->Rat->Rat} (h:jb F) (h':jb G) (z:∀ X Y:Int,1<=X->F (X:Rat) (Y:Rat)=G (X:Rat) (Y:Rat)) (x y:Rat):F x y=G x y:=
 dJ.eq (h.y x) (h'.y x) 0 (λY _=>dJ.eq (h.x _) (h'.x _) 1 (λX hX=>z X Y hX) x) y
def rq (x y:Rat):Rat:=x*x+y*y
theorem jb.rq:jb rq:=⟨λy=>(dJ.id.mul dJ.id).add (dJ.const (y*y)),λx=>(dJ.const (x*x)).add (dJ.id.mul dJ.id)⟩
theorem Am {X Y:Int}:rq (X:Rat) (Y:Rat)=((X*X+Y*Y:Int):Rat):=by
 unfold rq;rw [LW,LB,LB]
def EX (t:Zi) (P Q:Int) (x y:Rat):Nat->Rat
 | 0=>0
 | s+1=>EX t P Q x y s*((Q:Rat)*rq x y)+vq (mQ P s t) x y
theorem EI (t:Zi) (P Q:Int):∀ s,jb λx y=>EX t P Q x y s
 | 0=>jb.const 0
 | s+1=>((EI t P Q s).mul ((jb.const (Q:Rat)).mul jb.rq)).add (jb.vq (mQ P s t))
theorem Dk {N:Nat} {t:Zi} (h:Tg N t) {P:Int} {s:Nat}:∀ p∈mQ P s t,∃ i j,p.1=[i,j]:=λp hp=>by
 obtain⟨q,hq,rfl⟩:=LF.mp hp;exact h.two q (List.mem_filter.mp hq).1
theorem w5 {N:Nat} {t:Zi} (h:Tg N t) {P Q X Y:Int}:∀ s,EX t P Q (X:Rat) (Y:Rat) s=((tO t P Q X Y s:Int):Rat)
 | 0=>rfl
 | s+1=>by
  show EX t P Q (X:Rat) (Y:Rat) s*((Q:Rat)*rq (X:Rat) (Y:Rat))+vq (mQ P s t) (X:Rat) (Y:Rat)=((tO t P Q X Y s*(Q*(X*X+Y*Y))+vl (mQ P s t) X Y:Int):Rat)
  rw [w5 h s,Am,jz (Dk h)];simp only [LW,LB]
theorem Kg {N N' r s:Nat} {t g:Zi} {P Q:Int} (ht:Tg N t) (hg:Tg N' g) (v:∀ X Y,tO t P Q X Y s=vl g X Y*(X*X+Y*Y) ^ r) (x y:Rat):EX t P Q x y s=vq g x y*rq x y ^ r:=
 jb.eq (EI t P Q s) ((jb.vq g).mul (jb.rq.pow r)) (λX Y _=>by
  show EX t P Q (X:Rat) (Y:Rat) s=vq g (X:Rat) (Y:Rat)*rq (X:Rat) (Y:Rat) ^ r
  rw [w5 ht,jz hg.two,Am,v X Y,LB,gL]) x y
def lv (t:Zi) (s:Nat) (x y:Rat):Rat:=vq (t.filter λp=>decide (dg p.1=(s:Int))) x y
def Cp (t:Zi) (x y:Rat):Nat->Rat
 | 0=>0
 | s+1=>Cp t x y s+lv t s x y
theorem Fi {w a P x:Rat} (h:w*a=P*x):∀ i:Nat,w ^ i*a ^ i=P ^ i*x ^ i
 | 0=>by simp only [Rat.pow_zero]
 | i+1=>by
  have:=Fi h i;simp only [Rat.pow_succ];grind
theorem pU (w:Rat) (i:Nat):∀ j:Nat,w ^ (i+j)=w ^ i*w ^ j
 | 0=>by rw [Nat.add_zero,Rat.pow_zero,Rat.mul_one]
 | j+1=>by
  rw [<- Nat.add_assoc,Rat.pow_succ,Rat.pow_succ,pU w i j];grind
theorem FG {w a b x y:Rat} {P:Int} {s:Nat} (ha:w*a=(P:Rat)*x) (hb:w*b=(P:Rat)*y):∀ {t:Zi},(∀ p∈t,∃ i j:Int,p.1=[i,j]/\0<=i/\0<=j)->vq (mQ P s t) x y=w ^ s*lv t s a b
 | [],_=>by show(0:Rat)=w ^ s*0; grind
 | p::t,h=>by
  have ih:=FG ha hb (s:=s) λq hq=>h q (LM _ hq)
  obtain⟨i,j,e,i0,j0⟩:=h p LL;unfold mQ lv at ih ⊢
  by_cases hd:dg p.1=(s:Int)
  ·rw [List.filter_cons_of_pos (by simpa using hd),LP,mZ,mZ,ih]
   have hs:s=i.toNat+j.toNat:=by
    rw [e] at hd;have hd:i+j=(s:Int):=hd;omega
   have k1:mq p.1 x y=x ^ i.toNat*y ^ j.toNat:=by rw [e]; rfl
   have k2:mq p.1 a b=a ^ i.toNat*b ^ j.toNat:=by rw [e]; rfl
   show((p.2*P ^ s:Int):Rat)*mq p.1 x y+_=_
   rw [k1,k2,LB,gL,hs,pU,pU];have q1:=Fi ha i.toNat;have q2:=Fi hb j.toNat;generalize w ^ i.toNat=w1 at*
   generalize w ^ j.toNat=w2 at*
   generalize (P:Rat) ^ i.toNat=p1 at*
   generalize (P:Rat) ^ j.toNat=p2 at*
   generalize a ^ i.toNat=a1 at*
   generalize b ^ j.toNat=b1 at*
   generalize x ^ i.toNat=x1 at*
   generalize y ^ j.toNat=y1 at*
   have q3:p1*x1*(p2*y1)=w1*a1*(w2*b1):=by rw [q1,q2]
   grind
  ·rw [List.filter_cons_of_neg (by simpa using hd)]
   exact ih
theorem Cr {p:List Int×Int} {t:Zi} {x y:Rat} {s:Nat}:lv (p::t) s x y=lv t s x y+(if dg p.1=(s:Int) then(p.2:Rat)*mq p.1 x y else 0):=by
 unfold lv
 by_cases h:dg p.1=(s:Int)
 ·rw [List.filter_cons_of_pos (by simpa using h),mZ,if_pos h]
  grind
 ·rw [List.filter_cons_of_neg (by simpa using h),if_neg h]
  grind
theorem t_ {p:List Int×Int} {t:Zi} {x y:Rat} (h0:0<=dg p.1):∀ s:Nat,Cp (p::t) x y s=Cp t x y s+(if dg p.1 < (s:Int) then(p.2:Rat)*mq p.1 x y else 0)
 | 0=>by
  show(0:Rat)=0+_
  rw [if_neg (by omega)]
  grind
 | s+1=>by
  show Cp (p::t) x y s+lv (p::t) s x y=Cp t x y s+lv t s x y+_
  rw [t_ h0 s,Cr]
  by_cases a:dg p.1 < (s:Int)
  ·rw [if_pos a,if_neg (by omega),if_pos (by omega)]
   grind
  ·by_cases b:dg p.1=(s:Int)
   ·rw [if_neg a,if_pos b,if_pos (by omega)]
    grind
   ·rw [if_neg a,if_neg b,if_neg (by omega)]
    grind
theorem xn {x y:Rat}:∀ s,Cp [] x y s=0
 | 0=>rfl
 | s+1=>by
  show Cp [] x y s+0=0
  rw [xn s];grind
theorem xQ {d:Nat} {x y:Rat}:∀ {t:Zi},(∀ p∈t,0<=dg p.1/\dg p.1<=(d:Int))->Cp t x y (d+1)=vq t x y
 | [],_=>xn _
 | p::t,h=>by
  have hp:=h p LL;rw [t_ hp.1,xQ λq hq=>h q (LM _ hq),if_pos (by omega),mZ]
  grind
theorem Tg.dg {N:Nat} {t:Zi} (h:Tg N t):∀ p∈t,0<=My.dg p.1/\My.dg p.1<=(N:Int):=λp hp=>by
 obtain⟨i,j,e,i0,j0,ij⟩:=h.sm p hp;rw [e]
 show 0<=i+j/\i+j<=(N:Int)
 omega
theorem zR {N:Nat} {t:Zi} (h:Tg N t) {P Q:Int} {x y a b:Rat} (ha:(Q:Rat)*rq x y*a=(P:Rat)*x) (hb:(Q:Rat)*rq x y*b=(P:Rat)*y):∀ s,EX t P Q x y (s+1)=((Q:Rat)*rq x y) ^ s*Cp t a b (s+1)
 | 0=>by
  show 0*_+vq (mQ P 0 t) x y=_*(0+lv t 0 a b)
  rw [FG ha hb λp hp=>by obtain⟨i,j,e,i0,j0,_⟩:=h.sm p hp; exact⟨i,j,e,i0,j0⟩]
  grind
 | s+1=>by
  show EX t P Q x y (s+1)*((Q:Rat)*rq x y)+vq (mQ P (s+1) t) x y=_*(Cp t a b (s+1)+lv t (s+1) a b)
  rw [zR h ha hb s,FG ha hb λp hp=>by obtain⟨i,j,e,i0,j0,_⟩:=h.sm p hp; exact⟨i,j,e,i0,j0⟩]
  rw [Rat.pow_succ];grind
theorem FJ {d N' r:Nat} {t g:Zi} {P Q:Int} (ht:Tg d t) (hg:Tg N' g) (v:∀ X Y,tO t P Q X Y (d+1)=vl g X Y*(X*X+Y*Y) ^ r) {x y a b:Rat} (ha:(Q:Rat)*rq x y*a=(P:Rat)*x) (hb:(Q:Rat)*rq x y*b=(P:Rat)*y):vq g x y*rq x y ^ r=((Q:Rat)*rq x y) ^ d*vq t a b:=by
 rw [<- Kg ht hg v,zR ht ha hb d,xQ ht.dg]
def Cn (T:Int->Int->Rat) (m y:Rat) (d i:Int):Nat->Rat
 | 0=>0
 | s+1=>Cn T m y d i s*y+T i (d - i - s)*m ^ s
def Ej (T:Int->Int->Rat) (m x y:Rat) (d:Int):Nat->Rat
 | 0=>0
 | s+1=>Ej T m x y d s*x+Cn T m y d (d - s) (s+1)
theorem xT {T:Int->Int->Int} {m y d i:Int}:∀ s,Cn (λi j=>(T i j:Rat)) (m:Rat) (y:Rat) d i s=((hC T m y d i s:Int):Rat)
 | 0=>rfl
 | s+1=>by
  show Cn _ _ _ _ _ s*(y:Rat)+(T i (d - i - s):Rat)*(m:Rat) ^ s=((hC T m y d i s*y+T i (d - i - s)*m ^ s:Int):Rat)
  rw [xT s];simp only [LW,LB,gL]
theorem xS {T:Int->Int->Int} {m x y d:Int}:∀ s,Ej (λi j=>(T i j:Rat)) (m:Rat) (x:Rat) (y:Rat) d s=((hO T m x y d s:Int):Rat)
 | 0=>rfl
 | s+1=>by
  show Ej _ _ _ _ _ s*(x:Rat)+Cn _ _ _ _ _ (s+1)=((hO T m x y d s*x+hC T m y d (d - s) (s+1):Int):Rat)
  rw [xS s,xT];simp only [LW,LB]
theorem EC {T:Int->Int->Rat} {m:Rat} {d i:Int} {G:Rat->Rat->Rat} (h:jb G):∀ s,jb λx y=>Cn T m (G x y) d i s
 | 0=>jb.const 0
 | s+1=>((EC h s).mul h).add (jb.const _)
theorem D9 {T:Int->Int->Rat} {m:Rat} {d:Int} {F G:Rat->Rat->Rat} (hF:jb F) (hG:jb G):∀ s,jb λx y=>Ej T m (F x y) (G x y) d s
 | 0=>jb.const 0
 | s+1=>((D9 hF hG s).mul hF).add (EC hG (s+1))
theorem Jb {d s:Nat} {t g tx ty:Zi} {m:Int} (h:∀ p∈g,∃ i j,p.1=[i,j]) (hx:∀ p∈tx,∃ i j,p.1=[i,j]) (hy:∀ p∈ty,∃ i j,p.1=[i,j]) (v:∀ X Y,vl g X Y=hO (λi j=>gI t [i,j]) m (vl tx X Y) (vl ty X Y) d s) (x y:Rat):vq g x y=Ej (λi j=>(gI t [i,j]:Rat)) (m:Rat) (vq tx x y) (vq ty x y) d s:=
 jb.eq (jb.vq g) (D9 (jb.vq tx) (jb.vq ty) s) (λX Y _=>by
  show vq g (X:Rat) (Y:Rat)=Ej (λi j=>(gI t [i,j]:Rat)) (m:Rat) (vq tx (X:Rat) (Y:Rat)) (vq ty (X:Rat) (Y:Rat)) d s
  rw [jz h,jz hx,jz hy,v X Y,xS]) x y
def cC (T:Int->Int->Rat) (b:Rat) (d i:Int):Nat->Rat
 | 0=>0
 | s+1=>cC T b d i s*b+T i (d - i - s)
def oO (T:Int->Int->Rat) (a b:Rat) (d:Int):Nat->Rat
 | 0=>0
 | s+1=>oO T a b d s*a+cC T b d (d - s) (s+1)
theorem GS {T:Int->Int->Rat} {m b:Rat} {d i:Int}:∀ s:Nat,Cn T m (m*b) d i (s+1)=m ^ s*cC T b d i (s+1)
 | 0=>by
  show 0*_+T i (d - i - (0:Nat))*m ^ 0=m ^ 0*(0*b+T i (d - i - (0:Nat)))
  grind
 | s+1=>by
  show Cn T m (m*b) d i (s+1)*(m*b)+T i (d - i - (s+1:Nat))*m ^ (s+1)=m ^ (s+1)*(cC T b d i (s+1)*b+T i (d - i - (s+1:Nat)))
  rw [GS s,Rat.pow_succ];grind
theorem Iy {T:Int->Int->Rat} {m a b:Rat} {d:Int}:∀ s:Nat,Ej T m (m*a) (m*b) d (s+1)=m ^ s*oO T a b d (s+1)
 | 0=>by
  show 0*_+Cn T m (m*b) d (d - (0:Nat)) (0+1)=m ^ 0*(0*a+cC T b d (d - (0:Nat)) (0+1))
  rw [GS 0];grind
 | s+1=>by
  show Ej T m (m*a) (m*b) d (s+1)*(m*a)+Cn T m (m*b) d (d - (s+1:Nat)) (s+1+1)=m ^ (s+1)*(oO T a b d (s+1)*a+cC T b d (d - (s+1:Nat)) (s+1+1))
  rw [Iy s,GS (s+1),Rat.pow_succ];grind
theorem Cj {T U:Int->Int->Rat} {b:Rat} {d i:Int}:∀ s,cC (λi j=>T i j+U i j) b d i s=cC T b d i s+cC U b d i s
 | 0=>by show(0:Rat)=0+0; grind
 | s+1=>by
  show cC (λi j=>T i j+U i j) b d i s*b+(T i (d - i - s)+U i (d - i - s))=cC T b d i s*b+T i (d - i - s)+(cC U b d i s*b+U i (d - i - s))
  rw [Cj s];grind
theorem zE {T U:Int->Int->Rat} {a b:Rat} {d:Int}:∀ s,oO (λi j=>T i j+U i j) a b d s=oO T a b d s+oO U a b d s
 | 0=>by show(0:Rat)=0+0; grind
 | s+1=>by
  show oO (λi j=>T i j+U i j) a b d s*a+cC (λi j=>T i j+U i j) b d (d - s) (s+1)=oO T a b d s*a+cC T b d (d - s) (s+1)+(oO U a b d s*a+cC U b d (d - s) (s+1))
  rw [zE s,Cj];grind
def ln (i0 j0:Int) (c:Rat):Int->Int->Rat:=λi j=>if i=i0/\j=j0 then c else 0
theorem B3 {i0 j0:Int} {c b:Rat} {d i:Int} (h:i≠i0):∀ s,cC (ln i0 j0 c) b d i s=0
 | 0=>rfl
 | s+1=>by
  show cC (ln i0 j0 c) b d i s*b+ln i0 j0 c i (d - i - s)=0
  rw [B3 h s,show ln i0 j0 c i (d - i - s)=0 from if_neg λz=>h z.1]
  grind
theorem zK {i0 j0:Int} {c b:Rat} {d:Int} {e:Nat} (he:d - i0 - j0=(e:Int)):∀ s:Nat,cC (ln i0 j0 c) b d i0 s=if e < s then c*b ^ (s - 1 - e) else 0
 | 0=>by rw [if_neg (by omega)]; rfl
 | s+1=>by
  show cC (ln i0 j0 c) b d i0 s*b+ln i0 j0 c i0 (d - i0 - s)=_
  rw [zK he s]
  by_cases h1:e < s
  ·rw [if_pos h1,if_pos (by omega),show ln i0 j0 c i0 (d - i0 - s)=0 from if_neg λz=>by omega,show s+1 - 1 - e=s - 1 - e+1 by omega,Rat.pow_succ]
   grind
  ·by_cases h2:e=s
   ·rw [if_neg h1,if_pos (by omega),show ln i0 j0 c i0 (d - i0 - s)=c from if_pos ⟨rfl,by omega⟩,show s+1 - 1 - e=0 by omega,Rat.pow_zero]
    grind
   ·rw [if_neg h1,if_neg (by omega),show ln i0 j0 c i0 (d - i0 - s)=0 from if_neg λz=>by omega]
    grind
theorem Aq {i0 j0:Int} {c a b:Rat} {d:Int} {e f:Nat} (j1:0<=j0) (he:d - i0 - j0=(e:Int)) (hf:d - i0=(f:Int)):∀ s:Nat,oO (ln i0 j0 c) a b d s=if f < s then c*b ^ j0.toNat*a ^ (s - 1 - f) else 0
 | 0=>by rw [if_neg (by omega)]; rfl
 | s+1=>by
  show oO (ln i0 j0 c) a b d s*a+cC (ln i0 j0 c) b d (d - s) (s+1)=_
  rw [Aq j1 he hf s]
  by_cases h1:f < s
  ·rw [if_pos h1,if_pos (by omega),B3 (by omega),show s+1 - 1 - f=s - 1 - f+1 by omega,Rat.pow_succ]
   grind
  ·by_cases h2:f=s
   ·rw [if_neg h1,if_pos (by omega),show d - (s:Int)=i0 by omega,zK he,if_pos (by omega),show s+1 - 1 - e=j0.toNat by omega,show s+1 - 1 - f=0 by omega,Rat.pow_zero]
    grind
   ·rw [if_neg h1,if_neg (by omega),B3 (by omega)]
    grind
theorem ID {b:Rat} {d i:Int}:∀ s,cC (λ_ _=>0) b d i s=0
 | 0=>rfl
 | s+1=>by
  show cC (λ_ _=>0) b d i s*b+0=0
  rw [ID s];grind
theorem Ik {a b:Rat} {d:Int}:∀ s,oO (λ_ _=>0) a b d s=0
 | 0=>rfl
 | s+1=>by
  show oO (λ_ _=>0) a b d s*a+cC (λ_ _=>0) b d (d - s) (s+1)=0
  rw [Ik s,ID];grind
theorem En {d:Nat} {a b:Rat}:∀ {t:Zi},(t.map (·.1)).Nodup->(∀ p∈t,∃ i j:Int,p.1=[i,j]/\0<=i/\0<=j/\i+j<=d)->oO (λi j=>(gI t [i,j]:Rat)) a b (d:Int) (d+1)=vq t a b
 | [],_,_=>Ik _
 | p::t,nd,h=>by
  obtain⟨i,j,e,i0,j0,ij⟩:=h p LL;have nd':=Mn.mp nd;have eT:(λx y:Int=>((gI (p::t) [x,y]:Int):Rat))=λx y=>ln i j (p.2:Rat) x y+(gI t [x,y]:Rat):=by
   funext x y
   rw [oH nd'.1,LW,e]
   congr 1
   unfold ln
   by_cases z:x=i/\y=j
   ·rw [if_pos z,if_pos (by rw [z.1,z.2])]
   ·rw [if_neg z,if_neg λq=>z (by simp only [List.cons.injEq,and_true] at q; exact⟨q.1.symm,q.2.symm⟩)]
    rfl
  rw [eT,zE,En nd'.2 λq hq=>h q (LM _ hq),mZ,e]
  have h1:=Aq (c:=(p.2:Rat)) (a:=a) (b:=b) (d:=(d:Int)) (e:=(d - i - j).toNat) (f:=(d - i).toNat) j0 (by omega) (by omega) (i0:=i) (d+1)
  rw [if_pos (by omega),show d+1 - 1 - ((d:Int) - i).toNat=i.toNat by omega] at h1
  rw [h1]
  show(p.2:Rat)*b ^ j.toNat*a ^ i.toNat+vq t a b=(p.2:Rat)*(a ^ i.toNat*b ^ j.toNat)+vq t a b
  grind
theorem CO {d:Nat} {t g tx ty:Zi} {m:Int} (ht:Tg d t) (h:∀ p∈g,∃ i j,p.1=[i,j]) (hx:∀ p∈tx,∃ i j,p.1=[i,j]) (hy:∀ p∈ty,∃ i j,p.1=[i,j]) (v:∀ X Y,vl g X Y=hO (λi j=>gI t [i,j]) m (vl tx X Y) (vl ty X Y) d (d+1)) {x y a b:Rat} (ha:vq tx x y=(m:Rat)*a) (hb:vq ty x y=(m:Rat)*b):vq g x y=(m:Rat) ^ d*vq t a b:=by
 rw [Jb h hx hy v,ha,hb,Iy,En ht.nd ht.sm]
def jR (u:Rat) (x:Q):Nat->Q
 | 0=>(1,0)
 | n+1=>qm u (jR u x n) x
def mon (u:Rat) (x y:Q) (k:List Int):Q:=qm u (jR u x (k.getD 0 0).toNat) (jR u y (k.getD 1 0).toNat)
def qk (t:Rat) (x:Q):Q:=(t*x.1,t*x.2)
def mK (u:Rat) (x y:Q) (c:Zr) (s:Q):Q:=c.foldl (λs p=>qa s (qk p.2 (mon u x y p.1))) s
theorem xh {l:List Rat} (z:∀ x,pq l x=0):∀ a∈l,a=0:=by
 obtain⟨M,zs,m0,ez⟩:=ni l;have hm:(M:Rat)≠0:=λq=>m0 (by exact_mod_cast q)
 have hz:∀ X:Int,0<=X->pv zs X=0:=λX _=>by
  have h1:=zF zs X;rw [<- ez,p_,z,Rat.zero_mul] at h1
  exact_mod_cast h1.symm
 have hs:=lX zs 0 hz;intro a ha;have:a*(M:Rat)∈zs.map λz:Int=>(z:Rat):=by rw [<- ez]; exact LF.mpr ⟨a,ha,rfl⟩
 obtain⟨w,hw,ew⟩:=LF.mp this;rw [hs w hw] at ew;have ew:(0:Rat)=a*M:=ew;exact(LR.mp ew.symm).resolve_right hm
def gq (u:Rat):List Rat->Q->Q
 | [],_=>(0,0)
 | a::l,x=>qa (qo a) (qm u x (gq u l x))
theorem x_ (x:Q):qa (0,0) x=x:=by
 unfold qa;apply LX <;> dsimp only <;> grind
theorem uE (x:Q):qa x (0,0)=x:=by
 unfold qa;apply LX <;> dsimp only <;> grind
theorem uH {u:Rat} (x:Q):qm u x (0,0)=(0,0):=by
 unfold qm;apply LX <;> dsimp only <;> grind
theorem zL {u:Rat} (x:Q):qm u (0,0) x=(0,0):=by
 unfold qm;apply LX <;> dsimp only <;> grind
theorem EV {u:Rat} (x y z:Q):qm u (qm u x y) z=qm u x (qm u y z):=by
 unfold qm;apply LX <;> dsimp only <;> grind
theorem FX (u:Rat):∀ (l l':List Rat) (x:Q),gq u (uL l l') x=qa (gq u l x) (gq u l' x)
 | [],l,x=>(x_ _).symm
 | a::l,[],x=>(uE _).symm
 | a::l,b::l',x=>by
  show qa (qo (a+b)) (qm u x (gq u (uL l l') x))=qa (qa (qo a) (qm u x (gq u l x))) (qa (qo b) (qm u x (gq u l' x)))
  rw [FX u l l' x];unfold qa qm qo;apply LX <;> dsimp only <;> grind
theorem Jy (u c:Rat):∀ (l:List Rat) (x:Q),gq u (l.map λa=>c*a) x=qm u (qo c) (gq u l x)
 | [],x=>(uH _).symm
 | a::l,x=>by
  show qa (qo (c*a)) (qm u x (gq u (l.map λa=>c*a) x))=qm u (qo c) (qa (qo a) (qm u x (gq u l x)))
  rw [Jy u c l x];unfold qa qm qo;apply LX <;> dsimp only <;> grind
theorem Ji (u:Rat):∀ (l l':List Rat) (x:Q),gq u (yc l l') x=qm u (gq u l x) (gq u l' x)
 | [],l',x=>(zL _).symm
 | a::l,l',x=>by
  show gq u (uL (l'.map λb=>a*b) (0::yc l l')) x=qm u (qa (qo a) (qm u x (gq u l x))) (gq u l' x)
  rw [FX,Jy]
  show qa _ (qa (qo 0) (qm u x (gq u (yc l l') x)))=_
  rw [Ji u l l' x];unfold qa qm qo;apply LX <;> dsimp only <;> grind
theorem Hw (u:Rat):∀ (l:List Rat) (x:Rat),gq u l (qo x)=qo (pq l x)
 | [],x=>rfl
 | a::l,x=>by
  show qa (qo a) (qm u (qo x) (gq u l (qo x)))=qo (a+x*pq l x)
  rw [Hw u l x];unfold qa qm qo;apply LX <;> dsimp only <;> grind
theorem BY (u:Rat):∀ {l:List Rat},(∀ a∈l,a=0)->∀ x,gq u l x=(0,0)
 | [],_,_=>rfl
 | a::l,h,x=>by
  show qa (qo a) (qm u x (gq u l x))=(0,0)
  rw [h a LL,BY u (λb hb=>h b (LM _ hb)) x,uH]
  exact x_ _
def gg (u:Rat):List (List Rat)->Q->Q->Q
 | [],_,_=>(0,0)
 | l::L,x,y=>qa (gq u l x) (qm u y (gg u L x y))
def pp:List (List Rat)->Rat->Rat->Rat
 | [],_,_=>0
 | l::L,x,y=>pq l x+y*pp L x y
def Ht:List (List Rat)->List (List Rat)->List (List Rat)
 | [],L=>L
 | l::L,[]=>l::L
 | l::L,l'::L'=>uL l l'::Ht L L'
def Io:List (List Rat)->List (List Rat)->List (List Rat)
 | [],_=>[]
 | l::L,L'=>Ht (L'.map λm=>yc l m) ([]::Io L L')
theorem De (u:Rat):∀ (L L':List (List Rat)) (x y:Q),gg u (Ht L L') x y=qa (gg u L x y) (gg u L' x y)
 | [],L,x,y=>(x_ _).symm
 | l::L,[],x,y=>(uE _).symm
 | l::L,l'::L',x,y=>by
  show qa (gq u (uL l l') x) (qm u y (gg u (Ht L L') x y))=qa (qa (gq u l x) (qm u y (gg u L x y))) (qa (gq u l' x) (qm u y (gg u L' x y)))
  rw [De u L L' x y,FX];unfold qa qm;apply LX <;> dsimp only <;> grind
theorem IE (u:Rat) (l:List Rat):∀ (L:List (List Rat)) (x y:Q),gg u (L.map λm=>yc l m) x y=qm u (gq u l x) (gg u L x y)
 | [],x,y=>(uH _).symm
 | m::L,x,y=>by
  show qa (gq u (yc l m) x) (qm u y (gg u (L.map λm=>yc l m) x y))=qm u (gq u l x) (qa (gq u m x) (qm u y (gg u L x y)))
  rw [IE u l L x y,Ji];unfold qa qm;apply LX <;> dsimp only <;> grind
theorem GN (u:Rat):∀ (L L':List (List Rat)) (x y:Q),gg u (Io L L') x y=qm u (gg u L x y) (gg u L' x y)
 | [],L',x,y=>(zL _).symm
 | l::L,L',x,y=>by
  show gg u (Ht (L'.map λm=>yc l m) ([]::Io L L')) x y=qm u (qa (gq u l x) (qm u y (gg u L x y))) (gg u L' x y)
  rw [De,IE]
  show qa _ (qa (0,0) (qm u y (gg u (Io L L') x y)))=_
  rw [GN u L L' x y];unfold qa qm;apply LX <;> dsimp only <;> grind
theorem Ix (u:Rat):∀ (L:List (List Rat)) (x y:Rat),gg u L (qo x) (qo y)=qo (pp L x y)
 | [],x,y=>rfl
 | l::L,x,y=>by
  show qa (gq u l (qo x)) (qm u (qo y) (gg u L (qo x) (qo y)))=qo (pq l x+y*pp L x y)
  rw [Ix u L x y,Hw];unfold qa qm qo;apply LX <;> dsimp only <;> grind
theorem Ey:∀ (L:List (List Rat)) (x y:Rat),pp L x y=pq (L.map λl=>pq l x) y
 | [],_,_=>rfl
 | l::L,x,y=>by
  show pq l x+y*pp L x y=pq l x+y*pq (L.map λl=>pq l x) y
  rw [Ey L x y]
theorem zv (u:Rat):∀ {L:List (List Rat)},(∀ l∈L,∀ a∈l,a=0)->∀ x y,gg u L x y=(0,0)
 | [],_,_,_=>rfl
 | l::L,h,x,y=>by
  show qa (gq u l x) (qm u y (gg u L x y))=(0,0)
  rw [BY u (h l LL),zv u (λm hm=>h m (LM _ hm)) x y,uH]
  exact x_ _
theorem Db (u:Rat) {L:List (List Rat)} (z:∀ x y,pp L x y=0) (x y:Q):gg u L x y=(0,0):=
 zv u (λl hl=>xh λx'=>xh (l:=L.map λl=>pq l x') (λy'=>by rw [<- Ey]; exact z x' y') _ (LF.mpr ⟨l,hl,rfl⟩)) x y
def dL (u:Rat) (F:Rat->Rat->Rat) (G:Q->Q->Q):Prop:=∃ L,(∀ x y,qo (F x y)=gg u L (qo x) (qo y))/\∀ x y,G x y=gg u L x y
theorem dL.const (u c:Rat):dL u (λ_ _=>c) λ_ _=>qo c:=by
 have e:∀ x y,gg u [[c]] x y=qo c:=λx y=>by
  show qa (qa (qo c) (qm u x (0,0))) (qm u y (0,0))=qo c
  rw [uH,uH,uE,uE]
 exact⟨[[c]],λx y=>(e _ _).symm,λx y=>(e x y).symm⟩
theorem dL.x (u:Rat):dL u (λx _=>x) λx _=>x:=by
 have e:∀ x y,gg u [[0,1]] x y=x:=λx y=>by
  show qa (qa (qo 0) (qm u x (qa (qo 1) (qm u x (0,0))))) (qm u y (0,0))=x
  unfold qa qm qo;apply LX <;> dsimp only <;> grind
 exact⟨[[0,1]],λx y=>(e _ _).symm,λx y=>(e x y).symm⟩
theorem dL.y (u:Rat):dL u (λ_ y=>y) λ_ y=>y:=by
 have e:∀ x y,gg u [[],[1]] x y=y:=λx y=>by
  show qa (0,0) (qm u y (qa (qa (qo 1) (qm u x (0,0))) (qm u y (0,0))))=y
  unfold qa qm qo;apply LX <;> dsimp only <;> grind
 exact⟨[[],[1]],λx y=>(e _ _).symm,λx y=>(e x y).symm⟩
theorem dL.add {u:Rat} {F F':Rat->Rat->Rat} {G G':Q->Q->Q} (h:dL u F G) (h':dL u F' G'):dL u (λx y=>F x y+F' x y) λx y=>qa (G x y) (G' x y):=by
 obtain⟨L,a,b⟩:=h;obtain⟨L',a',b'⟩:=h';refine⟨Ht L L',λx y=>?_,λx y=>?_⟩
 ·rw [De,<- a,<- a'];unfold qa qo;apply LX <;> dsimp only <;> grind
 ·show qa (G x y) (G' x y)=_
  rw [De,b,b']
theorem dL.mul {u:Rat} {F F':Rat->Rat->Rat} {G G':Q->Q->Q} (h:dL u F G) (h':dL u F' G'):dL u (λx y=>F x y*F' x y) λx y=>qm u (G x y) (G' x y):=by
 obtain⟨L,a,b⟩:=h;obtain⟨L',a',b'⟩:=h';refine⟨Io L L',λx y=>?_,λx y=>?_⟩
 ·rw [GN,<- a,<- a'];unfold qm qo;apply LX <;> dsimp only <;> grind
 ·show qm u (G x y) (G' x y)=_
  rw [GN,b,b']
theorem dL.pow {u:Rat} {F:Rat->Rat->Rat} {G:Q->Q->Q} (h:dL u F G):∀ n:Nat,dL u (λx y=>F x y ^ n) λx y=>jR u (G x y) n
 | 0=>by
  obtain⟨L,a,b⟩:=dL.const u 1;exact⟨L,λx y=>by show qo (F x y ^ 0)=_; rw [Rat.pow_zero]; exact a x y,b⟩
 | n+1=>by
  obtain⟨L,a,b⟩:=(dL.pow h n).mul h;exact⟨L,λx y=>by show qo (F x y ^ (n+1))=_; rw [Rat.pow_succ]; exact a x y,b⟩
theorem dL.eq {u:Rat} {F F':Rat->Rat->Rat} {G G':Q->Q->Q} (h:dL u F G) (h':dL u F' G') (e:∀ x y,F x y=F' x y) (x y:Q):G x y=G' x y:=by
 obtain⟨L,a,b⟩:=h.add ((dL.const u (-1)).mul h');have z:∀ x y,pp L x y=0:=λx y=>by
  have h1:=a x y;rw [Ix] at h1;have h1:F x y+-1*F' x y=pp L x y:=congrArg Prod.fst h1;rw [<- h1,e x y];grind
 have h2:=b x y;rw [Db u z] at h2;have h3:qa (G x y) (qm u (qo (-1)) (G' x y))=(0,0):=h2;have e1:(G x y).1+(-1*(G' x y).1+0*(G' x y).2*u)=0:=congrArg Prod.fst h3;have e2:(G x y).2+(-1*(G' x y).2+0*(G' x y).1)=0:=congrArg Prod.snd h3;exact LX (by grind) (by grind)
def oK (u:Rat) (c:Zr) (x y:Q):Q:=c.foldr (λp s=>qa (qk p.2 (mon u x y p.1)) s) (0,0)
def vR (c:Zr) (x y:Rat):Rat:=c.foldr (λp s=>p.2*mq p.1 x y+s) 0
theorem vZ (u:Rat) (x y:Q):∀ (c:Zr) (s:Q),mK u x y c s=qa s (oK u c x y)
 | [],s=>(uE s).symm
 | p::c,s=>by
  show mK u x y c (qa s (qk p.2 (mon u x y p.1)))=qa s (qa (qk p.2 (mon u x y p.1)) (oK u c x y))
  rw [vZ u x y c];unfold qa;apply LX <;> dsimp only <;> grind
theorem KF {u t:Rat} {x:Q}:qk t x=qm u (qo t) x:=by
 unfold qk qm qo;apply LX <;> dsimp only <;> grind
theorem dL.val {u:Rat} {A B:Rat->Rat->Rat} {GA GB:Q->Q->Q} (hA:dL u A GA) (hB:dL u B GB):∀ {c:Zr},(∀ p∈c,∃ i j,p.1=[i,j])->dL u (λx y=>vR c (A x y) (B x y)) λx y=>oK u c (GA x y) (GB x y)
 | [],_=>by
  obtain⟨L,a,b⟩:=dL.const u 0;exact⟨L,a,b⟩
 | p::c,h=>by
  obtain⟨i,j,e⟩:=h p LL;obtain⟨L,a,b⟩:=((dL.const u p.2).mul ((hA.pow i.toNat).mul (hB.pow j.toNat))).add (dL.val hA hB λq hq=>h q (LM _ hq))
  refine⟨L,λx y=>?_,λx y=>?_⟩
  ·rw [<- a x y]
   show qo (p.2*mq p.1 (A x y) (B x y)+_)=_
   rw [e]
   rfl
  ·rw [<- b x y]
   show qa (qk p.2 (mon u (GA x y) (GB x y) p.1)) _=_
   rw [e,KF (u:=u)]
   rfl
def FW (a:Rat):List Rat->List Rat
 | []=>[]
 | _::l=>uL l ((FW a l).map λb=>a*b)
theorem tI:∀ {l l':List Rat} {n:Nat},l.length<=n->l'.length<=n->(uL l l').length<=n
 | [],_,_,_,h=>h
 | _::_,[],_,h,_=>h
 | a::l,b::l',n,h,h'=>by
  cases n with
  | zero=>exact absurd h (by simp)
  | succ n=>
   show(uL l l').length+1<=n+1
   have:=tI (l:=l) (l':=l') (n:=n) (by simpa using h) (by simpa using h')
   omega
theorem xm (a:Rat):∀ (l:List Rat),(FW a l).length<=l.length - 1
 | []=>LD _
 | _::l=>by
  show(uL l ((FW a l).map λb=>a*b)).length<=l.length+1 - 1
  refine tI (by omega) ?_
  rw [LG];have:=xm a l;omega
theorem D5 (a:Rat):∀ (l:List Rat) (x:Rat),pq l x=pq l a+(x - a)*pq (FW a l) x
 | [],x=>by show(0:Rat)=0+_*0; grind
 | c::l,x=>by
  show c+x*pq l x=c+a*pq l a+(x - a)*pq (uL l ((FW a l).map λb=>a*b)) x
  rw [uY,C4];have:=D5 a l x;grind
theorem uj:∀ (n:Nat) (l:List Rat),l.length<=n->(∀ i:Nat,i < n->pq l ((i:Int):Rat)=0)->∀ x,pq l x=0
 | 0,l,h,_,x=>by
  have:l=[]:=MN.mp (by omega)
  rw [this]
  rfl
 | n+1,l,h,z,x=>by
  have h1:=D5 ((n:Int):Rat) l;have zn:=z n (by omega)
  have h2:∀ x,pq (FW ((n:Int):Rat) l) x=0:=uj n _ (by have:=xm ((n:Int):Rat) l; omega) λi hi=>by
   have h3:=h1 ((i:Int):Rat);rw [z i (by omega),zn] at h3
   have h4:((i:Int):Rat) - ((n:Int):Rat)≠0:=λq=>by
    have:((i:Int):Rat)=((n:Int):Rat):=by grind
    have:=Mo.mp this;omega
   have h5:(((i:Int):Rat) - ((n:Int):Rat))*pq (FW ((n:Int):Rat) l) ((i:Int):Rat)=0:=by rw [h3]; grind
   exact(LR.mp h5).resolve_left h4
  rw [h1 x,zn,h2 x];grind
def qZ (n:Nat) (f:Rat->Rat):Prop:=∃ l:List Rat,l.length<=n/\∀ x,f x=pq l x
theorem qZ.zero {n:Nat} {f:Rat->Rat} (h:qZ n f) (z:∀ i:Nat,i < n->f ((i:Int):Rat)=0) (x:Rat):f x=0:=by
 obtain⟨l,hl,e⟩:=h;rw [e];exact uj n l hl (λi hi=>by rw [<- e]; exact z i hi) x
theorem qZ.add {n:Nat} {f g:Rat->Rat} (h:qZ n f) (h':qZ n g):qZ n λx=>f x+g x:=by
 obtain⟨l,hl,e⟩:=h;obtain⟨l',hl',e'⟩:=h';exact⟨uL l l',tI hl hl',λx=>by show f x+g x=_; rw [uY,e,e']⟩
theorem qZ.c {n:Nat} {f:Rat->Rat} (c:Rat) (h:qZ n f):qZ n λx=>c*f x:=by
 obtain⟨l,hl,e⟩:=h;exact⟨l.map λa=>c*a,by rw [LG]; exact hl,λx=>by show c*f x=_; rw [C4,e]⟩
theorem qZ.x {n:Nat} {f:Rat->Rat} (h:qZ n f):qZ (n+1) λx=>x*f x:=by
 obtain⟨l,hl,e⟩:=h;exact⟨0::l,by show l.length+1<=n+1; omega,λx=>by show x*f x=0+x*pq l x; rw [e]; grind⟩
theorem qZ.up {m n:Nat} {f:Rat->Rat} (h:qZ m f) (hm:m<=n):qZ n f:=by
 obtain⟨l,hl,e⟩:=h;exact⟨l,by omega,e⟩
theorem qZ.congr {n:Nat} {f g:Rat->Rat} (h:qZ n f) (e:∀ x,g x=f x):qZ n g:=by
 obtain⟨l,hl,e'⟩:=h;exact⟨l,hl,λx=>by rw [e,e']⟩
structure GP (n:Nat) (g:Rat->Q):Prop where
 a:qZ n λx=>(g x).1
 b:qZ n λx=>(g x).2
theorem GP.lin {n:Nat} {g:Rat->Q} {u a b c d:Rat} (h:GP n g):GP (n+1) λx=>qm u (g x) (a+b*x,c+d*x):=by
 have a':=h.a.up (show n<=n+1 by omega)
 have b':=h.b.up (show n<=n+1 by omega)
 exact⟨((a'.c a).add ((h.a.x.c b).add ((b'.c (c*u)).add (h.b.x.c (d*u))))).congr λx=>by show(g x).1*(a+b*x)+(g x).2*(c+d*x)*u=_; grind,
  ((a'.c c).add ((h.a.x.c d).add ((b'.c a).add (h.b.x.c b)))).congr λx=>by show(g x).1*(c+d*x)+(g x).2*(a+b*x)=_; grind⟩
theorem GP.pw {n:Nat} {g:Rat->Q} {u a b c d:Rat} (h:GP n g):∀ k,GP (n+k) λx=>qm u (g x) (jR u (a+b*x,c+d*x) k)
 | 0=>⟨h.a.congr λx=>by show(g x).1*1+(g x).2*0*u=_; grind,h.b.congr λx=>by show(g x).1*0+(g x).2*1=_; grind⟩
 | k+1=>by
  have h1:=(GP.pw (u:=u) (a:=a) (b:=b) (c:=c) (d:=d) h k).lin (u:=u) (a:=a) (b:=b) (c:=c) (d:=d);have e:∀ x,qm u (g x) (jR u (a+b*x,c+d*x) (k+1))=qm u (qm u (g x) (jR u (a+b*x,c+d*x) k)) (a+b*x,c+d*x):=λx=>(EV _ _ _).symm
  exact⟨h1.a.congr λx=>by rw [e],h1.b.congr λx=>by rw [e]⟩
theorem GP.add {n:Nat} {f g:Rat->Q} (h:GP n f) (h':GP n g):GP n λx=>qa (f x) (g x):=⟨h.a.add h'.a,h.b.add h'.b⟩
theorem GP.k {n:Nat} {f:Rat->Q} (t:Rat) (h:GP n f):GP n λx=>qk t (f x):=⟨h.a.c t,h.b.c t⟩
theorem GP.one {n:Nat}:GP (n+1) λ_=>(1,0):=⟨⟨[1],by show 1<=n+1; omega,λx=>by show(1:Rat)=1+x*0; grind⟩,⟨[],by show 0<=n+1; omega,λx=>rfl⟩⟩
theorem GP.val {u a b c d a' b' c' d':Rat} {N:Nat}:∀ {t:Zr},(∀ p∈t,∃ i j:Int,p.1=[i,j]/\0<=i/\0<=j/\i+j<=N)->GP (N+1) λx=>oK u t (a+b*x,c+d*x) (a'+b'*x,c'+d'*x)
 | [],_=>⟨⟨[],Mw _,λx=>rfl⟩,⟨[],Mw _,λx=>rfl⟩⟩
 | p::t,h=>by
  obtain⟨i,j,e,i0,j0,ij⟩:=h p LL;have h1:=GP.val (u:=u) (a:=a) (b:=b) (c:=c) (d:=d) (a':=a') (b':=b') (c':=c') (d':=d') λq hq=>h q (LM _ hq)
  have h2:=((GP.one (n:=0)).pw (u:=u) (a:=a) (b:=b) (c:=c) (d:=d) i.toNat).pw (u:=u) (a:=a') (b:=b') (c:=c') (d:=d') j.toNat;have h3:GP (N+1) λx=>mon u (a+b*x,c+d*x) (a'+b'*x,c'+d'*x) p.1:=by
   have e1:∀ x,mon u (a+b*x,c+d*x) (a'+b'*x,c'+d'*x) p.1=qm u (qm u (1,0) (jR u (a+b*x,c+d*x) i.toNat)) (jR u (a'+b'*x,c'+d'*x) j.toNat):=λx=>by
    rw [e,show qm u (1,0) (jR u (a+b*x,c+d*x) i.toNat)=jR u (a+b*x,c+d*x) i.toNat by
     unfold qm;apply LX <;> dsimp only <;> grind]
    rfl
   exact⟨(h2.a.up (by omega)).congr λx=>by rw [e1],(h2.b.up (by omega)).congr λx=>by rw [e1]⟩
  exact(h3.k p.2).add h1
def zf (x0 y0:Rat) (g:Zr):Prop:=¬ ∀ f:Rat,oK (-1) g (x0+1*f,0+0*f) (y0+0*f,0+1*f)=(0,0)
theorem zf.few {x0 y0:Rat} {N:Nat} {g:Zr} (h:zf x0 y0 g) (hk:∀ p∈g,∃ i j:Int,p.1=[i,j]/\0<=i/\0<=j/\i+j<=N):∃ n:Nat,n<=N/\oK (-1) g (x0+((n:Int):Rat),0) (y0,((n:Int):Rat))≠(0,0):=by
 refine Classical.byContradiction λc=>h ?_
 have z:∀ i:Nat,i < N+1->oK (-1) g (x0+1*((i:Int):Rat),0+0*((i:Int):Rat)) (y0+0*((i:Int):Rat),0+1*((i:Int):Rat))=(0,0):=λi hi=>by
  refine Classical.byContradiction λn=>c ⟨i,by omega,λz=>n ?_⟩
  rw [<- z]
  congr 2 <;> grind
 have gp:=GP.val (u:=-1) (a:=x0) (b:=1) (c:=0) (d:=0) (a':=y0) (b':=0) (c':=0) (d':=1) hk;intro f;exact LX (gp.a.zero (λi hi=>congrArg Prod.fst (z i hi)) f) (gp.b.zero (λi hi=>congrArg Prod.snd (z i hi)) f)
abbrev kD (t:Zi):Zr:=t.map λp=>(p.1,(p.2:Rat))
theorem jt {x y:Rat}:∀ {t:Zi},vR (kD t) x y=vq t x y
 | []=>rfl
 | p::t=>by
  show(p.2:Rat)*mq p.1 x y+vR (kD t) x y=_
  rw [jt (t:=t)]
  rfl
theorem u0 (X Y:Int):∀ j:Nat,∃ a b h:Int,Y ^ j=a+Y*b+h*(X*X+Y*Y)/\jR (-1) (0,(X:Rat)) j=((a:Rat),(X:Rat)*b)
 | 0=>⟨1,0,0,by rw [Int.pow_zero]; omega,by show((1:Rat),(0:Rat))=((1:Rat),(X:Rat)*0); rw [Rat.mul_zero]⟩
 | j+1=>by
  obtain⟨a,b,h,e,q⟩:=u0 X Y j;refine⟨-(X*X)*b,a,b+h*Y,by rw [Int.pow_succ,e]; grind,?_⟩
  show qm (-1) (jR (-1) (0,(X:Rat)) j) (0,(X:Rat))=_
  rw [q];unfold qm;apply LX
  ·show(a:Rat)*0+(X:Rat)*b*X*-1=((-(X*X)*b:Int):Rat)
   rw [LB,Mh,LB];grind
  ·show(a:Rat)*X+(X:Rat)*b*0=(X:Rat)*a
   grind
theorem uU (X:Int):∀ i:Nat,jR (-1) ((X:Rat),0) i=(((X ^ i:Int):Rat),0)
 | 0=>by rw [Int.pow_zero]; rfl
 | i+1=>by
  show qm (-1) (jR (-1) ((X:Rat),0) i) ((X:Rat),0)=_
  rw [uU X i,Int.pow_succ,LB];unfold qm;apply LX <;> dsimp only <;> grind
theorem Jh (X Y:Int):∀ {t:Zi},(∀ p∈t,∃ i j,p.1=[i,j])->∃ A B h:Int,vl t X Y=A+Y*B+h*(X*X+Y*Y)/\oK (-1) (kD t) ((X:Rat),0) (0,(X:Rat))=((A:Rat),(X:Rat)*B)
 | [],_=>⟨0,0,0,by show(0:Int)=_; omega,by show((0:Rat),(0:Rat))=((0:Rat),(X:Rat)*0); rw [Rat.mul_zero]⟩
 | p::t,hk=>by
  obtain⟨A,B,h,e,q⟩:=Jh X Y λq hq=>hk q (LM _ hq)
  obtain⟨i,j,ek⟩:=hk p LL;obtain⟨a,b,h',e',q'⟩:=u0 X Y j.toNat;refine⟨p.2*X ^ i.toNat*a+A,p.2*X ^ i.toNat*b+B,p.2*X ^ i.toNat*h'+h,?_,?_⟩
  ·show p.2*mn p.1 X Y+vl t X Y=_
   rw [ek,e]
   show p.2*(X ^ i.toNat*Y ^ j.toNat)+_=_
   rw [e'];grind
  ·show qa (qk (p.2:Rat) (mon (-1) ((X:Rat),0) (0,(X:Rat)) p.1)) (oK (-1) (kD t) ((X:Rat),0) (0,(X:Rat)))=_
   rw [q,ek]
   show qa (qk (p.2:Rat) (qm (-1) (jR (-1) ((X:Rat),0) i.toNat) (jR (-1) (0,(X:Rat)) j.toNat))) _=_
   rw [q',uU];simp only [LW,LB];unfold qa qk qm;apply LX <;> dsimp only <;> grind
theorem Ih {N:Nat} {g:Zi} (hg:Tg N g) (h:JG g):zf 0 0 (kD g):=λz=>h (by
 have hc:∀ X Y:Int,∃ k:Int,1<=X->vl g X Y=k*(X*X+Y*Y):=λX Y=>by
  obtain⟨A,B,k,e,q⟩:=Jh X Y hg.two;refine⟨k,λhX=>?_⟩
  have z1:=z (X:Rat);rw [show ((0:Rat)+1*(X:Rat),(0:Rat)+0*(X:Rat))=((X:Rat),0) from LX (by grind) (by grind),show((0:Rat)+0*(X:Rat),(0:Rat)+1*(X:Rat))=(0,(X:Rat)) from LX (by grind) (by grind),q] at z1
  have a0:A=0:=by
   have:(A:Rat)=((0:Int):Rat):=congrArg Prod.fst z1;exact Mo.mp this
  have b0:B=0:=by
   have h1:(X:Rat)*B=0:=congrArg Prod.snd z1;have x0:(X:Rat)≠0:=λq=>by
    have:X=0:=Mo.mp (show (X:Rat)=((0:Int):Rat) from q)
    omega
   have:(B:Rat)=((0:Int):Rat):=(LR.mp h1).resolve_left x0;exact Mo.mp this
  rw [e,a0,b0];omega
 exact⟨λX Y=>Classical.choose (hc X Y),λX Y hX=>Classical.choose_spec (hc X Y) hX⟩)
theorem zf.shift {x0 y0 κ:Rat} {g h:Zr} (hg:∀ p∈g,∃ i j,p.1=[i,j]) (hh:∀ p∈h,∃ i j,p.1=[i,j]) (n:zf 0 0 g) (κ0:κ≠0) (e:∀ x y,vR h (x0+x) (y0+y)=κ*vR g x y):zf x0 y0 h:=λz=>n λf=>by
 have t:=dL.eq (u:=-1) (dL.val ((dL.const (-1) x0).add (dL.x _)) ((dL.const (-1) y0).add (dL.y _)) hh) ((dL.const (-1) κ).mul (dL.val (dL.x _) (dL.y _) hg)) e (0+1*f,0+0*f) (0+0*f,0+1*f);have t:oK (-1) h (qa (qo x0) (0+1*f,0+0*f)) (qa (qo y0) (0+0*f,0+1*f))=qm (-1) (qo κ) (oK (-1) g (0+1*f,0+0*f) (0+0*f,0+1*f)):=t;rw [show qa (qo x0) (0+1*f,0+0*f)=(x0+1*f,0+0*f) from LX (by show x0+(0+1*f)=_; grind) (by show 0+(0+0*f)=_; grind),show qa (qo y0) (0+0*f,0+1*f)=(y0+0*f,0+1*f) from LX (by show y0+(0+0*f)=_; grind) (by show 0+(0+1*f)=_; grind),z f] at t
 have t1:(0:Rat)=κ*(oK (-1) g (0+1*f,0+0*f) (0+0*f,0+1*f)).1+0*_*-1:=congrArg Prod.fst t;have t2:(0:Rat)=κ*(oK (-1) g (0+1*f,0+0*f) (0+0*f,0+1*f)).2+0*_:=congrArg Prod.snd t;have f1:κ*(oK (-1) g (0+1*f,0+0*f) (0+0*f,0+1*f)).1=0:=by grind
 have f2:κ*(oK (-1) g (0+1*f,0+0*f) (0+0*f,0+1*f)).2=0:=by grind
 exact LX ((LR.mp f1).resolve_left κ0) ((LR.mp f2).resolve_left κ0)
structure V4 where
 a:Rat
 b:Rat
 c:Rat
 d:Rat
structure Rp (u h x1 x2 y1 y2:Rat) (t b:V4):Prop where
 e1:t.a=x1*b.a+x2*(b.b*h)*u - (y1*b.c+y2*(b.d*h)*u)
 e2:t.b*h=x1*(b.b*h)+x2*b.a - (y1*(b.d*h)+y2*b.c)
 e3:t.c=x1*b.c+x2*(b.d*h)*u+(y1*b.a+y2*(b.b*h)*u)
 e4:t.d*h=x1*(b.d*h)+x2*b.c+(y1*(b.b*h)+y2*b.a)
def Nz (h:Rat) (v:V4):Prop:=¬ (v.a=0/\v.b*h=0/\v.c=0/\v.d*h=0)
def Lx (b:V4):Rat:=(b.a*b.b+b.b*b.a)+(b.c*b.d+b.d*b.c)
theorem FM {x:Rat} (h:x*x=0):x=0:=by
 rcases LR.mp h with z | z <;> exact z
inductive Ld where
 | shift (x y:Rat)
 | grow (x y b:Rat)
 | turn (x y p q:Rat)
 | mirror (a b c:Rat)
 | invert (x y p:Rat)
abbrev Z4:=Q×Q
structure Fl where
 p:Rat
 q:Rat
 r:Rat
 s:Rat
 m:M1
noncomputable def lR:Ld->Fl
 | .shift x y=>⟨1,0,x,y,false⟩
 | .mirror a b c=>⟨0+(a*a - b*b)*(-1 / (a*a+b*b)),0+(b*a+a*b)*(-1 / (a*a+b*b)),0+a*(-2*c / (a*a+b*b)),0+b*(-2*c / (a*a+b*b)),true⟩
 | .grow x y b=>⟨b,0,x - (b*x - 0*y),y - (0*x+b*y),false⟩
 | .turn x y p q=>⟨p,q,x - (p*x - q*y),y - (q*x+p*y),false⟩
 | .invert _ _ _=>⟨0,0,0,0,false⟩
def cu:Ld->M1
 | .invert _ _ _=>true
 | _=>false
def fZ:Ld->Prop
 | .turn _ _ p q=>p*p+q*q=1
 | .mirror a b _=>a*a+b*b≠0
 | .grow _ _ b=>b≠0
 | .invert _ _ p=>p≠0
 | _=>True
abbrev Rz (u h:Rat) (z:Z4) (t b:V4):Prop:=Rp u h z.1.1 z.1.2 z.2.1 z.2.2 t b
structure I4 where
 a:Int
 b:Int
 c:Int
 d:Int
def I4.v (i:I4):V4:=⟨i.a,i.b,i.c,i.d⟩
structure B4 (n:Nat) (i:I4):Prop where
 a:Bt n i.a
 b:Bt n i.b
 c:Bt n i.c
 d:Bt n i.d
def KR (h:Rat) (i:I4):Prop:=h=0->i.b=0/\i.d=0
theorem F7 {a b:Int} (ha:0 < a) (hb:0 < b):a.fdiv ((Int.gcd a b:Nat):Int)*b=((Int.lcm a b:Nat):Int):=by
 have g0:0 < ((Int.gcd a b:Nat):Int):=by
  have:=Int.gcd_pos_of_ne_zero_left (a:=a) b (by omega)
  omega
 rw [EA _ g0];have h1:((Int.gcd a b:Nat):Int)*((Int.lcm a b:Nat):Int)=a*b:=by
  have:=Int.gcd_mul_lcm a b;have e:((Int.gcd a b*Int.lcm a b:Nat):Int)=(((a*b).natAbs:Nat):Int):=by rw [this,MC]
  rw [Int.natCast_mul] at e;rw [e];have:=Int.mul_pos ha hb;omega
 have h2:((Int.gcd a b:Nat):Int) ∣ a:=Int.gcd_dvd_left ..;have h3:((Int.gcd a b:Nat):Int)*(a / ((Int.gcd a b:Nat):Int))=a:=Int.mul_ediv_cancel' h2;have h4:((Int.gcd a b:Nat):Int)*(a / ((Int.gcd a b:Nat):Int)*b)=((Int.gcd a b:Nat):Int)*((Int.lcm a b:Nat):Int):=by
  rw [h1,<- Int.mul_assoc,h3]
 exact Int.eq_of_mul_eq_mul_left (by omega) h4
theorem lcm_pos {a b:Int} (ha:0 < a) (hb:0 < b):0 < ((Int.lcm a b:Nat):Int):=by
 have:=Int.lcm_pos (m:=a) (n:=b) (by omega) (by omega)
 omega
theorem G9 {m n:Nat} {a b:Int} (ha:Bt m a) (hb:Bt n b) (pa:0 < a) (pb:0 < b):Bt (m+n) ((Int.lcm a b:Nat):Int):=by
 rw [<- F7 pa pb];exact Bt.mul (ha.le (HM.aN _ _)) hb
def jq (m:Int):List Rat->Int
 | []=>m
 | q::qs=>jq ((Int.lcm m (q.den:Int):Nat):Int) qs
theorem j4 (q:Rat):0 < (q.den:Int):=by have:=q.den_pos; omega
theorem pR:∀ {qs:List Rat} {m:Int},0 < m->0 < jq m qs
 | [],_,h=>h
 | q::qs,_,h=>pR (qs:=qs) (lcm_pos h (j4 q))
theorem oZ:∀ {qs:List Rat} {m:Int},m ∣ jq m qs/\∀ q∈qs,(q.den:Int) ∣ jq m qs
 | [],m=>⟨Int.dvd_refl _,λ_ h=>nomatch h⟩
 | p::qs,m=>by
  obtain⟨h1,h2⟩:=oZ (qs:=qs) (m:=((Int.lcm m (p.den:Int):Nat):Int));refine⟨Int.dvd_trans (Int.dvd_lcm_left ..) h1,λq hq=>?_⟩
  rcases LJ.mp hq with rfl | hq
  ·exact Int.dvd_trans (Int.dvd_lcm_right ..) h1
  ·exact h2 q hq
theorem lA:∀ {qs:List Rat} {m k:Int},m ∣ k->(∀ q∈qs,(q.den:Int) ∣ k)->jq m qs ∣ k
 | [],_,_,h,_=>h
 | p::qs,m,k,h,hq=>lA (qs:=qs) (Int.coe_lcm_dvd h (hq p LL)) λq h=>hq q (LM _ h)
theorem oA {q:Rat} {k P:Int} (e:q*k=P):(q.den:Int) ∣ k:=by
 have h1:(q.num:Rat)=q*(q.den:Rat):=iq q;have h2:((q.num*k:Int):Rat)=((P*(q.den:Int):Int):Rat):=by
  rw [LB,LB,h1,<- e]
  show q*(q.den:Rat)*(k:Rat)=q*(k:Rat)*((q.den:Int):Rat)
  rw [show (((q.den:Nat):Int):Rat)=(q.den:Rat) from rfl]
  grind
 have h3:q.num*k=P*(q.den:Int):=by exact_mod_cast h2
 have h4:(q.den:Int) ∣ q.num*k:=⟨P,by rw [h3,Int.mul_comm]⟩
 have h5:q.den ∣ q.num.natAbs*k.natAbs:=by
  rw [<- MC];exact Int.ofNat_dvd_left.mp h4
 exact Int.ofNat_dvd_left.mpr (Nat.Coprime.dvd_of_dvd_mul_left q.reduced.symm h5)
def dW (q:Rat) (m:Int):Int:=q.num*m.fdiv (q.den:Int)
theorem lN {q:Rat} {m:Int} (h:(q.den:Int) ∣ m):(dW q m:Rat)=q*(m:Rat):=by
 obtain⟨j,rfl⟩:=h;unfold dW;rw [EA _ (j4 q),Int.mul_ediv_cancel_left _ (iQ q),LB,LB,iq q]
 show q*(q.den:Rat)*(j:Rat)=q*((((q.den:Nat):Int):Rat)*(j:Rat))
 rw [show (((q.den:Nat):Int):Rat)=(q.den:Rat) from rfl]
 grind
theorem sO {n:Nat} {q:Rat} {m k P:Int} (e:q*k=P) (h:(q.den:Int) ∣ m) (hm:m ∣ k) (k0:k≠0) (hP:Bt n P):Bt n (dW q m):=by
 refine hP.le ?_;have e1:=lN h;have e2:dW q m*k=P*m:=by
  have:((dW q m*k:Int):Rat)=((P*m:Int):Rat):=by
   rw [LB,LB,e1,<- e]; grind
  exact_mod_cast this
 have e3:(dW q m).natAbs*k.natAbs=P.natAbs*m.natAbs:=by rw [<- MC,<- MC,e2]
 have h4:m.natAbs<=k.natAbs:=Nat.le_of_dvd (by omega) (Mu.mpr hm)
 have h5:=Nat.mul_le_mul_left P.natAbs h4;rw [<- e3] at h5;exact Nat.le_of_mul_le_mul_right h5 (by omega)
theorem nd (q:Rat):((q.num:Int):Rat)=q*(((q.den:Nat):Int):Rat):=iq q
theorem dn (q:Rat):(((q.den:Nat):Int):Rat)≠0:=wm q
def ig:Ld->Prop
 | .shift x y=>Sz 24 x/\Sz 24 y
 | .grow x y b=>Sz 24 x/\Sz 24 y/\Sz 24 b
 | .turn x y p q=>Sz 24 x/\Sz 24 y/\∃ P Q E:Int,E≠0/\Bt 40 P/\Bt 40 Q/\Bt 40 E/\p*E=P/\q*E=Q
 | .mirror a b c=>Sz 24 a/\Sz 24 b/\Sz 24 c
 | .invert x y p=>Sz 24 x/\Sz 24 y/\Sz 26 p
structure A6 (f:Fl) (k P Q R S:Int):Prop where
 k0:k≠0
 bk:Bt 136 k
 bP:Bt 136 P
 bQ:Bt 136 Q
 bR:Bt 136 R
 bS:Bt 136 S
 p:f.p*k=P
 q:f.q*k=Q
 r:f.r*k=R
 s:f.s*k=S
theorem qx {x y p q:Rat} {P Q E:Int} (hx:Sz 24 x) (hy:Sz 24 y) (e0:E≠0) (bP:Bt 40 P) (bQ:Bt 40 Q) (bE:Bt 40 E) (hp:p*E=P) (hq:q*E=Q):
  A6 ⟨p,q,x - (p*x - q*y),y - (q*x+p*y),false⟩ (E*((x.den:Int)*(y.den:Int))) (P*((x.den:Int)*(y.den:Int))) (Q*((x.den:Int)*(y.den:Int)))
   (x.num*E*(y.den:Int) - (P*x.num*(y.den:Int) - Q*y.num*(x.den:Int))) (y.num*E*(x.den:Int) - (Q*x.num*(y.den:Int)+P*y.num*(x.den:Int))) where
 k0:=Int.mul_ne_zero e0 (az x y)
 bk:=(bE.mul (hx.den.mul hy.den)).mono
 bP:=(bP.mul (hx.den.mul hy.den)).mono
 bQ:=(bQ.mul (hx.den.mul hy.den)).mono
 bR:=(((hx.num.mul bE).mul hy.den).sub (((bP.mul hx.num).mul hy.den).sub ((bQ.mul hy.num).mul hx.den))).mono
 bS:=(((hy.num.mul bE).mul hx.den).sub (((bQ.mul hx.num).mul hy.den).add ((bP.mul hy.num).mul hx.den))).mono
 p:=by simp only [LB,Rat.intCast_sub,LW]; rw [<- hp]; grind
 q:=by simp only [LB,Rat.intCast_sub,LW]; rw [<- hq]; grind
 r:=by simp only [LB,Rat.intCast_sub,LW]; rw [<- hp,<- hq,nd x,nd y]; grind
 s:=by simp only [LB,Rat.intCast_sub,LW]; rw [<- hp,<- hq,nd x,nd y]; grind
theorem ww {a b c:Rat} (ha:Sz 24 a) (hb:Sz 24 b) (hc:Sz 24 c) (n:a*a+b*b≠0):∃ k P Q R S,A6 (lR (.mirror a b c)) k P Q R S:=by
 have dA:=dn a;have dB:=dn b;have dC:=dn c;have bA:Bt 48 (a.num*(b.den:Int)):=ha.num.mul hb.den;have bB:Bt 48 (b.num*(a.den:Int)):=hb.num.mul ha.den;have eA:((a.num*(b.den:Int):Int):Rat)=a*(((a.den:Int):Rat)*((b.den:Int):Rat)):=by rw [LB,nd a]; grind
 have eB:((b.num*(a.den:Int):Int):Rat)=b*(((a.den:Int):Rat)*((b.den:Int):Rat)):=by rw [LB,nd b]; grind
 generalize a.num*(b.den:Int)=A at bA eA
 generalize b.num*(a.den:Int)=B at bB eB
 have eC:=nd c;have dd:(((a.den:Int)*(b.den:Int):Int):Rat)=((a.den:Int):Rat)*((b.den:Int):Rat):=by rw [LB]
 have bd:Bt 48 ((a.den:Int)*(b.den:Int)):=ha.den.mul hb.den;have dne:((a.den:Int):Rat)*((b.den:Int):Rat)≠0:=λz=>by rcases LR.mp z with q | q; exact dA q; exact dB q
 rw [<- dd] at eA eB dne
 generalize (a.den:Int)*(b.den:Int)=d at bd eA eB dne
 have es:((A*A+B*B:Int):Rat)=(a*a+b*b)*((d:Rat)*(d:Rat)):=by
  rw [LW,LB,LB,eA,eB]; grind
 have sne:((A*A+B*B:Int):Rat)≠0:=λz=>by
  rw [es] at z;rcases LR.mp z with q | q
  ·exact n q
  ·rcases LR.mp q with q | q <;> exact dne q
 have s0:A*A+B*B≠0:=λz=>sne (by rw [z]; rfl)
 refine⟨(A*A+B*B)*(c.den:Int),-(A*A - B*B)*(c.den:Int),-(B*A+A*B)*(c.den:Int),-(A*d*c.num+A*d*c.num),-(B*d*c.num+B*d*c.num),⟨Int.mul_ne_zero s0 (iQ c),?_,?_,?_,?_,?_,?_,?_,?_,?_⟩⟩
 ·exact(((bA.mul bA).add (bB.mul bB)).mul hc.den).mono
 ·exact(((bA.mul bA).sub (bB.mul bB)).neg.mul hc.den).mono
 ·exact(((bB.mul bA).add (bA.mul bB)).neg.mul hc.den).mono
 ·exact((((bA.mul bd).mul hc.num).add ((bA.mul bd).mul hc.num)).neg).mono
 ·exact((((bB.mul bd).mul hc.num).add ((bB.mul bd).mul hc.num)).neg).mono
 all_goals
  simp only [lR];rw [LB] <;> rw [es]
  simp only [LB,Rat.intCast_sub,LW,Mh]
  try rw [eA]
  try rw [eB]
  try rw [eC]
  generalize a*a+b*b=k at n;grind
theorem KJ:Bt 1 0:=by show(0:Int).natAbs < 2 ^ 1; decide
theorem Es:Bt 1 1:=by show(1:Int).natAbs < 2 ^ 1; decide
theorem Bm {l:Ld} (ok:fZ l) (sz:ig l) (hl:cu l=false):∃ k P Q R S,A6 (lR l) k P Q R S:=by
 cases l with
 | shift x y=>
  have h:=qx (p:=1) (q:=0) (P:=1) (Q:=0) (E:=1) sz.1 sz.2 (by decide) (Es.mono) (KJ.mono) (Es.mono) (by show(1:Rat)*1=1; grind) (by show(0:Rat)*1=0; grind)
  obtain⟨k0,bk,bP,bQ,_,_,p,q,_,_⟩:=h;simp only at p q
  refine⟨_,_,_,x.num*(y.den:Int),y.num*(x.den:Int),⟨k0,bk,bP,bQ,(sz.1.num.mul sz.2.den).mono,(sz.2.num.mul sz.1.den).mono,p,q,?_,?_⟩⟩
  ·simp only [lR,LB]; rw [nd x]; show x*(1*_)=_; grind
  ·simp only [lR,LB]; rw [nd y]; show y*(1*_)=_; grind
 | grow x y b=>exact⟨_,_,_,_,_,qx (p:=b) (q:=0) (P:=b.num) (Q:=0) (E:=(b.den:Int)) sz.1 sz.2.1 (iQ b) (sz.2.2.num.mono) (KJ.mono) (sz.2.2.den.mono) (nd b).symm (by show(0:Rat)*_=0; grind)⟩
 | turn x y p q=>
  obtain⟨hx,hy,P,Q,E,e0,bP,bQ,bE,hp,hq⟩:=sz;exact⟨_,_,_,_,_,qx hx hy e0 bP bQ bE hp hq⟩
 | mirror a b c=>exact ww sz.1 sz.2.1 sz.2.2 ok
 | invert x y p=>cases hl
theorem ov {n:Nat} {x:Rat} {D k:Int} (d0:D≠0) (bd:Bt n D) (e:x*D=k) (bk:Bt n k):Sz n x:=by
 have h:x=Rat.divInt k D:=by
  have dr:(D:Rat)≠0:=λz=>d0 (by exact_mod_cast z)
  rw [Me,<- e]; grind
 rw [h]; exact Sz.divInt bk bd d0
def eH (f:Fl):Int:=jq 1 [f.p,f.q,f.r,f.s]
structure aD (u h:Rat) (n:Nat) (z:Z4) (t b:I4):Prop where
 bt:B4 n t
 bb:B4 n b
 pt:KR h t
 pb:KR h b
 nz:Nz h b.v
 r:Rz u h z t.v b.v
theorem Dz {f:Fl} {k P Q R S:Int} (F:A6 f k P Q R S):A6 f (eH f) (dW f.p (eH f)) (dW f.q (eH f)) (dW f.r (eH f)) (dW f.s (eH f)):=by
 have hd:eH f ∣ k:=lA (Int.one_dvd k) λq h=>by
  simp only [LJ,LU,or_false] at h;rcases h with rfl | rfl | rfl | rfl
  ·exact oA F.p
  ·exact oA F.q
  ·exact oA F.r
  ·exact oA F.s
 have hq:=(oZ (qs:=[f.p,f.q,f.r,f.s]) (m:=1)).2;have h0:0 < eH f:=pR (by decide)
 have d1:(f.p.den:Int) ∣ eH f:=hq f.p (by simp)
 have d2:(f.q.den:Int) ∣ eH f:=hq f.q (by simp)
 have d3:(f.r.den:Int) ∣ eH f:=hq f.r (by simp)
 have d4:(f.s.den:Int) ∣ eH f:=hq f.s (by simp)
 exact⟨by omega,nO hd F.k0 F.bk,sO F.p d1 hd F.k0 F.bP,sO F.q d2 hd F.k0 F.bQ,sO F.r d3 hd F.k0 F.bR,sO F.s d4 hd F.k0 F.bS,(lN d1).symm,(lN d2).symm,(lN d3).symm,(lN d4).symm⟩
theorem HP {l:Ld} (ok:fZ l) (sz:ig l) (hl:cu l=false):Sz 160 (lR l).p/\Sz 160 (lR l).q/\Sz 160 (lR l).r/\Sz 160 (lR l).s:=by
 obtain⟨k,P,Q,R,S,F⟩:=Bm ok sz hl;exact⟨(ov F.k0 F.bk F.p F.bP).mono,(ov F.k0 F.bk F.q F.bQ).mono,(ov F.k0 F.bk F.r F.bR).mono,(ov F.k0 F.bk F.s F.bS).mono⟩
theorem sY {n:Nat} (h:n < 300):n < sizeLine:=LN h (LV (rfl:Nat.ble 300 sizeLine=true))
abbrev KZ (f:Fl):D:=.tup [W f.p f.q,W f.r f.s,.bl f.m]
def ii:Ld->D
 | .shift x y=>.tup [.str "shift",fr x,fr y]
 | .grow x y b=>.tup [.str "grow",fr x,fr y,fr b]
 | .turn x y p q=>.tup [.str "turn",fr x,fr y,fr p,fr q]
 | .mirror a b c=>.tup [.str "mirror",fr a,fr b,fr c]
 | .invert x y p=>.tup [.str "invert",fr x,fr y,fr p]
def fD:cH:=λds S k=>∃ qs:List Rat,ds=[.tup (qs.map fr)]/\(∀ q∈qs,Sz 480 q)/\qs.length<=4/\k (.int (jq 1 qs)) S
theorem eM:au ["fractions","bottom","fraction"] ["fractions"] (ap iV):=dX
theorem mj (Fn:FN K "common_bottom" iV f fd) (bZ:bj P w K mg base "common_multiple" 34 eZ):
  aT P w K mg base c8 35 f fd ["fractions"] (dk K fD):=by
 refine Fn.okJ eM (λds S k h=>?_) (λcdv A outer s H E hr=>⟨_,(af (ai (i:=1) eM.nd ae) (af (d_ PassesOwn.never rfl (ah 0) (ar (i:=2) cU.nd) (aj (ai (i:=1) eM.nd (dq bZ hr (aG 1 (aa (aJ 2) ac)))))) (aj (ao (ah 1))))),λds S k h=>?_⟩)
 ·obtain⟨_,rfl,_⟩:=h
  rfl
 ·obtain⟨qs,rfl,hq,hl,w⟩:=h;refine⟨(qs.map fr,none),rfl,?_⟩;refine aL (λr L S'=>S'=S/\∃ (rs:List Rat) (m:Int) (n:Nat) (l2:MS D),L=[some (.tup (qs.map fr)),some (.int m),l2]/\r=rs.map fr/\jq 1 qs=jq m rs/\0 < m/\Bt n m/\n+480*rs.length<=2400/\∀ q∈rs,Sz 480 q) (λ_ _ _ _=>trivial) ?_ ?_ _ _ _ ⟨rfl,qs,1,1,none,rfl,rfl,rfl,by decide,Es,by omega,hq⟩
  ·rintro d r L S1 N1 ⟨rfl,rs,m,n,l2,rfl,er,hm,m0,bm,hn,hr⟩ hN;cases rs with
   | nil=>cases er
   | cons q rs=>
    cases er;have hn:n+480*(rs.length+1)<=2400:=hn;have hq:=hr q LL;exact⟨m,(q.den:Int),rfl,m0,j4 q,bm.mono,hq.den.mono,hN _ _ ⟨rfl,rs,_,n+480,_,rfl,rfl,hm,lcm_pos m0 (j4 q),G9 bm hq.den m0 (j4 q),by omega,λp hp=>hr p (LM _ hp)⟩⟩
  ·rintro L S1 ⟨rfl,rs,m,n,l2,rfl,er,hm,_⟩;cases rs with
   | nil=>rw [hm] at w; exact w
   | cons _ _=>cases er
def iH:cH:=λds S k=>∃ (x y:Rat) (m:Int),ds=[W x y,.int m]/\Sz 480 x/\Sz 480 y/\Bt 8000 m/\∀ S' p,aK S S'->S' p=some (.lst [.int (dW x m),.int (dW y m)])->k (.ref p) S'
theorem o_:au ["fractions","bottom"] ["fractions","bottom"] (ap iE):=dX
theorem o6 (Fn:FN K "wholes_over" iE f fd):
  aT P w K mg base c8 1 f fd ["fractions","bottom"] (dk K iH):=by
 refine Fn.okJ o_ (λds S k h=>?_) (λcdv A outer s H E hr=>⟨_,(aj (ao (A_ rfl (cB (N:=["fraction","bottom"]) (cap:=[none,some 1]) rfl rfl rfl rfl ⟨rfl,trivial⟩ rfl rfl ⟨⟨rfl,.inl rfl,.inl rfl⟩,trivial⟩) (ah 0) (λ_ _ _ _=>(ar (i:=0) (show List.Nodup (["fraction","bottom"]:List Str) from by decide +kernel))) (λ_ _ _ _=>(aw bK (aJ 0) (aw B6 (ah 1) (aJ 0))))))),λds S k h=>?_⟩)
 ·obtain⟨_,_,_,rfl,_⟩:=h
  rfl
 ·obtain⟨x,y,m,rfl,hx,hy,hm,w⟩:=h;refine⟨([fr x,fr y],none),rfl,λp hp=>?_⟩
  refine⟨trivial,Ki (iQ x) hx.den,iF hx.num (hm.le (HM.aN _ _)),ak,sY (by show 0 < 300; decide),?_⟩
  refine⟨trivial,Ki (iQ y) hy.den,iF hy.num (hm.le (HM.aN _ _)),ak,sY (by show 1 < 300; decide),?_⟩
  exact⟨trivial,w _ p (((aK.new hp).put hp).put hp) ak⟩
def t9:cH:=λds S k=>∃ x y p q:Rat,ds=[W x y,W p q]/\Sz 800 x/\Sz 800 y/\Sz 800 p/\Sz 800 q/\k (W (p*x - q*y) (q*x+p*y)) S
theorem yJ:au ["way","by"] ["way","by"] (ap oT):=dX
theorem yA (Fn:FN K "turned" oT f fd) (iT:bj P w K mg base "plus" 35 tY) (cM:bj P w K mg base "times" 35 lW) (jM:bj P w K mg base "minus" 35 rY):
  aT P w K mg base c8 36 f fd ["way","by"] (dk K t9):=by
 refine Fn.okJ yJ (λds S k h=>?_) (λcdv A outer s H E hr=>⟨_,(aj (ao (aq (aa (dq jM hr (aa (dq cM hr (aa (aJ 1) (aa (aJ 0) ac))) (aa (dq cM hr (aa (aJ 1) (aa (aJ 0) ac))) ac))) (aa (dq iT hr (aa (dq cM hr (aa (aJ 1) (aa (aJ 0) ac))) (aa (dq cM hr (aa (aJ 1) (aa (aJ 0) ac))) ac))) ac))))),λds S k h=>?_⟩)
 ·obtain⟨_,_,_,_,rfl,_⟩:=h
  rfl
 ·obtain⟨x,y,p,q,rfl,hx,hy,hp,hq,w⟩:=h;exact⟨p,x,rfl,hp.mono,hx.mono,q,y,rfl,hq.mono,hy.mono,_,_,rfl,(hp.mul hx).mono,(hq.mul hy).mono,q,x,rfl,hq.mono,hx.mono,p,y,rfl,hp.mono,hy.mono,_,_,rfl,(hq.mul hx).mono,(hp.mul hy).mono,few,w⟩
def AI:cH:=λds S k=>∃ l:Ld,ds=[ii l]/\cu l=false/\fZ l/\ig l/\k (KZ (lR l)) S
theorem ml:au ["lead","by","across","square"] ["lead"] (ap wO):=dX
theorem DU (Fn:FN K "flat" wO f fd) (eL:bj P w K mg base "product_of_ways" 36 ir) (oM:bj P w K mg base "moved" 36 xg) (lD:bj P w K mg base "over" 35 wC) (lS:bj P w K mg base "turned" 36 t9) (cM:bj P w K mg base "times" 35 lW) (j6:bj P w K mg base "plain_way" 36 n_) (m8:A9 K mg "ORIGIN" [[0,1],[0,1]]) (mF:yU K mg "NOUGHT" [0,1]) (rG:yU K mg "ONE" [1,1]):
  aT P w K mg base c8 37 f fd ["lead"] (dk K AI):=by
 refine Fn.okJ ml (λds S k h=>?_) (λcdv A outer s H E hr=>⟨_,(af (aE (ax fe (aJ 0) bX (aA _)) (aj (ao (aq (aa (aq (aa (s9 rG rfl) (aa (s9 mF rfl) ac))) (aa (gB (ah 0) (cL ae) lZ) (aa fN ac)))))) aF) (af (aE (ax fe (aJ 0) bX (aA _)) (af (ai (i:=2) ml.nd (gB (ah 0) (cL ae) (cL ae))) (af (ai (i:=3) ml.nd (dq eL hr (aG 2 (aG 2 ac)))) (af (ai (i:=1) ml.nd (dq oM hr (aa (xk m8 rfl) (aa (dq lS hr (aG 2 (aG 2 ac))) (aa (dq lD hr (aa (aq (aa (eE eF ae) (aa ae ac))) (aG 3 ac))) ac))))) (aj (ao (aq (aG 1 (aa (dq oM hr (aa (xk m8 rfl) (aG 2 (aa (dq lD hr (aa (dq cM hr (aa (aq (aa (eE eF ae) (aa ae ac))) (aa (aJ 0) ac))) (aG 3 ac))) ac)))) (aa fN ac))))))))) aF) (af (ai (i:=1) ml.nd (uV (ax fe (aJ 0) bX (aA _)) (aq (aa (aJ 0) (aa (s9 mF rfl) ac))) (gB (ah 0) (cL ae) lZ))) (aj (ao (aq (aG 1 (aa (dq j6 hr (aa (dq lS hr (aa (gB (ah 0) (cL ae) (cL ae)) (aG 1 ac))) (aa (gB (ah 0) (cL ae) (cL ae)) ac))) (aa fN ac))))))))),λds S k h=>?_⟩)
 ·obtain⟨_,rfl,_⟩:=h
  rfl
 ·obtain⟨l,rfl,hl,ok,sz,w⟩:=h;have c31:¬ (HT.dD 3 0 (some 1)=0/\HT.dD 3 3 none=3):=by decide
  have c4:¬ (HT.dD 4 0 (some 1)=0/\HT.dD 4 4 (some 3)=4):=by decide
  have c5:¬ (HT.dD 5 0 (some 1)=0/\HT.dD 5 5 (some 3)=5):=by decide
  have c53:¬ (HT.dD 5 0 (some 3)=0/\HT.dD 5 5 none=5):=by decide
  have s1:Sz 2 (-1:Rat):=⟨by decide,by decide⟩
  have s2:Sz 2 (-2:Rat):=⟨by decide,by decide⟩
  cases l with
  | shift x y=>exact⟨few,c31,few,w⟩
  | mirror a b c=>
   obtain⟨ha,hb,hc⟩:=sz;have n:a*a+b*b≠0:=ok;have sA:=(ha.mul ha).add (hb.mul hb);have t1:=(ha.mul ha).sub (hb.mul hb);have t2:=(hb.mul ha).add (ha.mul hb);have v1:=s1.div sA n;have v2:=(s2.mul hc).div sA n;exact⟨c4,a,b,a,b,rfl,ha.mono,hb.mono,ha.mono,hb.mono,a,b,a,b,rfl,ha.mono,hb.mono,ha.mono,hb.mono,few,-1,_,rfl,n,s1.mono,sA.mono,0,0,_,_,_,rfl,Sz.zero.mono,Sz.zero.mono,t1.mono,t2.mono,v1.mono,few,-2,c,rfl,s2.mono,hc.mono,_,_,rfl,n,(s2.mul hc).mono,sA.mono,0,0,a,b,_,rfl,Sz.zero.mono,Sz.zero.mono,ha.mono,hb.mono,v2.mono,few,w⟩
  | grow x y b=>
   obtain⟨hx,hy,hb⟩:=sz;have z0:Sz 24 (0:Rat):=Sz.zero.mono
   exact⟨few,c4,x,y,b,0,rfl,hx.mono,hy.mono,hb.mono,z0.mono,c4,_,_,x,y,rfl,((hb.mul hx).sub (z0.mul hy)).mono,((z0.mul hx).add (hb.mul hy)).mono,hx.mono,hy.mono,few,w⟩
  | turn x y p q=>
   obtain⟨hx,hy,P,Q,E,e0,bP,bQ,bE,ep,eq⟩:=sz;have hp:Sz 40 p:=ov e0 bE ep bP;have hq:Sz 40 q:=ov e0 bE eq bQ;exact⟨c53,c5,x,y,p,q,rfl,hx.mono,hy.mono,hp.mono,hq.mono,c5,_,_,x,y,rfl,((hp.mul hx).sub (hq.mul hy)).mono,((hq.mul hx).add (hp.mul hy)).mono,hx.mono,hy.mono,few,w⟩
  | invert x y p=>cases hl
def bk:Ld->Ld
 | .shift x y=>.shift (-x) (-y)
 | .grow x y b=>.grow x y (1 / b)
 | .turn x y p q=>.turn x y p (-q)
 | l=>l
theorem tK {n:Nat} {b:Rat} (h:Sz n b) (b0:b≠0):Sz n (1 / b):=by
 rw [show 1 / b=b⁻¹ by grind]
 refine⟨?_,?_⟩
 ·rw [Rat.num_inv];refine h.den.le ?_;rw [MC];have:b.num.sign.natAbs<=1:=by
   rcases Int.lt_trichotomy b.num 0 with z | z | z
   ·rw [Int.sign_eq_neg_one_of_neg z]; decide
   ·rw [z]; decide
   ·rw [Int.sign_eq_one_of_pos z]; decide
  calc b.num.sign.natAbs*(b.den:Int).natAbs<=1*(b.den:Int).natAbs:=Nat.mul_le_mul_right _ this
   _=_:=Nat.one_mul _
 ·rw [Rat.den_inv,if_neg (λz=>b0 (MM.mp z))]
  exact h.num.le (by omega)
theorem Ec {l:Ld} (h:fZ l):fZ (bk l):=by
 cases l with
 | shift x y=>trivial
 | grow x y b=>
  have h:b≠0:=h
  show 1 / b≠0
  grind
 | turn x y p q=>
  have h:p*p+q*q=1:=h
  show p*p+-q*-q=1
  grind
 | mirror a b c=>exact h
 | invert x y p=>exact h
theorem EH {l:Ld} (ok:fZ l) (h:ig l):ig (bk l):=by
 cases l with
 | shift x y=>exact⟨h.1.neg,h.2.neg⟩
 | grow x y b=>exact⟨h.1,h.2.1,tK h.2.2 ok⟩
 | turn x y p q=>
  obtain⟨hx,hy,P,Q,E,e0,bP,bQ,bE,ep,eq⟩:=h;exact⟨hx,hy,P,-Q,E,e0,bP,bQ.neg,bE,ep,by rw [Mh,<- eq]; grind⟩
 | mirror a b c=>exact h
 | invert x y p=>exact h
def Ba:cH:=λds S k=>∃ l:Ld,ds=[ii l]/\fZ l/\ig l/\k (ii (bk l)) S
theorem CL:au ["lead"] ["lead"] (ap wo):=dX
theorem C0 (Fn:FN K "back" wo f fd) (h_:bj P w K mg base "negative" 1 pN) (lD:bj P w K mg base "over" 35 wC) (rG:yU K mg "ONE" [1,1]):
  aT P w K mg base c8 36 f fd ["lead"] (dk K Ba):=by
 refine Fn.okJ CL (λds S k h=>?_) (λcdv A outer s H E hr=>⟨_,(af (aE (ax fe (aJ 0) bX (aA _)) (aj (ao (aq (aa bX (aa (dq h_ hr (aa (aJ 0) ac)) (aa (dq h_ hr (aa (aJ 0) ac)) ac)))))) aF) (af (aE (ax fe (aJ 0) bX (aA _)) (aj (ao (aq (aa bX (aa (aJ 0) (aa (aJ 0) (aa (dq lD hr (aa (s9 rG rfl) (aa (aJ 0) ac))) ac))))))) aF) (af (aE (ax fe (aJ 0) bX (aA _)) (aj (ao (aq (aa bX (aa (aJ 0) (aa (aJ 0) (aa (aJ 0) (aa (dq h_ hr (aa (aJ 0) ac)) ac)))))))) aF) (aj (ao (ah 0)))))),λds S k h=>?_⟩)
 ·obtain⟨_,rfl,_⟩:=h
  rfl
 ·obtain⟨l,rfl,ok,sz,w⟩:=h;cases l with
  | shift x y=>exact⟨_,rfl,_,rfl,few,w⟩
  | grow x y b=>exact⟨1,b,rfl,ok,(show Sz 1 (1:Rat) from⟨by decide,by decide⟩).mono,sz.2.2.mono,few,w⟩
  | turn x y p q=>exact⟨_,rfl,few,w⟩
  | mirror a b c=>exact w
  | invert x y p=>exact w
theorem i0 {z:Int}:(z:Rat)=0↔z=0:=⟨λh=>Mo.mp (by rw [h]; rfl),λh=>by rw [h]; rfl⟩
def gw:Ld->Rat
 | .grow _ _ b=>b
 | _=>1
theorem Di {l:Ld} (ok:fZ l) (hl:cu l=false):(lR l).p*(lR l).p+(lR l).q*(lR l).q=gw l*gw l:=by
 cases l with
 | shift x y=>show(1:Rat)*1+0*0=1*1; grind
 | grow x y b=>show b*b+0*0=b*b; grind
 | turn x y p q=>
  have ok:p*p+q*q=1:=ok
  show p*p+q*q=1*1
  grind
 | mirror a b c=>
  have ok:a*a+b*b≠0:=ok
  show(0+(a*a - b*b)*(-1 / (a*a+b*b)))*(0+(a*a - b*b)*(-1 / (a*a+b*b)))+(0+(b*a+a*b)*(-1 / (a*a+b*b)))*(0+(b*a+a*b)*(-1 / (a*a+b*b)))=1*1
  have e:-1 / (a*a+b*b)*(a*a+b*b)=-1:=by generalize a*a+b*b=s at ok; grind
  generalize -1 / (a*a+b*b)=r at e;grind
 | invert x y p=>cases hl
theorem BE {l:Ld}:cu (bk l)=cu l:=by cases l <;> rfl
theorem Jw {l:Ld} (ok:fZ l):gw (bk l)*gw l=1:=by
 cases l with
 | grow x y b=>
  have ok:b≠0:=ok
  show 1 / b*b=1
  grind
 | shift x y=>show(1:Rat)*1=1; grind
 | turn x y p q=>show(1:Rat)*1=1; grind
 | mirror x y p=>show(1:Rat)*1=1; grind
 | invert x y p=>show(1:Rat)*1=1; grind
theorem Gw {c:Zr} {ns:Zi} {B:Int} {T:Nat} (h:oI c ns) (B0:0 < B) (hd:Dn B T c):∀ p∈ns,Bt T p.2:=by
 obtain⟨t,t0,f1,f2⟩:=h.sc;have b0:(B:Rat)≠0:=λz=>by
  have:=Mo.mp (show (B:Rat)=((0:Int):Rat) from z)
  omega
 generalize hr:(B:Rat) / t=r;have r0:r≠0:=by
  rw [<- hr];intro z;exact b0 (by grind)
 have key:∀ p∈ns,∃ τ:Int,Bt T τ/\r*(p.2:Rat)=τ:=λp hp=>by
  obtain⟨q,hq,e⟩:=f1 p hp;obtain⟨τ,bt,et⟩:=hd _ hq;refine⟨τ,bt,?_⟩;have et:(B:Rat)*q=τ:=et;rw [<- et,e,<- hr];grind
 have ex:∀ p∈ns,∃ τ:Int,Bt T τ/\r.num*p.2=τ*(r.den:Int):=λp hp=>by
  obtain⟨τ,bt,e⟩:=key p hp;refine⟨τ,bt,Mo.mp ?_⟩;rw [LB,LB,<- e,<- kg r];grind
 have dv:∀ p∈ns,(r.den:Int) ∣ p.2:=λp hp=>by
  obtain⟨τ,_,e⟩:=ex p hp;have:(r.den:Int) ∣ r.num*p.2:=⟨τ,by rw [e,Int.mul_comm]⟩
  have t1:=Mu.mpr this;rw [MC] at t1;have t1:r.den ∣ r.num.natAbs*p.2.natAbs:=t1;refine Mu.mp ?_
  show r.den ∣ p.2.natAbs
  exact(Nat.Coprime.symm r.reduced).dvd_of_dvd_mul_left t1
 have one:=h.co (r.den:Int) dv;have d1:(r.den:Int)=1:=by
  have:=kA r;have:=Int.le_of_dvd (by decide) one
  omega
 intro p hp;obtain⟨τ,bt,e⟩:=ex p hp;rw [d1,Int.mul_one] at e;refine bt.le ?_;rw [<- e,MC];have:r.num.natAbs≠0:=λz=>r0 (MM.mp (Int.natAbs_eq_zero.mp z))
 exact Nat.le_mul_of_pos_left _ (by omega)
theorem lC.ex:∀ {t:Zi},t≠[]->∃ m,lC t m
 | [],h=>absurd rfl h
 | [p],_=>⟨dg p.1,⟨p,LL,rfl⟩,λq hq=>by rw [List.mem_singleton.mp hq]; exact Int.le_refl _⟩
 | p::q::r,_=>by
  obtain⟨m,⟨a,ha,e⟩,h⟩:=lC.ex (t:=q::r) (by simp)
  by_cases z:dg p.1<=m
  ·exact⟨m,⟨a,LM _ ha,e⟩,λb hb=>by
    rcases LJ.mp hb with rfl | hb
    ·exact z
    ·exact h b hb⟩
  ·exact⟨dg p.1,⟨p,LL,rfl⟩,λb hb=>by
    rcases LJ.mp hb with rfl | hb
    ·exact Int.le_refl _
    ·have:=h b hb;omega⟩
theorem Tg.deg {N:Nat} {t:Zi} (h:Tg N t) (ne:t≠[]):∃ d:Nat,lC t d/\d<=N/\Tg d t:=by
 obtain⟨m,hm⟩:=lC.ex ne;have hm':=hm;obtain⟨⟨p,hp,e⟩,hm2⟩:=hm;obtain⟨i,j,ek,i0,j0,ij⟩:=h.sm p hp;rw [ek] at e;have e:i+j=m:=e;have em:((m.toNat:Nat):Int)=m:=by omega
 refine⟨m.toNat,by rw [em]; exact hm',by omega,h.nd,λq hq=>?_⟩
 obtain⟨i',j',ek',i0',j0',ij'⟩:=h.sm q hq;have:=hm2 q hq;rw [ek'] at this;have:i'+j'<=m:=this;exact⟨i',j',ek',i0',j0',by omega⟩
theorem Tg.up {M N:Nat} {t:Zi} (h:Tg M t) (hM:M<=N):Tg N t:=⟨h.nd,λp hp=>by
 obtain⟨i,j,e,i0,j0,ij⟩:=h.sm p hp;exact⟨i,j,e,i0,j0,by omega⟩⟩
theorem Tg.len {N:Nat} {t:Zi} (h:Tg N t) (hN:N<=12):t.length<=169:=Ci.len (b:=12) (h.ci.up (by omega))
theorem H_ {N:Nat} {t:Zi} (h:Tg N t) (ne:t≠[]) (nz:∀ p∈t,p.2≠0):∃ X Y:Int,vq t (X:Rat) (Y:Rat)≠0:=by
 refine Classical.byContradiction λc=>?_
 obtain⟨p,hp⟩:=List.exists_mem_of_ne_nil _ ne;have z:∀ k,gI t k=gI [] k:=sk h.ci (Ci.nil (b:=(N:Int))) λX Y _=>by
  have h1:vq t (X:Rat) (Y:Rat)=0:=Classical.byContradiction λn=>c ⟨X,Y,n⟩
  rw [jz h.two] at h1;exact i0.mp h1
 have h1:gI t p.1=p.2:=cm h.nd hp;rw [z] at h1;exact nz p hp h1.symm
noncomputable def uw (f:Fl) (x y:Rat):Rat×Rat:=(f.p*x - f.q*(if f.m then -y else y)+f.r,f.q*x+f.p*(if f.m then -y else y)+f.s)
noncomputable def kN (x0 y0 p x y:Rat):Rat×Rat:=(x0+(x - x0)*(p / rq (x - x0) (y - y0)),y0+(y - y0)*(p / rq (x - x0) (y - y0)))
noncomputable def y8:Ld->Rat->Rat->MS (Rat×Rat)
 | .invert x0 y0 p,x,y=>if rq (x - x0) (y - y0)=0 then none else some (kN x0 y0 p x y)
 | l,x,y=>some (uw (lR l) x y)
theorem qv {l:Ld} {x y:Rat} (hl:cu l=false):y8 l x y=some (uw (lR l) x y):=by
 cases l with
 | invert x y p=>cases hl
 | _=>rfl
def JK:Ld->Rat->Rat->Rat
 | .invert x0 y0 _,x,y=>rq (x - x0) (y - y0)
 | _,_,_=>1
theorem zt {l:Ld} {x y:Rat} (hl:cu l=false):JK l x y=1:=by
 cases l with
 | invert x y p=>cases hl
 | _=>rfl
structure zd (l:Ld) (t g:Zi):Prop where
 ex:∃ (c:Rat) (s d:Nat),c≠0/\lC t d/\s<=d/\∀ x y a b,y8 (bk l) x y=some (a,b)->vq g x y=c*JK l x y ^ s*vq t a b
 no:∀ x0 y0 p,l=.invert x0 y0 p->zf x0 y0 (kD g)
theorem xA {S:DH} {k:DK} {a b c:MR} {t tx ty:Zi} {e e1 e2 n c' N:Nat} {m:Int} {A B:Rat->Rat->Rat} (ha:S a=some (bH (bc t) e)) (hb:S b=some (bH (bc tx) e1)) (hc:S c=some (bH (bc ty) e2)) (ht:Tg N t) (hN:N<=12) (ne:t≠[]) (nz:∀ p∈t,p.2≠0) (hx:Ci 1 tx) (hy:Ci 1 ty) (dx:∀ p∈tx,dg p.1<=1) (dy:∀ p∈ty,dg p.1<=1) (hn:n<=80000) (n1:1<=n) (hc':c'<=2000) (bt:∀ p∈t,Bt n p.2) (bx:∀ p∈tx,Bt c' p.2) (by_:∀ p∈ty,Bt c' p.2) (bm:Bt c' m) (m0:m≠0)
  (vx:∀ x y,vq tx x y=(m:Rat)*A x y) (vy:∀ x y,vq ty x y=(m:Rat)*B x y) (onto:∀ a b,∃ x y,A x y=a/\B x y=b)
  (w:∀ S' p ep g d,aK S S'->S p=none->lC t (d:Nat)->d<=N->Tg d g->g≠[]->(∀ p∈g,p.2≠0)->(∃ κ:Rat,κ≠0/\∀ x y,vq g x y=κ*vq t (A x y) (B x y))->(∀ p∈g,Bt (n+13*(c'+18)) p.2)->S' p=some (bH (bc g) ep)->k (.ref p) S'):gX [.ref a,.ref b,.ref c,.int m] S k:=by
 obtain⟨d,hd,dN,htd⟩:=ht.deg ne;have two:∀ {t:Zi},Ci 1 t->∀ p∈t,∃ i j,p.1=[i,j]:=λh p hp=>by
  obtain⟨i,j,e,_⟩:=h.sm p hp;exact⟨i,j,e⟩
 refine⟨a,b,c,t,tx,ty,e,e1,e2,m,n,c',d,rfl,ha,hb,hc,ht.ci.up (by omega),hd,by omega,hx,hy,dx,dy,hn,hc',bt,bx,by_,bm,n1,λS' p ep g x hp hg nb v hh=>?_⟩
 have m0':(m:Rat)≠0:=λz=>m0 (i0.mp z)
 have vv:∀ x y,vq g x y=(m:Rat) ^ d*vq t (A x y) (B x y):=λx y=>CO htd hg.two (two hx) (two hy) v (vx x y) (vy x y)
 have κ0:(m:Rat) ^ d≠0:=by
  rw [<- gL];exact λz=>Int.pow_ne_zero m0 (i0.mp z)
 refine w S' p ep g d x hp hd dN hg ?_ (λp hp=>(nb p hp).1) ⟨_,κ0,vv⟩ (λp hp=>(nb p hp).2) hh
 rintro rfl;obtain⟨X,Y,n0⟩:=H_ htd ne nz;obtain⟨x,y,ea,eb⟩:=onto (X:Rat) (Y:Rat);have:=vv x y;rw [ea,eb] at this;have h0:(0:Rat)=(m:Rat) ^ d*vq t (X:Rat) (Y:Rat):=this;rcases LR.mp h0.symm with z | z
 ·exact κ0 z
 ·exact n0 z
abbrev pQ (u v r:Int):Zi:=[([1,0],u),([0,1],v),([0,0],r)]
theorem v8 {u v r:Int}:Ci 1 (pQ u v r):=⟨by show([[1,0],[0,1],[0,0]]:List (List Int)).Nodup; decide,λp hp=>by
 simp only [pQ,LJ,LU,or_false] at hp;rcases hp with rfl | rfl | rfl
 ·exact⟨1,0,rfl,by decide,by decide,by decide,by decide⟩
 ·exact⟨0,1,rfl,by decide,by decide,by decide,by decide⟩
 ·exact⟨0,0,rfl,by decide,by decide,by decide,by decide⟩⟩
theorem Em {u v r:Int} {x y:Rat}:vq (pQ u v r) x y=u*x+v*y+r:=by
 show(u:Rat)*(x ^ 1*y ^ 0)+((v:Rat)*(x ^ 0*y ^ 1)+((r:Rat)*(x ^ 0*y ^ 0)+0))=_
 grind
theorem Ak {u v r:Int}:∀ p∈pQ u v r,dg p.1<=1:=λp hp=>by
 simp only [pQ,LJ,LU,or_false] at hp;rcases hp with rfl | rfl | rfl
 ·show(1:Int)+0<=1; decide
 ·show(0:Int)+1<=1; decide
 ·show(0:Int)+0<=1; decide
theorem Bz {n:Nat} {u v r:Int} (hu:Bt n u) (hv:Bt n v) (hr:Bt n r):∀ p∈pQ u v r,Bt n p.2:=λp hp=>by
 simp only [pQ,LJ,LU,or_false] at hp;rcases hp with rfl | rfl | rfl <;> assumption
theorem wR {S:DH} {p:MR} {e0 e1:Nat} {u v r:Int}:put (put S p (.gen (.dT [] e0))) p (.gen (.dT (aZ [] (bc (pQ u v r))) e1)) p=some (bH (bc (pQ u v r)) e1):=by rw [ak,dZ (f:=D.int) (l:=pQ u v r) v8.nd]
theorem zI {n:Nat} {s x:Int} (h:s=1\/s=-1) (hx:Bt n x):Bt n (s*x):=by
 rcases h with rfl | rfl
 ·rw [Int.one_mul]; exact hx
 ·rw [Int.neg_mul,Int.one_mul]; exact hx.neg
theorem CQ {f:Fl} (n:f.p*f.p+f.q*f.q≠0) (a b:Rat):∃ x y,(uw f x y).1=a/\(uw f x y).2=b:=by
 refine⟨(f.p*(a - f.r)+f.q*(b - f.s)) / (f.p*f.p+f.q*f.q),if f.m then -((f.p*(b - f.s) - f.q*(a - f.r)) / (f.p*f.p+f.q*f.q)) else(f.p*(b - f.s) - f.q*(a - f.r)) / (f.p*f.p+f.q*f.q),?_⟩
 have e:(if f.m then -(if f.m then -((f.p*(b - f.s) - f.q*(a - f.r)) / (f.p*f.p+f.q*f.q)) else(f.p*(b - f.s) - f.q*(a - f.r)) / (f.p*f.p+f.q*f.q)) else(if f.m then -((f.p*(b - f.s) - f.q*(a - f.r)) / (f.p*f.p+f.q*f.q)) else(f.p*(b - f.s) - f.q*(a - f.r)) / (f.p*f.p+f.q*f.q)))=(f.p*(b - f.s) - f.q*(a - f.r)) / (f.p*f.p+f.q*f.q):=by
  cases f.m with
  | false=>rfl
  | true=>show - - _=_; grind
 unfold uw;rw [e];generalize hk:f.p*f.p+f.q*f.q=k at n;have h1:1 / k*k=1:=by grind
 have d1:∀ z:Rat,z / k=z*(1 / k):=λz=>by grind
 rw [d1 (f.p*(a - f.r)+f.q*(b - f.s)),d1 (f.p*(b - f.s) - f.q*(a - f.r))];generalize 1 / k=r at h1
 constructor
 ·show f.p*((f.p*(a - f.r)+f.q*(b - f.s))*r) - f.q*((f.p*(b - f.s) - f.q*(a - f.r))*r)+f.r=a
  have:f.p*((f.p*(a - f.r)+f.q*(b - f.s))*r) - f.q*((f.p*(b - f.s) - f.q*(a - f.r))*r)=(a - f.r)*(r*(f.p*f.p+f.q*f.q)):=by grind
  rw [this,hk,h1];grind
 ·show f.q*((f.p*(a - f.r)+f.q*(b - f.s))*r)+f.p*((f.p*(b - f.s) - f.q*(a - f.r))*r)+f.s=b
  have:f.q*((f.p*(a - f.r)+f.q*(b - f.s))*r)+f.p*((f.p*(b - f.s) - f.q*(a - f.r))*r)=(b - f.s)*(r*(f.p*f.p+f.q*f.q)):=by grind
  rw [this,hk,h1];grind
def jF:cH:=λds S k=>∃ (l:Ld) (a:MR) (t:Zi) (e:Nat) (N n z:Nat),ds=[ii l,.ref a]/\cu l=false/\fZ l/\ig l/\S a=some (bH (bc t) e)/\Tg N t/\N<=12/\t≠[]/\(∀ p∈t,p.2≠0)/\(∀ p∈t,Bt n p.2)/\1<=n/\n<=70000/\∀ S' p ep g,aK S S'->S p=none->Tg N g->g≠[]->(∀ p∈g,p.2≠0)->zd l t g->(∀ p∈g,Bt (n+9700) p.2)->S' p=some (bH (bc g) ep)->k (.ref p) S'
theorem cq:au ["lead","tops","found","bottom","by","shift","sign","x","y"] ["lead","tops"] (ap jg):=dX
theorem qP (Fn:FN K "tops_moved" jg f fd) (wF:bj P w K mg base "flat" 37 AI) (we:bj P w K mg base "back" 36 Ba) (cw:bj P w K mg base "common_bottom" 35 fD) (cQ:bj P w K mg base "wholes_over" 1 iH) (g_:bj P w K mg base "set_in" 2 gX):
  aT P w K mg base c8 38 f fd ["lead","tops"] (dk K jF):=by
 refine Fn.okJ cq (λds S k h=>?_) (λcdv A outer s H E hr=>⟨_,(af (ai (i:=2) cq.nd (dq wF hr (aa (dq we hr (aG 0 ac)) ac))) (af (ai (i:=3) cq.nd (dq cw hr (aa (aw vH (aJ 2) (aJ 2)) ac))) (af (ai (i:=4) cq.nd (dq cQ hr (aa (aJ 2) (aG 3 ac)))) (af (ai (i:=5) cq.nd (dq cQ hr (aa (aJ 2) (aG 3 ac)))) (af (ai (i:=6) cq.nd (uV (iu (aJ 2)) (eE eF ae) ae)) (af (ai (i:=7) cq.nd (fF hr (br (aq (aa ae (aa ae ac))) (aJ 4) (br (aq (aa ae (aa ae ac))) (aw bK (eE eF (ah 6)) (aJ 4)) (br (aq (aa ae (aa ae ac))) (aJ 5) iM))))) (af (ai (i:=8) cq.nd (fF hr (br (aq (aa ae (aa ae ac))) (aJ 4) (br (aq (aa ae (aa ae ac))) (aw bK (ah 6) (aJ 4)) (br (aq (aa ae (aa ae ac))) (aJ 5) iM))))) (aj (ao (dq g_ hr (aG 1 (aG 7 (aG 8 (aG 3 ac)))))))))))))),λds S k h=>?_⟩)
 ·obtain⟨_,_,_,_,_,_,_,rfl,_⟩:=h
  rfl
 ·obtain⟨l,a,t,e,N,n,z,rfl,hl,ok,sz,ha,ht,hN,ne,nz,bt,n1,hn,w⟩:=h;have ok':=Ec ok;have sz':=EH ok sz;have hl':cu (bk l)=false:=BE.trans hl;obtain⟨_,_,_,_,_,F0⟩:=Bm ok' sz' hl';have F:=Dz F0;obtain⟨s1,s2,s3,s4⟩:=HP ok' sz' hl';have nm:=Di ok' hl';refine⟨l,rfl,ok,sz,bk l,rfl,hl',ok',sz',?_⟩;have gwb:=Jw ok;have n0:(lR (bk l)).p*(lR (bk l)).p+(lR (bk l)).q*(lR (bk l)).q≠0:=by
   rw [nm];intro z;rcases LR.mp z with y | y <;> rw [y] at gwb <;> exact absurd gwb (by grind)
  have lP:∀ x y,y8 (bk l) x y=some (uw (lR (bk l)) x y):=λx y=>qv hl'
  clear F0;generalize lR (bk l)=f at F s1 s2 s3 s4 n0 lP ⊢
  refine⟨LV rfl,[f.p,f.q,f.r,f.s],rfl,λq h=>?_,by show 4<=4; decide,?_⟩
  ·simp only [LJ,LU,or_false] at h;rcases h with rfl | rfl | rfl | rfl
   ·exact s1.mono
   ·exact s2.mono
   ·exact s3.mono
   ·exact s4.mono
  refine⟨f.p,f.q,eH f,rfl,s1.mono,s2.mono,F.bk.mono,λS1 p1 x1 h1=>?_⟩
  refine⟨f.r,f.s,eH f,rfl,s3.mono,s4.mono,F.bk.mono,λS2 p2 x2 h2=>?_⟩
  have go:∀ s:Int,s=1\/s=-1->(∀ y:Rat,(s:Rat)*y=if f.m then -y else y)->∀ p3,S2 p3=none->∀ e3 e4 p4,put (put S2 p3 (.gen (.dT [] e3))) p3 (.gen (.dT (aZ [] (bc (pQ (dW f.p (eH f)) (-s*dW f.q (eH f)) (dW f.r (eH f))))) e4)) p4=none->∀ e5 e6,gX [.ref a,.ref p3,.ref p4,.int (eH f)] (put (put (put (put S2 p3 (.gen (.dT [] e3))) p3 (.gen (.dT (aZ [] (bc (pQ (dW f.p (eH f)) (-s*dW f.q (eH f)) (dW f.r (eH f))))) e4))) p4 (.gen (.dT [] e5))) p4 (.gen (.dT (aZ [] (bc (pQ (dW f.q (eH f)) (s*dW f.p (eH f)) (dW f.s (eH f))))) e6))) k:=by
   intro s hs es p3 hp3 e3 e4 p4 hp4 e5 e6;have x3:aK S2 (put (put S2 p3 (.gen (.dT [] e3))) p3 (.gen (.dT (aZ [] (bc (pQ (dW f.p (eH f)) (-s*dW f.q (eH f)) (dW f.r (eH f))))) e4))):=(aK.new hp3).put hp3;have h3:=wR (S:=S2) (p:=p3) (e0:=e3) (e1:=e4) (u:=dW f.p (eH f)) (v:=-s*dW f.q (eH f)) (r:=dW f.r (eH f));generalize put (put S2 p3 (.gen (.dT [] e3))) p3 (.gen (.dT (aZ [] (bc (pQ (dW f.p (eH f)) (-s*dW f.q (eH f)) (dW f.r (eH f))))) e4))=S3 at x3 h3 hp4 ⊢
   have x4:aK S3 (put (put S3 p4 (.gen (.dT [] e5))) p4 (.gen (.dT (aZ [] (bc (pQ (dW f.q (eH f)) (s*dW f.p (eH f)) (dW f.s (eH f))))) e6))):=(aK.new hp4).put hp4;have h4:=wR (S:=S3) (p:=p4) (e0:=e5) (e1:=e6) (u:=dW f.q (eH f)) (v:=s*dW f.p (eH f)) (r:=dW f.s (eH f));generalize put (put S3 p4 (.gen (.dT [] e5))) p4 (.gen (.dT (aZ [] (bc (pQ (dW f.q (eH f)) (s*dW f.p (eH f)) (dW f.s (eH f))))) e6))=S4 at x4 h4 ⊢
   have X4:aK S S4:=x1.trans (x2.trans (x3.trans x4));have ns:-s=1\/-s=-1:=by omega
   refine xA (N:=N) (n:=n) (c':=136) (A:=λx y=>(uw f x y).1) (B:=λx y=>(uw f x y).2) (X4 _ _ ha) (x4 _ _ h3) h4 ht hN ne nz v8 v8 Ak Ak (by omega) n1 (by decide) bt (Bz F.bP (zI ns F.bQ) F.bR) (Bz F.bQ (zI hs F.bP) F.bS) F.bk F.k0 (λx y=>?_) (λx y=>?_) (CQ n0) λS5 p5 e7 g d x5 h5 hd dN hg gne gnz hv bg hp5=>?_
   ·rw [Em]
    show _=(eH f:Rat)*(f.p*x - f.q*(if f.m then -y else y)+f.r)
    rw [<- es y,LB,Mh,<- F.p,<- F.q,<- F.r];grind
   ·rw [Em]
    show _=(eH f:Rat)*(f.q*x+f.p*(if f.m then -y else y)+f.s)
    rw [<- es y,LB,<- F.p,<- F.q,<- F.s];grind
   ·obtain⟨κ,κ0,hv⟩:=hv;refine w S5 p5 e7 g (X4.trans x5) (kM X4 h5) (hg.up dN) gne gnz ⟨⟨κ,0,d,κ0,hd,Mw _,λx y a b ex=>?_⟩,λx0 y0 p e=>by rw [e] at hl; cases hl⟩ (λp hp=>(bg p hp).mono) hp5
    rw [lP] at ex;have e1:uw f x y=(a,b):=Ma ex;rw [hv x y,e1,Rat.pow_zero,Rat.mul_one]
  have vp:∀ {x y:Int},L2.atI [D.int x,D.int y] 0=some (.int x):=λ{x y}=>rfl
  have at1:∀ {x y:Int},L2.atI [D.int x,D.int y] 1=some (.int y):=λ{x y}=>rfl
  have h1':=x2 _ _ h1;refine rH (λfm=>?_) (λfm=>?_)
  ·refine λp3 hp3 e3=>⟨few,_,_,aI hp3 h1',vp,few,_,_,aI hp3 h1',at1,iF (m:=1) (by decide) F.bQ (by decide),few,_,_,aI hp3 h2,vp,e3,bc (pQ (dW f.p (eH f)) (-(-1)*dW f.q (eH f)) (dW f.r (eH f))),ak,rfl,by show 3<=15; decide,λe4=>λp4 hp4 e5=>?_⟩
   have x3:aK S2 (put (put S2 p3 (.gen (.dT [] e3))) p3 (.gen (.dT (aZ [] (bc (pQ (dW f.p (eH f)) (-(-1)*dW f.q (eH f)) (dW f.r (eH f))))) e4))):=(aK.new hp3).put hp3;refine⟨few,_,_,aI hp4 (x3 _ _ h1'),at1,few,_,_,aI hp4 (x3 _ _ h1'),vp,iF (m:=1) (by decide) F.bP (by decide),few,_,_,aI hp4 (x3 _ _ h2),at1,e5,bc (pQ (dW f.q (eH f)) ((-1)*dW f.p (eH f)) (dW f.s (eH f))),ak,rfl,by show 3<=15; decide,λe6=>?_⟩
   exact go (-1) (.inr rfl) (λy=>by rw [if_pos fm]; show(-1:Rat)*y=-y; grind) p3 hp3 e3 e4 p4 hp4 e5 e6
  ·refine λp3 hp3 e3=>⟨few,_,_,aI hp3 h1',vp,few,_,_,aI hp3 h1',at1,iF (m:=1) (by decide) F.bQ (by decide),few,_,_,aI hp3 h2,vp,e3,bc (pQ (dW f.p (eH f)) (-1*dW f.q (eH f)) (dW f.r (eH f))),ak,rfl,by show 3<=15; decide,λe4=>λp4 hp4 e5=>?_⟩
   have x3:aK S2 (put (put S2 p3 (.gen (.dT [] e3))) p3 (.gen (.dT (aZ [] (bc (pQ (dW f.p (eH f)) (-1*dW f.q (eH f)) (dW f.r (eH f))))) e4))):=(aK.new hp3).put hp3;refine⟨few,_,_,aI hp4 (x3 _ _ h1'),at1,few,_,_,aI hp4 (x3 _ _ h1'),vp,iF (m:=1) (by decide) F.bP (by decide),few,_,_,aI hp4 (x3 _ _ h2),at1,e5,bc (pQ (dW f.q (eH f)) (1*dW f.p (eH f)) (dW f.s (eH f))),ak,rfl,by show 3<=15; decide,λe6=>?_⟩
   exact go 1 (.inl rfl) (λy=>by rw [fm]; show(1:Rat)*y=y; grind) p3 hp3 e3 e4 p4 hp4 e5 e6
abbrev vo (u r:Int):Zi:=[([1,0],u),([0,0],r)]
abbrev vP (u r:Int):Zi:=[([0,1],u),([0,0],r)]
theorem zJ {u r:Int}:Ci 1 (vo u r):=⟨by show([[1,0],[0,0]]:List (List Int)).Nodup; decide,λp hp=>by
 simp only [vo,LJ,LU,or_false] at hp;rcases hp with rfl | rfl
 ·exact⟨1,0,rfl,by decide,by decide,by decide,by decide⟩
 ·exact⟨0,0,rfl,by decide,by decide,by decide,by decide⟩⟩
theorem AS {u r:Int}:Ci 1 (vP u r):=⟨by show([[0,1],[0,0]]:List (List Int)).Nodup; decide,λp hp=>by
 simp only [vP,LJ,LU,or_false] at hp;rcases hp with rfl | rfl
 ·exact⟨0,1,rfl,by decide,by decide,by decide,by decide⟩
 ·exact⟨0,0,rfl,by decide,by decide,by decide,by decide⟩⟩
theorem IW {u r:Int} {x y:Rat}:vq (vo u r) x y=u*x+r:=by
 show(u:Rat)*(x ^ 1*y ^ 0)+((r:Rat)*(x ^ 0*y ^ 0)+0)=_
 grind
theorem Hz {u r:Int} {x y:Rat}:vq (vP u r) x y=u*y+r:=by
 show(u:Rat)*(x ^ 0*y ^ 1)+((r:Rat)*(x ^ 0*y ^ 0)+0)=_
 grind
theorem E7 {u r:Int}:∀ p∈vo u r,dg p.1<=1:=λp hp=>by
 simp only [vo,LJ,LU,or_false] at hp;rcases hp with rfl | rfl
 ·show(1:Int)+0<=1; decide
 ·show(0:Int)+0<=1; decide
theorem Hj {u r:Int}:∀ p∈vP u r,dg p.1<=1:=λp hp=>by
 simp only [vP,LJ,LU,or_false] at hp;rcases hp with rfl | rfl
 ·show(0:Int)+1<=1; decide
 ·show(0:Int)+0<=1; decide
theorem FU {n:Nat} {u r:Int} (hu:Bt n u) (hr:Bt n r):∀ p∈vo u r,Bt n p.2:=λp hp=>by
 simp only [vo,LJ,LU,or_false] at hp;rcases hp with rfl | rfl <;> assumption
theorem G_ {n:Nat} {u r:Int} (hu:Bt n u) (hr:Bt n r):∀ p∈vP u r,Bt n p.2:=λp hp=>by
 simp only [vP,LJ,LU,or_false] at hp;rcases hp with rfl | rfl <;> assumption
theorem uk {S:DH} {k:DK} {a:MR} {t:Zi} {e n N:Nat} {m u v:Int} {x0 y0:Rat} (ha:S a=some (bH (bc t) e)) (ht:Tg N t) (hN:N<=12) (ne:t≠[]) (nz:∀ p∈t,p.2≠0) (hn:n<=80000) (n1:1<=n) (bt:∀ p∈t,Bt n p.2) (bm:Bt 100 m) (bu:Bt 100 u) (bv:Bt 100 v) (m0:m≠0) (hu:(u:Rat)=x0*m) (hv:(v:Rat)=y0*m)
  (w:∀ S' p ep g d,aK S S'->S p=none->lC t (d:Nat)->d<=N->Tg d g->g≠[]->(∀ p∈g,p.2≠0)->(∃ κ:Rat,κ≠0/\∀ x y,vq g x y=κ*vq t (x+x0) (y+y0))->(∀ p∈g,Bt (n+1534) p.2)->S' p=some (bH (bc g) ep)->k (.ref p) S'):
  ∀ p3,S p3=none->∀ e3 e4 p4,put (put S p3 (.gen (.dT [] e3))) p3 (.gen (.dT (aZ [] (bc (vo m u))) e4)) p4=none->∀ e5 e6,gX [.ref a,.ref p3,.ref p4,.int m] (put (put (put (put S p3 (.gen (.dT [] e3))) p3 (.gen (.dT (aZ [] (bc (vo m u))) e4))) p4 (.gen (.dT [] e5))) p4 (.gen (.dT (aZ [] (bc (vP m v))) e6))) k:=by
 intro p3 hp3 e3 e4 p4 hp4 e5 e6;have x3:aK S (put (put S p3 (.gen (.dT [] e3))) p3 (.gen (.dT (aZ [] (bc (vo m u))) e4))):=(aK.new hp3).put hp3;have h3:put (put S p3 (.gen (.dT [] e3))) p3 (.gen (.dT (aZ [] (bc (vo m u))) e4)) p3=some (bH (bc (vo m u)) e4):=by rw [ak,dZ (f:=D.int) (l:=vo m u) zJ.nd]
 generalize put (put S p3 (.gen (.dT [] e3))) p3 (.gen (.dT (aZ [] (bc (vo m u))) e4))=S3 at x3 h3 hp4 ⊢
 have x4:aK S3 (put (put S3 p4 (.gen (.dT [] e5))) p4 (.gen (.dT (aZ [] (bc (vP m v))) e6))):=(aK.new hp4).put hp4;have h4:put (put S3 p4 (.gen (.dT [] e5))) p4 (.gen (.dT (aZ [] (bc (vP m v))) e6)) p4=some (bH (bc (vP m v)) e6):=by rw [ak,dZ (f:=D.int) (l:=vP m v) AS.nd]
 generalize put (put S3 p4 (.gen (.dT [] e5))) p4 (.gen (.dT (aZ [] (bc (vP m v))) e6))=S4 at x4 h4 ⊢
 have X4:aK S S4:=x3.trans x4;refine xA (N:=N) (n:=n) (c':=100) (A:=λx _=>x+x0) (B:=λ_ y=>y+y0) (X4 _ _ ha) (x4 _ _ h3) h4 ht hN ne nz zJ AS E7 Hj hn n1 (by decide) bt (FU bm bu) (G_ bm bv) bm m0 (λx y=>by rw [IW,hu]; grind) (λx y=>by rw [Hz,hv]; grind) (λa b=>⟨a - x0,b - y0,by grind,by grind⟩) λS5 p5 e7 g d x5 h5 hd dN hg gne gnz hv bg hp5=>?_
 exact w S5 p5 e7 g d (X4.trans x5) (kM X4 h5) hd dN hg gne gnz hv bg hp5
theorem Jl (x y:Rat):∀ n:Nat,(x*y) ^ n=x ^ n*y ^ n
 | 0=>by rw [Rat.pow_zero,Rat.pow_zero,Rat.pow_zero]; grind
 | n+1=>by
  rw [Rat.pow_succ,Rat.pow_succ,Rat.pow_succ,Jl x y n];grind
theorem vh {x:Rat} (h:x≠0):∀ n:Nat,x ^ n≠0
 | 0=>by rw [Rat.pow_zero]; decide
 | n+1=>by
  rw [Rat.pow_succ];exact λz=>(LR.mp z).elim (vh h n) h
theorem GY {d N' r:Nat} {t g:Zi} {p:Rat} (ht:Tg d t) (hg:Tg N' g) (hr:r<=d) (v:∀ X Y,tO t p.num (p.den:Int) X Y (d+1)=vl g X Y*(X*X+Y*Y) ^ r) {x y:Rat} (n:rq x y≠0):vq g x y=(((p.den:Int):Rat)) ^ d*rq x y ^ (d - r)*vq t (x*(p / rq x y)) (y*(p / rq x y)):=by
 have hp:=nd p;have h1:p / rq x y*rq x y=p:=by grind
 have h2:∀ z:Rat,((p.den:Int):Rat)*rq x y*(z*(p / rq x y))=(p.num:Rat)*z:=λz=>by
  rw [hp];generalize p / rq x y=w at h1;generalize rq x y=ρ at h1;rw [<- h1];grind
 have e:=FJ ht hg v (h2 x) (h2 y);have e1:rq x y ^ d=rq x y ^ (d - r)*rq x y ^ r:=by rw [<- pU,Nat.sub_add_cancel hr]
 rw [Jl,e1] at e;have k:=vh n r;generalize rq x y ^ r=ρ at e k
 have e2:ρ*(vq g x y - (((p.den:Int):Rat)) ^ d*rq x y ^ (d - r)*vq t (x*(p / rq x y)) (y*(p / rq x y)))=0:=by grind
 have:=(LR.mp e2).resolve_left k;grind
def jT:cH:=λds S k=>∃ (x y p:Rat) (a:MR) (t:Zi) (e:Nat) (N n z:Nat),ds=[ii (.invert x y p),.ref a]/\fZ (.invert x y p)/\ig (.invert x y p)/\S a=some (bH (bc t) e)/\Tg N t/\N<=6/\t≠[]/\(∀ p∈t,p.2≠0)/\(∀ p∈t,Bt n p.2)/\1<=n/\n<=70000/\∀ S' p' ep g,aK S S'->S p'=none->Tg (2*N) g->g≠[]->(∀ p∈g,p.2≠0)->zd (.invert x y p) t g->(∀ p∈g,Bt (n+9700) p.2)->S' p'=some (bH (bc g) ep)->k (.ref p') S'
theorem cW:au ["lead","tops","bottom","middle","from_middle","told"] ["lead","tops"] (ap fV):=dX
theorem nQ (Fn:FN K "tops_inverted" fV f fd) (cw:bj P w K mg base "common_bottom" 35 fD) (cQ:bj P w K mg base "wholes_over" 1 iH) (g_:bj P w K mg base "set_in" 2 gX) (iC:bj P w K mg base "turned_over" 4 iD):
  aT P w K mg base c8 36 f fd ["lead","tops"] (dk K jT):=by
 refine Fn.okJ cW (λds S k h=>?_) (λcdv A outer s H E hr=>⟨_,(af (ai (i:=2) cW.nd (dq cw hr (aa (gB (ah 0) (cL ae) (cL ae)) ac))) (af (ai (i:=3) cW.nd (dq cQ hr (aa (gB (ah 0) (cL ae) (cL ae)) (aG 2 ac)))) (af (ai (i:=4) cW.nd (dq g_ hr (aG 1 (aa (fF hr (br (aq (aa ae (aa ae ac))) (ah 2) (br (aq (aa ae (aa ae ac))) (aJ 3) iM))) (aa (fF hr (br (aq (aa ae (aa ae ac))) (ah 2) (br (aq (aa ae (aa ae ac))) (aJ 3) iM))) (aG 2 ac)))))) (af (ai (i:=5) cW.nd (dq iC hr (aG 4 (aa (aJ 0) ac)))) (aj (ao (dq g_ hr (aG 5 (aa (fF hr (br (aq (aa ae (aa ae ac))) (ah 2) (br (aq (aa ae (aa ae ac))) (eE eF (aJ 3)) iM))) (aa (fF hr (br (aq (aa ae (aa ae ac))) (ah 2) (br (aq (aa ae (aa ae ac))) (eE eF (aJ 3)) iM))) (aG 2 ac))))))))))),λds S k h=>?_⟩)
 ·obtain⟨_,_,_,_,_,_,_,_,_,rfl,_⟩:=h
  rfl
 ·obtain⟨x,y,p,a,t,e,N,n,z,rfl,ok,sz,ha,ht,hN,ne,nz,bt,n1,hn,w⟩:=h;obtain⟨hx,hy,hp⟩:=sz;have p0:p≠0:=ok;have c4:¬ (HT.dD 4 0 (some 1)=0/\HT.dD 4 4 (some 3)=4):=by decide
  have hxy:∀ q∈[x,y],Sz 480 q:=λq h=>by
   simp only [LJ,LU,or_false] at h;rcases h with rfl | rfl
   ·exact hx.mono
   ·exact hy.mono
  have dvd:jq 1 [x,y] ∣ (x.den:Int)*(y.den:Int):=lA (Int.one_dvd _) λq h=>by
   simp only [LJ,LU,or_false] at h;rcases h with rfl | rfl
   ·exact⟨_,rfl⟩
   ·exact⟨_,Int.mul_comm _ _⟩
  have bm:Bt 48 (jq 1 [x,y]):=nO dvd (az x y) (hx.den.mul hy.den);have m0:jq 1 [x,y]≠0:=by have:=pR (qs:=[x,y]) (m:=1) (by decide); omega
  have dv:=(oZ (qs:=[x,y]) (m:=1)).2;have hu:((dW x (jq 1 [x,y]):Int):Rat)=x*(jq 1 [x,y]:Int):=lN (dv x (by simp))
  have hv:((dW y (jq 1 [x,y]):Int):Rat)=y*(jq 1 [x,y]:Int):=lN (dv y (by simp))
  have bu:Bt 100 (dW x (jq 1 [x,y])):=(hx.num.mul (bm.le (HM.aN _ _))).mono
  have bv:Bt 100 (dW y (jq 1 [x,y])):=(hy.num.mul (bm.le (HM.aN _ _))).mono
  refine⟨c4,[x,y],rfl,hxy,by show 2<=4; decide,c4,x,y,_,rfl,hx.mono,hy.mono,bm.mono,λS1 p1 x1 h1=>?_⟩
  have vp:∀ {x y:Int},L2.atI [D.int x,D.int y] 0=some (.int x):=λ{x y}=>rfl
  have at1:∀ {x y:Int},L2.atI [D.int x,D.int y] 1=some (.int y):=λ{x y}=>rfl
  generalize jq 1 [x,y]=m at*
  generalize dW x m=u at*
  generalize dW y m=v at*
  have bm':=bm.mono (show 48<=100 by decide)
  refine λp3 hp3 e3=>⟨few,few,_,_,aI hp3 h1,vp,e3,bc (vo m u),ak,rfl,by show 2<=15; decide,λe4=>λp4 hp4 e5=>⟨few,few,_,_,aI hp4 (((aK.new hp3).put hp3) _ _ h1),at1,e5,bc (vP m v),ak,rfl,by show 2<=15; decide,λe6=>?_⟩⟩
  refine uk (n:=n) (N:=N) (x0:=x) (y0:=y) (k:=(λd T=>(yI (uB 5 (jS iD (cj (cJ 4) (cj (qG qy (cJ 0) (dC (D.int 3))) jX)))) (GG (jS gX (cj (cJ 5) (cj (Ab (qh (ug (cj (dC (D.int 1)) (cj (dC (D.int 0)) jX))) (cJ 2) (qh (ug (cj (dC (D.int 0)) (cj (dC (D.int 0)) jX))) (JV E3 (qG qy (cJ 3) (dC (D.int 0)))) Az))) (cj (Ab (qh (ug (cj (dC (D.int 0)) (cj (dC (D.int 1)) jX))) (cJ 2) (qh (ug (cj (dC (D.int 0)) (cj (dC (D.int 0)) jX))) (JV E3 (qG qy (cJ 3) (dC (D.int 1)))) Az))) (cj (cJ 2) jX))))))) {nx:=λ_ S'=>k D.non S',rt:=k} [some (ii (Ld.invert x y p)),some (D.ref a),some (D.int m),some (D.ref p1),some d,none] T)) (x1 _ _ ha) ht (by omega) ne nz (by omega) n1 bt bm' bu bv m0 hu hv (λS2 p5 e7 g1 d x2 h5 hd dN hg1 g1e g1z hv1 bg1 hp5=>?_) p3 hp3 e3 e4 p4 hp4 e5 e6
  have P0:p.num≠0:=λz=>p0 (MM.mp z)
  obtain⟨d1,hd1,d1d,tg1⟩:=hg1.deg g1e;refine⟨p5,g1,e7,p.num,(p.den:Int),n+1534,d1,0,rfl,hp5,tg1,hd1,by omega,g1z,P0,iQ p,bg1,by omega,hp.num.mono,hp.den.mono,λS3 p6 e8 g2 r x3 hr hg2 g2e g2z bg2 nr v2 hp6=>?_⟩
  have X3:aK S1 S3:=x2.trans x3;have h13:=X3 _ _ h1;refine λp7 hp7 e9=>⟨few,few,_,_,aI hp7 h13,vp,e9,bc (vo m (-u)),ak,rfl,by show 2<=15; decide,λe10=>λp8 hp8 e11=>⟨few,few,_,_,aI hp8 (((aK.new hp7).put hp7) _ _ h13),at1,e11,bc (vP m (-v)),ak,rfl,by show 2<=15; decide,λe12=>?_⟩⟩
  have nu:((-u:Int):Rat)=-x*m:=by rw [Mh,hu]; grind
  have nv:((-v:Int):Rat)=-y*m:=by rw [Mh,hv]; grind
  refine uk (n:=n+1534+6600+3*r) (N:=2*d1 - 2*r) (x0:=-x) (y0:=-y) (k:=k) hp6 hg2 (by omega) g2e g2z (by omega) (by omega) bg2 bm' bu.neg bv.neg m0 nu nv (λS4 p9 e13 g3 d3 x4 h9 hd3 d3N hg3 g3e g3z hv3 bg3 hp9=>?_) p7 hp7 e9 e10 p8 hp8 e11 e12
  obtain⟨κ1,k10,v1⟩:=hv1;obtain⟨κ3,k30,v3⟩:=hv3;refine w S4 p9 e13 g3 (x1.trans (X3.trans x4)) (kM (x1.trans X3) h9) (hg3.up (by omega)) g3e g3z ⟨⟨κ3*(((p.den:Int):Rat)) ^ d1*κ1,d1 - r,d,?_,hd,by omega,λxx yy a b ex=>?_⟩,λx' y' p' e'=>?_⟩ (λz hz=>(bg3 z hz).mono) hp9
  ·intro z;rcases LR.mp z with z | z
   ·rcases LR.mp z with z | z
    ·exact k30 z
    ·exact vh (dn p) _ z
   ·exact k10 z
  ·have ex:(if rq (xx - x) (yy - y)=0 then none else some (kN x y p xx yy))=some (a,b):=ex
   by_cases n0:rq (xx - x) (yy - y)=0
   ·rw [if_pos n0] at ex;cases ex
   ·rw [if_neg n0] at ex;have e1:kN x y p xx yy=(a,b):=Ma ex;have ea:a=(xx - x)*(p / rq (xx - x) (yy - y))+x:=by
     have:x+(xx - x)*(p / rq (xx - x) (yy - y))=a:=congrArg Prod.fst e1;rw [<- this];grind
    have eb:b=(yy - y)*(p / rq (xx - x) (yy - y))+y:=by
     have:y+(yy - y)*(p / rq (xx - x) (yy - y))=b:=congrArg Prod.snd e1;rw [<- this];grind
    have hs:xx+-x=xx - x:=by grind
    have ht:yy+-y=yy - y:=by grind
    rw [v3 xx yy,hs,ht,GY tg1 hg2 (by omega) v2 n0,v1,<- ea,<- eb]
    show _=_*rq (xx - x) (yy - y) ^ (d1 - r)*_
    grind
  ·cases e';have two:∀ {t:Zi} {N:Nat},Tg N t->∀ p∈kD t,∃ i j,p.1=[i,j]:=λh p hp=>by
    obtain⟨q,hq,rfl⟩:=LF.mp hp;exact h.two q hq
   refine zf.shift (κ:=κ3) (two hg2) (two hg3) (Ih hg2 nr) k30 λxx yy=>?_
   rw [jt,jt,v3]
   congr 2 <;> grind
def Gk (S:DH) (y:D) (ds:List D):Prop:=y=.tup ds\/∃ a,y=.ref a/\S a=some (.lst ds)
theorem vO {S:DH} {y:D} {ds:List D} (h:Gk S y ds):∃ o,aR S y=some (ds,o)/\∀ S',aK S S'->fL (ds,o) S':=by
 rcases h with rfl | ⟨a,rfl,e⟩
 ·exact⟨none,rfl,λ_ _=>trivial⟩
 ·exact⟨some a,by simp only [aR,e],λS' x=>x _ _ e⟩
abbrev v0 (ns:Zi):Zr:=ns.map λp=>(p.1,(p.2:Rat))
theorem o5 {ns:Zi}:sZ ns=fc (v0 ns):=by
 show ns.map _=List.map _ (ns.map _)
 rw [Mk]
 rfl
theorem iZ {ns:Zi}:(v0 ns).map (·.1)=ns.map (·.1):=by
 rw [Mk]
 rfl
theorem wc {ns:Zi} {n:Nat} (b:∀ p∈ns,Bt n p.2):Dn 1 n (v0 ns):=λp hp=>by
 obtain⟨q,hq,rfl⟩:=LF.mp hp;exact⟨q.2,b q hq,by show(1:Rat)*_=_; grind⟩
theorem GX {ns:Zi} {n:Nat} (n1:1<=n) (b:∀ p∈ns,Bt n p.2):∀ p∈v0 ns,Sz n p.2:=λp hp=>by
 obtain⟨q,hq,rfl⟩:=LF.mp hp;exact⟨b q hq,Es.mono n1⟩
theorem A4 {n:Int}:gM 1 (n:Rat)=n:=by
 show n*Int.fdiv 1 1=n
 rw [show Int.fdiv 1 1=1 by decide,Int.mul_one]
theorem Do {g:Zi}:((v0 g).map λx=>(x.1,gM 1 x.2))=g:=by
 rw [Mk]
 conv=>rhs; rw [<- List.map_id g]
 exact List.map_congr_left λp _=>by
  show(p.1,gM 1 (p.2:Rat))=p
  rw [A4]
def u7:Nat->List Ld->Prop
 | N,[]=>N<=12
 | N,l::ls=>N<=12/\if cu l then N<=6/\u7 (2*N) ls else u7 N ls
def m9:Nat->List Ld->Nat
 | N,[]=>N
 | N,l::ls=>if cu l then m9 (2*N) ls else m9 N ls
inductive vA:List Ld->Zi->Zi->Prop
 | nil {t:Zi}:vA [] t t
 | snoc {ls:List Ld} {l:Ld} {t g g':Zi}:vA ls t g->zd l g g'->(∀ p∈g',∃ i j,p.1=[i,j])->vA (ls++[l]) t g'
theorem zd.scale {l:Ld} {t g g':Zi} {τ:Rat} (h:zd l t g) (hg:∀ p∈g,∃ i j,p.1=[i,j]) (hg':∀ p∈g',∃ i j,p.1=[i,j]) (τ0:τ≠0) (e:∀ x y,vq g' x y=τ*vq g x y):zd l t g':=by
 obtain⟨⟨c,s,d,c0,hd,sd,v⟩,no⟩:=h;have two:∀ {t:Zi},(∀ p∈t,∃ i j,p.1=[i,j])->∀ p∈kD t,∃ i j,p.1=[i,j]:=λh p hp=>by
  obtain⟨q,hq,rfl⟩:=LF.mp hp;exact h q hq
 refine⟨⟨τ*c,s,d,λz=>(LR.mp z).elim τ0 c0,hd,sd,λx y a b ex=>by rw [e,v x y a b ex]; grind⟩,λx0 y0 p el=>?_⟩
 intro z;refine no x0 y0 p el λf=>?_
 have t:=dL.eq (u:=-1) (dL.val (dL.x _) (dL.y _) (two hg')) ((dL.const (-1) τ).mul (dL.val (dL.x _) (dL.y _) (two hg))) (λx y=>by rw [jt,jt]; exact e x y) (x0+1*f,0+0*f) (y0+0*f,0+1*f)
 have t:oK (-1) (kD g') (x0+1*f,0+0*f) (y0+0*f,0+1*f)=qm (-1) (qo τ) (oK (-1) (kD g) (x0+1*f,0+0*f) (y0+0*f,0+1*f)):=t;rw [z f] at t;have t1:(0:Rat)=τ*(oK (-1) (kD g) (x0+1*f,0+0*f) (y0+0*f,0+1*f)).1+0*_*-1:=congrArg Prod.fst t;have t2:(0:Rat)=τ*(oK (-1) (kD g) (x0+1*f,0+0*f) (y0+0*f,0+1*f)).2+0*_:=congrArg Prod.snd t;have f1:τ*(oK (-1) (kD g) (x0+1*f,0+0*f) (y0+0*f,0+1*f)).1=0:=by grind
 have f2:τ*(oK (-1) (kD g) (x0+1*f,0+0*f) (y0+0*f,0+1*f)).2=0:=by grind
 exact LX ((LR.mp f1).resolve_left τ0) ((LR.mp f2).resolve_left τ0)
theorem Ax {γ:Int} (γ0:γ≠0) {x y:Rat}:∀ {g:Zi},(∀ p∈g,γ ∣ p.2)->vq (g.map λx=>(x.1,x.2.fdiv γ)) x y=1 / (γ:Rat)*vq g x y
 | [],_=>by show(0:Rat)=_*0; grind
 | p::g,h=>by
  show((p.2.fdiv γ:Int):Rat)*mq p.1 x y+vq (g.map λx=>(x.1,x.2.fdiv γ)) x y=1 / (γ:Rat)*((p.2:Rat)*mq p.1 x y+vq g x y)
  rw [Ax γ0 λq hq=>h q (LM _ hq)]
  obtain⟨c,e⟩:=h p LL;have γ0':(γ:Rat)≠0:=λz=>γ0 (i0.mp z)
  rw [e,Int.mul_fdiv_cancel_left _ γ0,LB];have h1:1 / (γ:Rat)*γ=1:=by grind
  generalize 1 / (γ:Rat)=r at h1;have:r*((γ:Rat)*(c:Rat)*mq p.1 x y+vq g x y)=(r*(γ:Rat))*(c:Rat)*mq p.1 x y+r*vq g x y:=by grind
  rw [this,h1];grind
theorem Fc {g:Zi} {γ:Int} (γ0:γ≠0) (γd:∀ p∈g,γ ∣ p.2) (γm:∀ d:Int,(∀ p∈g,d ∣ p.2)->d ∣ γ) (γs:∃ m∈g,(∀ q∈g,pZ q.1 m.1=false)/\0 < m.2.fdiv γ):oI (kD (g.map λx=>(x.1,x.2.fdiv γ))) (g.map λx=>(x.1,x.2.fdiv γ)):=by
 refine⟨by rw [iZ],⟨1,by decide,λp hp=>⟨(p.2:Rat),LF.mpr ⟨p,hp,rfl⟩,by grind⟩,λp hp=>?_⟩,λd hd=>?_,?_⟩
 ·obtain⟨q,hq,rfl⟩:=LF.mp hp;exact⟨q.2,hq,by grind⟩
 ·have h1:d*γ ∣ γ:=γm _ λp hp=>by
   obtain⟨c,e⟩:=γd p hp;obtain⟨c',e'⟩:=hd _ (LF.mpr ⟨p,hp,rfl⟩);have e':p.2.fdiv γ=d*c':=e';rw [e,Int.mul_fdiv_cancel_left _ γ0] at e';exact⟨c',by rw [e,e']; grind⟩
  obtain⟨c,e⟩:=h1;have e1:γ*(1 - d*c)=0:=by grind
  have:=(Int.mul_eq_zero.mp e1).resolve_left γ0;exact⟨c,by omega⟩
 ·obtain⟨m,hm,h1,h2⟩:=γs;exact⟨_,LF.mpr ⟨m,hm,rfl⟩,λq hq=>by
   obtain⟨q',hq',rfl⟩:=LF.mp hq;exact h1 q' hq',h2⟩
structure oo (N:Nat) (c:Zr):Prop where
 nd:(c.map (·.1)).Nodup
 sm:∀ p∈c,∃ i j:Int,p.1=[i,j]/\0<=i/\0<=j/\i+j<=N
theorem oo.of {N:Nat} {c:Zr} {ns:Zi} (h:oo N c) (hN:oI c ns):Tg N ns:=by
 refine⟨by rw [hN.keys]; exact h.nd,λp hp=>?_⟩
 have:p.1∈c.map (·.1):=by rw [<- hN.keys]; exact LF.mpr ⟨p,hp,rfl⟩
 obtain⟨q,hq,e⟩:=LF.mp this;obtain⟨i,j,ek,r⟩:=h.sm q hq;exact⟨i,j,by rw [<- e]; exact ek,r⟩
theorem F_ {c:Zr} {ns:Zi} (hN:oI c ns) (nz:∀ p∈c,p.2≠0):∀ p∈ns,p.2≠0:=λp hp z=>by
 obtain⟨t,t0,f1,f2⟩:=hN.sc;obtain⟨q,hq,e⟩:=f1 p hp;rw [z] at e;have e:(0:Rat)=t*q:=e;exact(LR.mp e.symm).elim t0 (nz _ hq)
theorem qg {c:Zr} {ns:Zi} (hN:oI c ns):ns≠[]:=λz=>by
 obtain⟨p,hp,_⟩:=hN.sg;rw [z] at hp;cases hp
theorem zg {c:Zr} {ns:Zi} (hN:oI c ns):oI (kD ns) ns:=by
 refine⟨by rw [iZ],⟨1,by decide,λp hp=>⟨(p.2:Rat),LF.mpr ⟨p,hp,rfl⟩,by grind⟩,λp hp=>?_⟩,hN.co,hN.sg⟩
 obtain⟨q,hq,rfl⟩:=LF.mp hp;exact⟨q.2,hq,by grind⟩
def kh:cH:=λds S k=>∃ (y:D) (ls:List Ld) (a:MR) (c:Zr) (e N n:Nat) (B0:Int),ds=[y,.ref a]/\Gk S y (ls.map ii)/\(∀ l∈ls,fZ l/\ig l)/\ls.length<=6/\u7 N ls/\S a=some (bH (fc c) e)/\oo N c/\c≠[]/\(∀ p∈c,p.2≠0)/\0 < B0/\Bt n B0/\Dn B0 n c/\1<=n/\n<=1000/\∀ S' p ep ns g,aK S S'->oI c ns->vA ls ns g->Tg (m9 N ls) g->oI (kD g) g->(∀ p∈g,p.2≠0)->(∀ p∈g,Bt (n+9700*ls.length) p.2)->S' p=some (bH (sZ g) ep)->k (.ref p) S'
theorem eU:au ["leads","curve","told","lead","tops"] ["leads","curve"] (ap j5):=dX
theorem sW (Fn:FN K "curve_led" j5 f fd) (pj:bj P w K mg base "normal" 36 uy) (eD:bj P w K mg base "tops_over" 34 j8) (cy:bj P w K mg base "normal_of_tops" 34 cT) (fW:bj P w K mg base "tops_inverted" 36 jT) (jJ:bj P w K mg base "tops_moved" 38 jF):
  aT P w K mg base c8 39 f fd ["leads","curve"] (dk K kh):=by
 refine Fn.okJ eU (λds S k h=>?_) (λcdv A outer s H E hr=>⟨_,(af (ai (i:=2) eU.nd (dq pj hr (aG 1 ac))) (af (d_ PassesOwn.never rfl (ah 0) (ar (i:=3) eU.nd) (af (ai (i:=4) eU.nd (dq eD hr (aG 2 (aa ae ac)))) (aj (ai (i:=2) eU.nd (dq cy hr (aa (uV (ax fe (aJ 3) bX (aA _)) (dq fW hr (aG 3 (aG 4 ac))) (dq jJ hr (aG 3 (aG 4 ac)))) ac)))))) (aj (ao (ah 2))))),λds S k h=>?_⟩)
 ·obtain⟨_,_,_,_,_,_,_,_,rfl,_⟩:=h
  rfl
 ·obtain⟨y,ls,a,c,e,N,n,B0,rfl,hy,hok,hl,hdg,ha,ht,cne,cnz,b0,bB,hD,n1,hn,w⟩:=h;have hN12:N<=12:=by
   cases ls with
   | nil=>exact hdg
   | cons l ls=>exact hdg.1
  have two:∀ p∈c,∃ i j,p.1=[i,j]:=λp hp=>by
   obtain⟨i,j,e,_⟩:=ht.sm p hp;exact⟨i,j,e⟩
  have lc:c.length<=169:=by
   have h1:Tg N (c.map λp=>(p.1,(1:Int))):=⟨by rw [Mk]; exact ht.nd,λp hp=>by
    obtain⟨q,hq,rfl⟩:=LF.mp hp;exact ht.sm q hq⟩
   have:=h1.len hN12;rw [LG] at this;exact this
  refine⟨a,c,e,B0,rfl,ha,ht.nd,by omega,cne,two,cnz,b0,bB.mono,hD.up (by omega),λS1 p1 e1 ns x1 hN h1=>?_⟩
  have bt1:=Gw hN b0 hD;have hy1:Gk S1 y (ls.map ii):=by
   rcases hy with r | ⟨b,r,hb⟩
   ·exact .inl r
   ·exact .inr ⟨b,r,x1 _ _ hb⟩
  obtain⟨o,hi,ho⟩:=vO hy1;refine⟨_,hi,?_⟩;refine aL (λr L S'=>aK S1 S'/\∃ (don am:List Ld) (g:Zi) (N':Nat) (p:MR) (e2:Nat) (l3 l4:MS D),ls=don++am/\r=am.map ii/\L=[some y,some (.ref a),some (.ref p),l3,l4]/\S' p=some (bH (sZ g) e2)/\Tg N' g/\u7 N' am/\m9 N ls=m9 N' am/\vA don ns g/\oI (kD g) g/\(∀ p∈g,p.2≠0)/\∀ p∈g,Bt (n+9700*don.length) p.2) (λr L S' h=>ho S' h.1) ?_ ?_ _ _ _ ⟨aK.refl _,[],ls,ns,N,p1,e1,none,none,rfl,rfl,rfl,h1,ht.of hN,hdg,rfl,vA.nil,zg hN,F_ hN cnz,bt1⟩
  ·rintro dd r L S2 N1 ⟨x2,don,am,g,N',p,e2,l3,l4,ec,er,rfl,hp,hg,hdo,hde,hR,gN,gnz,bg⟩ hN1;cases am with
   | nil=>cases er
   | cons l am=>
    cases er;have hd:don.length < 6:=by have:=congrArg List.length ec; rw [LY,LQ] at this; omega
    obtain⟨ok,sz⟩:=hok l (by rw [ec]; simp)
    obtain⟨n12,hdo⟩:=hdo;have lg:=hg.len n12;refine⟨p,v0 g,e2,1,rfl,by rw [<- o5]; exact hp,by rw [iZ]; exact hg.nd,by rw [LG]; omega,λp hp=>(GX (by omega) bg p hp).mono,Es.mono,λS3 p3 e3 x3 h3=>?_⟩
    rw [Do] at h3;have nt:∀ S4 p4 e4 g4 N4,aK S3 S4->Tg N4 g4->N4<=12->u7 N4 am->m9 N ls=m9 N4 am->g4≠[]->(∀ p∈g4,p.2≠0)->zd l g g4->(∀ p∈g4,Bt (n+9700*don.length+9700) p.2)->S4 p4=some (bH (bc g4) e4)->cT [.ref p4] S4 (λd S5=>N1 [some y,some (.ref a),some d,some (ii l),some (.ref p3)] S5):=λS4 p4 e4 g4 N4 x4 hg4 n4 hdo4 hde4 g4e g4z r4 b4 hp4=>by
     have lg4:=hg4.len n4;refine⟨p4,g4,e4,rfl,hp4,hg4.nd,by omega,g4e,hg4.two,λp hp=>⟨g4z p hp,(b4 p hp).mono⟩,λS5 p5 e5 γ x5 γ0 γd γm γs hp5=>?_⟩
     have γ0':(γ:Rat)≠0:=λz=>γ0 (i0.mp z)
     have hg5:Tg N4 (g4.map λx=>(x.1,x.2.fdiv γ)):=⟨by rw [Mk]; exact hg4.nd,λp hp=>by
      obtain⟨x,hx,rfl⟩:=LF.mp hp;exact hg4.sm x hx⟩
     refine hN1 _ _ ⟨x2.trans (x3.trans (x4.trans x5)),don++[l],am,_,N4,p5,e5,_,_,by rw [ec]; simp,rfl,rfl,hp5,hg5,hdo4,hde4,hR.snoc (r4.scale hg4.two hg5.two (τ:=1 / (γ:Rat)) (by grind) λx y=>Ax γ0 γd) hg5.two,Fc γ0 γd γm γs,λp hp=>?_,λp hp=>?_⟩
     ·obtain⟨x,hx,rfl⟩:=LF.mp hp;obtain⟨c,e⟩:=γd x hx
      show x.2.fdiv γ≠0
      rw [e,Int.mul_fdiv_cancel_left _ γ0];rintro rfl;exact g4z x hx (by rw [e,Int.mul_zero])
     ·obtain⟨x,hx,rfl⟩:=LF.mp hp;exact((b4 x hx).le (HM.aN _ _)).mono (by rw [LY]; show _<=n+9700*(don.length+1); omega)
    have mv:cu l=false->jF [ii l,.ref p3] S3 (λd S4=>cT [d] S4 (λd S5=>N1 [some y,some (.ref a),some d,some (ii l),some (.ref p3)] S5)):=λhl=>by
     have ed:m9 N' (l::am)=m9 N' am:=by
      show(if cu l=true then m9 (2*N') am else m9 N' am)=_
      rw [hl]
      rfl
     rw [hl] at hdo;exact⟨l,p3,g,e3,N',n+9700*don.length,0,rfl,hl,ok,sz,h3,hg,n12,qg gN,gnz,bg,by omega,by omega,λS4 p4 e4 g4 x4 _ hg4 g4e g4z r4 b4 hp4=>nt S4 p4 e4 g4 N' x4 hg4 n12 hdo (hde.trans ed) g4e g4z r4 b4 hp4⟩
    cases l with
    | shift x y'=>exact mv rfl
    | grow x y' b=>exact mv rfl
    | turn x y' u v=>exact mv rfl
    | mirror x y' c=>exact mv rfl
    | invert x y' u=>
     obtain⟨n6,hdo⟩:N'<=6/\u7 (2*N') am:=hdo;exact⟨x,y',u,p3,g,e3,N',n+9700*don.length,0,rfl,ok,sz,h3,hg,n6,qg gN,gnz,bg,by omega,by omega,λS4 p4 e4 g4 x4 _ hg4 g4e g4z r4 b4 hp4=>nt S4 p4 e4 g4 (2*N') x4 hg4 (by omega) hdo hde g4e g4z r4 b4 hp4⟩
  ·rintro L S2 ⟨x2,don,am,g,N',p,e2,l3,l4,ec,er,rfl,hp,hg,hdo,hde,hR,gN,gnz,bg⟩;cases am with
   | cons l am=>cases er
   | nil=>
    rw [L0] at ec;subst ec;exact w S2 p e2 ns g (x1.trans x2) hN hR (by rw [hde]; exact hg) gN gnz (λp hp=>(bg p hp).mono) hp
def kI:cH:=λds S k=>∃ (ns:List Int) (i:Int),ds=[.rl (List.map D.int ns),.int i]/\0<=i/\∀ c:Int,k (.int c) S
theorem oj:au ["script","k"] ["script","k"] (ap hU):=dX
theorem oq (Fn:FN K "_law_cell_at" hU f fd) (jV:mg "len"=none):
  aT P w K mg base c8 1 f fd ["script","k"] (dk K kI):=by
 refine Fn.okJ oj (λds S k h=>?_) (λcdv A outer s H E hr=>⟨_,(af (aE (ax xX (ah 1) (bp AA rfl jV tM (aG 0 ac)) (aA _)) (aj (ao (bq bG (ah 0) (ah 1) Zf))) aF) (aj (ao ae))),λds S k h=>?_⟩)
 ·obtain⟨_,_,rfl,_⟩:=h
  rfl
 ·obtain⟨ns,i,rfl,h0,q⟩:=h;refine b_ (λhl=>?_) (λ_=>q 0)
  obtain⟨n,rfl⟩:=Int.eq_ofNat_of_zero_le h0;have hn:n < ns.length:=by rw [LG] at hl; omega
  have e:L2.atI (List.map D.int ns) (n:Int)=some (.int ns[n]):=jn (by rw [L8,L6 hn] <;> rfl)
  exact⟨_,e,q _⟩
def mW:cH:=λds S k=>∃ ns i,ds=[.rl (List.map D.int ns),.int i]/\0<=i/\∀ (p:MR) (n:Int) (b:M1),S p=none->(b=false->0<=n/\n < 2147483647)->k (.ref p) (put S p (.lst [.int n,.bl b]))
theorem k8:au ["script","k","cell"] ["script","k"] (ap js):=dX
theorem qH (Fn:FN K "_law_state" js f fd) (hZ:bj P w K mg base "_law_cell_at" 1 kI):
  aT P w K mg base c8 2 f fd ["script","k"] (dk K mW):=by
 refine Fn.okJ k8 (λds S k h=>?_) (λcdv A outer s H E hr=>⟨_,(af (ai (i:=2) k8.nd (dq hZ hr (aG 0 (aG 1 ac)))) (af (aE (ax KD (ah 2) (aw EY ae ae) (aA _)) (aj (ao (f_ (aa (aw gz (ah 2) (aw EY ae ae)) (aa fN ac))))) aF) (aj (ao (f_ (aa (aw n5 (ah 2) ae) (aa fN ac))))))),λds S k h=>?_⟩)
 ·obtain⟨_,_,rfl,_⟩:=h
  rfl
 ·obtain⟨ns,i,rfl,h0,q⟩:=h;have hp:G8 10 18:=⟨by decide,by decide,by decide⟩
  refine⟨ns,i,rfl,h0,λc=>⟨hp,b_ (λhl=>⟨hp,few,λp hn=>?_⟩) (λhl=>⟨(by show(2147483647:Int)≠0; decide),few,λp hn=>?_⟩)⟩⟩
  ·exact q p _ _ hn (λz=>by cases z)
  ·exact q p _ _ hn (λ_=>⟨Mr _ (by decide),MI _ (by decide)⟩)
def eh:cH:=λds S k=>∃ a m,ds=[.ref a,.int m]/\0 < m/\Bt 200 m/\on S a/\∀ r S',0<=r->r < m->Dr a S S'->k (.int r) S'
theorem gD:au ["state","many","mixed","found"] ["state","many"] (ap kJ):=dX
theorem sj (Fn:FN K "_law_take" kJ f fd):
  aT P w K mg base c8 1 f fd ["state","many"] (dk K eh):=by
 refine Fn.okJ gD (λds S k h=>?_) (λcdv A outer s H E hr=>⟨_,(af (aE (iu (aJ 0)) (af (ai (i:=3) gD.nd (aw n5 (aJ 0) (ah 1))) (af (cD (aw B6 (aJ 0) (ah 1)) (xH (ah 0) ae)) (aj (ao (ah 3))))) aF) (af (cD (aw n5 (aw cS (aw bK (aJ 0) ae) ae) ae) (xH (ah 0) ae)) (af (ai (i:=2) gD.nd (aw n5 (aw cS (aw cS (aw bK (aJ 0) (aJ 0)) (aw bK ae (aJ 0))) ae) ae)) (af (ai (i:=2) gD.nd (aw n5 (aw cS (aw bK (ah 2) (ah 2)) (aw bK ae (ah 2))) ae)) (aj (ao (aw n5 (aw B6 (ah 2) ae) (ah 1)))))))),λds S k h=>?_⟩)
 ·obtain⟨_,_,rfl,_⟩:=h
  rfl
 ·obtain⟨a,m,rfl,hm,hb,⟨n,b,hS,hn⟩,q⟩:=h;have put_dr:∀ (n':Int) (b':M1),(b'=false->0<=n'/\n' < 2147483647)->Dr a S (put S a (.lst [.int n',.bl b'])):=λn' b' h'=>
   ⟨⟨n',b',ak,h'⟩,λc o z e=>by rw [bI z]; exact e⟩
  refine⟨_,_,hS,J4,?_⟩;cases b with
  | true=>
   refine⟨_,_,hS,y7,(show m≠0 by omega),_,_,hS,y7,Ki (by omega) hb,_,_,hS,Jo,?_⟩
   exact q _ _ (Mr _ hm) (MI _ hm) (put_dr _ _ λz=>by cases z)
  | false=>
   obtain⟨n0,n1⟩:=hn rfl;have b31:=yr n0 (by omega)
   refine⟨_,_,hS,y7,iF (n:=31) b31 (yr (by decide) (by decide)),(show (2147483647:Int)≠0 by decide),_,_,hS,Jo,?_⟩
   have c0:0<=(n*48271+29).fmod 2147483647:=Mr _ (by decide)
   have c1:(n*48271+29).fmod 2147483647 < 2147483647:=MI _ (by decide)
   have bx:=yr c0 (by omega)
   refine⟨_,_,ak,y7,_,_,ak,y7,iF bx bx,_,_,ak,y7,iF (m:=31) (yr (by decide) (by decide)) bx,(show (2147483629:Int)≠0 by decide),?_⟩
   have d0:0<=((n*48271+29).fmod 2147483647*(n*48271+29).fmod 2147483647+39373*(n*48271+29).fmod 2147483647+7).fmod 2147483629:=Mr _ (by decide)
   have d1:((n*48271+29).fmod 2147483647*(n*48271+29).fmod 2147483647+39373*(n*48271+29).fmod 2147483647+7).fmod 2147483629 < 2147483629:=MI _ (by decide)
   have by':=yr d0 (by omega)
   refine⟨iF by' by',iF (m:=31) (yr (by decide) (by decide)) by',(show (2147483587:Int)≠0 by decide),⟨by decide,by decide +kernel⟩,(show m≠0 by omega),?_⟩
   exact q _ _ (Mr _ hm) (MI _ hm) (put_dr _ _ λ_=>⟨c0,c1⟩)
theorem Dv (a b:Int):Int.gcd (vk a) (vk b)=Int.gcd a b:=by
 have e:∀ x:Int,(vk x).natAbs=x.natAbs:=λx=>by unfold vk; split <;> omega
 unfold Int.gcd;rw [e,e]
def gY:cH:=λds S k=>∃ a b,ds=[.int a,.int b]/\k (.int ((Int.gcd a b:Nat):Int)) S
theorem dO:au ["one","other"] ["one","other"] (ap gW):=dX
theorem ot (Fn:FN K "_law_divisor" gW f fd) (oV:mg "abs"=none):
  aT P w K mg base c8 1 f fd ["one","other"] (dk K gY):=by
 refine Fn.okJ dO (λds S k h=>?_) (λcdv A outer s H E hr=>⟨_,(af (ai (i:=0) dO.nd (bp Ap rfl oV wB (aG 0 ac))) (af (ai (i:=1) dO.nd (bp Ap rfl oV wB (aG 1 ac))) (af (lu PassesOwn.never (ax Cg (ah 1) ae (aA _)) (aj (Bi (i:=0) (j:=1) rfl dO.nd (by decide) (aG 1 (aa (aw n5 (ah 0) (ah 1)) ac))))) (aj (ao (ah 0)))))),λds S k h=>?_⟩)
 ·obtain⟨_,_,rfl,_⟩:=h
  rfl
 ·obtain⟨a,b,rfl,q⟩:=h;refine⟨λm L S'=>S'=S/\∃ x y,L=[some (.int x),some (.int y)]/\m=y.natAbs/\0<=x/\0<=y/\Int.gcd x y=Int.gcd a b,⟨_,rfl,vk a,vk b,rfl,rfl,xu a,xu b,Dv a b⟩,?_⟩
  rintro m L S' ⟨rfl,x,y,rfl,rfl,hx,hy,e⟩;refine b_ (λhl=>⟨λL' S''=>∃ m',m' < y.natAbs/\S''=S'/\∃ x y,L'=[some (.int x),some (.int y)]/\m'=y.natAbs/\0<=x/\0<=y/\Int.gcd x y=Int.gcd a b,λ_ _ z=>z,by omega,?_⟩) (λhl=>?_)
  ·exact⟨_,xK x y (by omega),rfl,y,x.fmod y,rfl,rfl,hy,Mr _ hl,(uf x y).trans e⟩
  ·have z:y=0:=by omega
   subst z;have e2:=vi x;rw [e,if_neg (by omega)] at e2
   rw [e2] at q;exact q
def bO:cH:=λds S k=>∃ t b,ds=[.int t,.int b]/\b≠0/\Bt 800000 b/\k (fr (Rat.divInt t b)) S
theorem iO:au ["top","bottom","by"] ["top","bottom"] (ap jd):=dX
theorem qF (Fn:FN K "_law_ratio" jd f fd) (cY:bj P w K mg base "_law_divisor" 1 gY) (hBl:mr mg base) (hTr:P.given.tree=none):
  aT P w K mg base c8 34 f fd ["top","bottom"] (dk K bO):=by
 refine Fn.okJ iO (λds S k h=>?_) (λcdv A outer s H E hr=>⟨_,(af (ai (i:=2) iO.nd (dq cY hr (aG 0 (aG 1 ac)))) (af (aE (ax xX (ah 1) ae (aA _)) (aj (ai (i:=2) iO.nd (aw gz ae (ah 2)))) aF) (aj (ao (aq (aa (aw (lJ hr hBl hTr rfl rfl rfl (by decide)) (ah 0) (ah 2)) (aa (aw (lJ hr hBl hTr rfl rfl rfl (by decide)) (ah 1) (ah 2)) ac))))))),λds S k h=>?_⟩)
 ·obtain⟨_,_,rfl,_⟩:=h
  rfl
 ·obtain⟨t,b,rfl,h0,hb,q⟩:=h;have hg:=BI (t:=t) h0 hb;have hs:=zu (t:=t) h0;have e1:=so (t:=t) h0;have e2:=sV (t:=t) h0;have qq:k (.tup [.int (t.fdiv (ze t b)),.int (b.fdiv (ze t b))]) S:=by rw [e1,e2]; exact q
  unfold ze at qq hs
  refine⟨t,b,rfl,b_ (λhl=>?_) (λhl=>?_)⟩
  ·rw [if_pos hl] at qq hs
   rw [<- Int.zero_sub] at qq hs
   exact⟨hs,hs,few,qq⟩
  ·rw [if_neg hl] at qq hs
   exact⟨hs,hs,few,qq⟩
def dG:cH:=λds S k=>∃ (a b c d:Int) (q:Rat),ds=[pr a b,pr c d]/\b*d≠0/\Bt 400000 a/\Bt 400000 b/\Bt 400000 c/\Bt 400000 d/\Rat.divInt (a*c) (b*d)=q/\k (fr q) S
theorem qV:au ["one","other"] ["one","other"] (ap jj):=dX
theorem qW (Fn:FN K "_law_times" jj f fd) (aC:bj P w K mg base "_law_ratio" 34 bO):
  aT P w K mg base c8 35 f fd ["one","other"] (dk K dG):=by
 refine Fn.okJ qV (λds S k h=>?_) (λcdv A outer s H E hr=>⟨_,(aj (ao (dq aC hr (aa (aw bK (aJ 0) (aJ 1)) (aa (aw bK (aJ 0) (aJ 1)) ac))))),λds S k h=>?_⟩)
 ·obtain⟨_,_,_,_,_,rfl,_⟩:=h
  rfl
 ·obtain⟨a,b,c,d,_,rfl,h0,h1,h2,h3,h4,rfl,q⟩:=h;exact⟨iF h1 h3,iF h2 h4,_,_,rfl,h0,(h2.mul h4).mono,q⟩
def B (x:Q):D:=.tup [fr x.1,fr x.2]
def BP (x y:Q):D:=.tup [B x,B y]
theorem rQ {S:DH} {k:DK} {t b:Int} {q:Rat} (e:Rat.divInt t b=q) (h0:b≠0) (hb:Bt 800000 b) (h:k (fr q) S):bO [.int t,.int b] S k:=by subst e; exact⟨_,_,rfl,h0,hb,h⟩
theorem on.set {a q:MR} {S:DH} {o:DO} (h:on S a) (z:q≠a):on (put S q o) a:=by
 obtain⟨n,b,e,w⟩:=h;exact⟨n,b,by rw [bI (Ne.symm z)]; exact e,w⟩
def eo:cH:=λds S k=>∃ (a b c d:Int) (q:Rat),ds=[pr a b,pr c d]/\b*d≠0/\Bt 400000 a/\Bt 400000 b/\Bt 400000 c/\Bt 400000 d/\Rat.divInt (a*d+c*b) (b*d)=q/\k (fr q) S
theorem s_:au ["one","other"] ["one","other"] (ap km):=dX
theorem sJ (Fn:FN K "_law_plus" km f fd) (aC:bj P w K mg base "_law_ratio" 34 bO):
  aT P w K mg base c8 35 f fd ["one","other"] (dk K eo):=by
 refine Fn.okJ s_ (λds S k h=>?_) (λcdv A outer s H E hr=>⟨_,(aj (ao (dq aC hr (aa (aw cS (aw bK (aJ 0) (aJ 1)) (aw bK (aJ 1) (aJ 0))) (aa (aw bK (aJ 0) (aJ 1)) ac))))),λds S k h=>?_⟩)
 ·obtain⟨_,_,_,_,_,rfl,_⟩:=h
  rfl
 ·obtain⟨a,b,c,d,q,rfl,h0,h1,h2,h3,h4,e,w⟩:=h;exact⟨iF h1 h4,iF h3 h2,iF h2 h4,rQ e h0 (h2.mul h4).mono w⟩
def gH:cH:=λds S k=>∃ p q:Rat,ds=[fr p,fr q]/\Sz 400000 p/\Sz 400000 q/\k (fr (p - q)) S
theorem qT:au ["one","other"] ["one","other"] (ap jA):=dX
theorem qL (Fn:FN K "_law_minus" jA f fd) (aC:bj P w K mg base "_law_ratio" 34 bO):
  aT P w K mg base c8 35 f fd ["one","other"] (dk K gH):=by
 refine Fn.okJ qT (λds S k h=>?_) (λcdv A outer s H E hr=>⟨_,(aj (ao (dq aC hr (aa (aw gz (aw bK (aJ 0) (aJ 1)) (aw bK (aJ 1) (aJ 0))) (aa (aw bK (aJ 0) (aJ 1)) ac))))),λds S k h=>?_⟩)
 ·obtain⟨_,_,rfl,_⟩:=h
  rfl
 ·obtain⟨p,q,rfl,hp,hq,w⟩:=h;exact⟨iF hp.num hq.den,iF hq.num hp.den,iF hp.den hq.den,rQ (vK p q) (az p q) (hp.den.mul hq.den).mono w⟩
theorem eq_int {n:Nat} {i j:Int}:kW n (.int i) (.int j)=some (i == j):=by cases n <;> rfl
theorem Bq {n:Nat} {p q:Rat}:kW (n+1) (fr p) (fr q)=some (decide (p=q)):=by
 show jB (kW n) [.int p.num,.int (p.den:Int)] [.int q.num,.int (q.den:Int)]=_
 show(match kW n (.int p.num) (.int q.num),(match kW n (.int (p.den:Int)) (.int (q.den:Int)),some true with | some a,some b=>some (a && b) | _,_=>none) with | some a,some b=>some (a && b) | _,_=>none)=_
 rw [eq_int,eq_int]
 show some ((p.num == q.num) && (((p.den:Int) == (q.den:Int)) && true))=_
 congr 1
 rw [Bool.and_true,Bool.eq_iff_iff];simp only [Mj,beq_iff_eq,decide_eq_true_eq];exact⟨λz9=>by obtain⟨a,b⟩:=z9; exact Rat.ext a (by exact_mod_cast b),λh=>by subst h; exact⟨rfl,rfl⟩⟩
theorem BJ {n:Nat} {a b c d:D} {p q:M1} (h1:kW n a c=some p) (h2:kW n b d=some q):kW (n+1) (.tup [a,b]) (.tup [c,d])=some (p && q):=by
 show(match kW n a c,(match kW n b d,some true with | some a,some b=>some (a && b) | _,_=>none) with | some a,some b=>some (a && b) | _,_=>none)=_
 rw [h1,h2]
 show some (p && (q && true))=_
 rw [Bool.and_true]
abbrev At (c:Zr):Prop:=∀ p∈c,∃ i j:Int,p.1=[i,j]/\0<=i/\0<=j/\i+j<=3
def ca:cH:=λds S k=>∃ (a:MR) (m:Int),ds=[.ref a,.int m]/\1<=m/\m<=9/\on S a/\∀ q S',Sz 4 q->Dr a S S'->k (fr q) S'
theorem nH:au ["state","most"] ["state","most"] (ap fY):=dX
theorem nM (Fn:FN K "_law_fraction" fY f fd) (aC:bj P w K mg base "_law_ratio" 34 bO) (aH:bj P w K mg base "_law_take" 1 eh):
  aT P w K mg base c8 35 f fd ["state","most"] (dk K ca):=by
 refine Fn.okJ nH (λds S k h=>?_) (λcdv A outer s H E hr=>⟨_,(aj (ao (dq aC hr (aa (aw gz (dq aH hr (aG 0 (aa (aw cS (aw bK ae (ah 1)) ae) ac))) (ah 1)) (aa (aw cS ae (dq aH hr (aG 0 (aa (bq bG (f_ (aa ae (aa ae (aa ae (aa ae ac))))) (dq aH hr (aG 0 (aa ae ac))) Zf) ac)))) ac))))),λds S k h=>?_⟩)
 ·obtain⟨_,_,rfl,_⟩:=h
  rfl
 ·obtain⟨a,m,rfl,m1,m4,hS,w⟩:=h;have bm:Bt 4 m:=by unfold Bt; omega
  have b9:Bt 5 (2*m+1):=by unfold Bt; omega
  refine⟨iF (show Bt 2 2 by decide) bm,a,2*m+1,rfl,by omega,b9.mono,hS,λr1 S1 h1 h1' d1=>⟨few,λp hp=>⟨a,4,rfl,by decide,by decide,d1.1.new hp,λr2 S2 h2 h2' d2=>?_⟩⟩⟩
  have hp3:=d2.2 p _ (d1.1.ne hp) ak;obtain⟨c,hc,hm⟩:=xO (ds:=[.int 1,.int 1,.int 1,.int 4]) h2 h2';have hc2:∃ s:Int,c=.int s/\1<=s/\s<=4:=by
   simp only [LJ,LU,or_false] at hm;rcases hm with rfl | rfl | rfl | rfl
   ·exact⟨1,rfl,by decide,by decide⟩
   ·exact⟨1,rfl,by decide,by decide⟩
   ·exact⟨1,rfl,by decide,by decide⟩
   ·exact⟨4,rfl,by decide,by decide⟩
  obtain⟨s,rfl,s0,s1⟩:=hc2;have bs:Bt 4 s:=by unfold Bt; omega
  refine⟨_,_,hp3,hc,a,s,rfl,by omega,bs.mono,d2.1,λr3 S3 h3 h3' d3=>?_⟩
  have b1:Bt 4 (r1 - m):=by unfold Bt; omega
  have b2:Bt 4 (1+r3):=by unfold Bt; omega
  exact⟨_,_,rfl,by omega,b2.mono,w _ _ (Sz.divInt b1 b2 (by omega)) (d1.trans ((Dr.new d1.1 hp).trans (d2.trans d3)))⟩
def fH:cH:=λds S k=>∃ (a:MR) (m:Int),ds=[.ref a,.int m]/\1<=m/\m<=9/\on S a/\∀ q S',Sz 4 q->q≠0->Dr a S S'->k (fr q) S'
theorem kl:au ["state","most","found"] ["state","most"] (ap iP):=dX
theorem pi (Fn:FN K "_law_nought" iP f fd) (av:bj P w K mg base "_law_fraction" 35 ca):
  aT P w K mg base c8 36 f fd ["state","most"] (dk K fH):=by
 refine Fn.okJ kl (λds S k h=>?_) (λcdv A outer s H E hr=>⟨_,(af (ai (i:=2) kl.nd (dq av hr (aG 0 (aG 1 ac)))) (aj (ao (uV (ax uJ (aJ 2) ae (aA _)) (ah 2) (aq (aa ae (aa ae ac))))))),λds S k h=>?_⟩)
 ·obtain⟨_,_,rfl,_⟩:=h
  rfl
 ·obtain⟨a,m,rfl,m1,m4,hS,w⟩:=h;refine⟨a,m,rfl,m1,m4,hS,λq S1 hq d1=>BZ (λn=>w q S1 hq (λz=>n (by rw [z]; rfl)) d1) (λ_=>⟨few,w 1 S1 ⟨by decide,by decide⟩ (by decide) d1⟩)⟩
theorem wu {l:List (List Int×D)}:(cn l).length=l.length:=LG _
theorem wD {S:DH} {p f:MR} {c:Zr} {e1:Nat} {k:DK} (hp:S p=none) (hf:S f=some (bH (fc c) e1)) (nd:(c.map (·.1)).Nodup) (kk:∀ S2,aK S S2->S2 p=some (.lst (cn (fc (nz c))))->k (.ref p) S2):
  ∀ (am don:Zr) (l0:MS D) (S1:DH),c=don++am->aK S S1->S1 p=some (.lst (cn (fc (nz don))))->c.length<=100->
   aX (λS=>S f=some (bH (fc c) e1)) p (dU 0) (lT (nW (qG HB (qG qy (xr (cJ 1) (cJ 0)) (dC (.int 0))) (dC (.int 0)))) (ug (cj (cJ 0) (cj (xr (cJ 1) (cJ 0)) jX)))) k (am.map λx=>cz x.1) (cn (fc (nz don))) [l0,some (.ref f)] S1
 | [],don,l0,S1,ec,x1,h1,_=>by
  rw [L0] at ec;subst ec;exact⟨x1 _ _ hf,kk S1 x1 h1⟩
 | q::am,don,l0,S1,ec,x1,h1,hl=>by
  have f1:=x1 _ _ hf;have g1:de (fc c) q.1=some (fr q.2):=dI nd (by rw [ec]; simp)
  have hd:don.length < 100:=by have:=congrArg List.length ec; rw [LY,LQ] at this; omega
  have lz:(nz don).length<=don.length:=List.length_filter_le _ _;have ec':c=(don++[q])++am:=by rw [ec]; simp
  refine⟨f1,_,_,q.1,_,f1,rfl,g1,pY (λh0=>?_) (λh0=>?_)⟩
  ·have q0:q.2≠0:=λz=>h0 (by rw [z]; rfl)
   refine⟨_,_,q.1,_,f1,rfl,g1,few,h1,?_,?_⟩
   ·rw [wu,cG];exact lim (by omega)
   ·have ea:cn (fc (nz don))++[D.tup [cz q.1,fr q.2]]=cn (fc (nz (don++[q]))):=by
     simp [nz,List.filter_append,q0,cn,iB]
    rw [ea];exact wD hp hf nd kk am (don++[q]) _ _ ec' (x1.put hp) ak hl
  ·have q0:q.2=0:=MM.mp h0;have ea:cn (fc (nz don))=cn (fc (nz (don++[q]))):=by
    simp [nz,List.filter_append,q0]
   rw [ea];exact wD hp hf nd kk am (don++[q]) _ _ ec' x1 (by rw [h1,ea]) hl
def mT:cH:=λds S k=>∃ (a:MR) (c:Zr) (ep:Nat),ds=[.ref a]/\S a=some (bH (fc c) ep)/\(c.map (·.1)).Nodup/\c.length<=100/\∀ S' p ep',aK S S'->S p=none->S' p=some (bH (fc (nz c)) ep')->k (.ref p) S'
theorem qO:au ["sums"] ["sums"] (ap jh):=dX
theorem qM (Fn:FN K "_law_clean" jh f fd) (fX:mg "dict"=none):
  aT P w K mg base c8 1 f fd ["sums"] (dk K mT):=by
 refine Fn.okJ qO (λds S k h=>?_) (λcdv A outer s H E hr=>⟨_,(aj (ao (du (vV hr) rfl fX oJ (aa (qd rfl (cB (N:=["powers","sums"]) (cap:=[none,some 0]) rfl rfl rfl rfl ⟨rfl,trivial⟩ rfl rfl ⟨⟨rfl,.inl rfl,.inl rfl⟩,trivial⟩) (fJ (ah 0)) (λ_ _ _ _=>(ar (i:=0) (show List.Nodup (["powers","sums"]:List Str) from by decide +kernel))) (λ_ _ _ _=>(ax uJ (bq bG (gG hr (ah 1) (ah 0) Zf) ae Zf) ae (aA _))) (λ_ _ _ _=>(aq (aG 0 (aa (gG hr (ah 1) (ah 0) Zf) ac))))) ac)))),λds S k h=>?_⟩)
 ·obtain⟨_,_,_,rfl,_⟩:=h
  rfl
 ·obtain⟨a,c,ep,rfl,ha,nd,hl,w⟩:=h;refine⟨_,_,ha,λp2 hp2=>?_⟩
  rw [ux];exact wD (S:=S) hp2 ha nd (λS2 x2 h2=>.inr ⟨_,h2,λp3 hp3 e5=>w _ p3 e5 (x2.trans (aK.new hp3)) (x2.none hp3) (by rw [ak,dZ (f:=fr) (rh nd)])⟩) c [] none _ rfl (aK.new hp2) ak hl
structure vw (n:Nat) (c:Zr):Prop where
 nd:(c.map (·.1)).Nodup
 hl:c.length<=n
 sm:At c
 hz:∀ p∈c,Sz 30 p.2
theorem vw.nil:vw 0 []:=⟨List.nodup_nil,by decide,λp h=>(nomatch h),λp h=>(nomatch h)⟩
theorem vw.put {n:Nat} {c:Zr} (h:vw n c) {i j:Int} {x:Rat} (i0:0<=i) (j0:0<=j) (ij:i+j<=3) (hx:Sz 30 x):∃ c',fk (fc c) [i,j] (fr x)=fc c'/\vw (n+1) c'/\([i,j],x)∈c'/\(∀ p∈c,p.1≠[i,j]->p∈c')/\∀ p∈c',p∈c\/p=([i,j],x):=by
 obtain⟨c',e,nd,hl,mm,m1,m2⟩:=Ad (l:=c) (k:=[i,j]) (x:=x);have:=h.hl;refine⟨c',e,⟨nd h.nd,by omega,λp hp=>?_,λp hp=>?_⟩,m1,m2,mm⟩
 ·rcases mm p hp with m | rfl
  ·exact h.sm p m
  ·exact⟨i,j,rfl,i0,j0,ij⟩
 ·rcases mm p hp with m | rfl
  ·exact h.hz p m
  ·exact hx
theorem vw.nz {n:Nat} {c:Zr} (h:vw n c):vw n (nz c):=⟨rh h.nd,Mi Gz h.hl,λp hp=>h.sm p (sL.mp hp).1,λp hp=>h.hz p (sL.mp hp).1⟩
theorem vw.mono {m n:Nat} {c:Zr} (h:vw m c) (hm:m<=n:=by first|decide|omega):vw n c:=⟨h.nd,Mi h.hl hm,h.sm,h.hz⟩
theorem xo {S:DH} {a p:MR} {l:List (List Int×D)} {ep:Nat} (h:on S a) (e:S p=some (bH l ep)):p≠a:=λz=>by
 obtain⟨n,b,e2,_⟩:=h;rw [z,e2] at e;cases e
theorem GM {c:DT} {t e b2:DS} {M:lY} {L:Lo} {S:DH} (P:Lo->DH->Prop) (h2:∀ L S,P L S->b2 M L S) (h1:(∀ L S,P L S->b2 M L S)->GI c t e {M with nx:=b2 M} L S):yI (GI c t e) b2 M L S:=h1 h2
theorem on.ext {a:MR} {S S':DH} (h:on S a) (x:aK S S'):on S' a:=by
 obtain⟨n,b,e,q⟩:=h;exact⟨n,b,x _ _ e,q⟩
theorem Dr.ext {a:MR} {S S' S'':DH} (h:Dr a S S') (x:aK S' S''):Dr a S S'':=⟨h.1.ext x,λb o n e=>x _ _ (h.2 b o n e)⟩
theorem Dr.non' {a p:MR} {S S':DH} (h:Dr a S S') (hp:S' p=none):S p=none:=by
 cases e:S p with
 | none=>rfl
 | some o=>rw [h.2 p o (h.1.ne hp) e] at hp; cases hp
theorem Dr.putN {a p:MR} {S T:DH} {o:DO} (d:Dr a S T) (hp:S p=none) (n:p≠a):Dr a S (put T p o):=⟨d.1.set n,λb u nb e=>by
 rw [bI (λz=>by rw [z,hp] at e; cases e)]
 exact d.2 b u nb e⟩
theorem Dr.keep {a p:MR} {S S':DH} {o:DO} (h:Dr a S S') (n:p≠a) (e:S p=some o):S' p=some o:=h.2 p o n e
theorem wt {S:DH} {p f:MR} {c:Zr} {e1:Nat} {k:DK} (hp:S p=none) (hf:S f=some (bH (fc c) e1)) (sm:At c) (kk:∀ S2 ks,aK S S2->S2 p=some (.lst ks)->(ks=[]->∀ x∈c,x.1=[0,0])->(ks≠[]->c≠[])->k (.ref p) S2):
  ∀ (am don:Zr) (acc:List D) (l0:MS D) (S1:DH),c=don++am->aK S S1->S1 p=some (.lst acc)->(acc=[]->∀ x∈don,x.1=[0,0])->acc.length<=don.length->c.length<=100->
   aX (λS=>S f=some (bH (fc c) e1)) p (dU 0) (lT (nW (qG B5 (cJ 0) (ug (cj (dC (D.int 0)) (cj (dC (D.int 0)) jX))))) (cJ 0)) k (am.map λx=>cz x.1) acc [l0] S1
 | [],don,acc,l0,S1,ec,x1,h1,h2,h3,_=>by
  rw [L0] at ec;subst ec;refine⟨x1 _ _ hf,kk S1 acc x1 h1 h2 λn z=>n ?_⟩
  rw [z] at h3;exact MN.mp (Nat.le_zero.mp h3)
 | q::am,don,acc,l0,S1,ec,x1,h1,h2,h3,hl=>by
  have f1:=x1 _ _ hf;have hd:don.length < 100:=by have:=congrArg List.length ec; rw [LY,LQ] at this; omega
  have ec':c=(don++[q])++am:=by rw [ec]; simp
  obtain⟨i,j,e,_⟩:=sm q (by rw [ec]; simp)
  rw [LP,e];refine⟨f1,few,_,BJ (n:=7) (eq_int (n:=7) (i:=i) (j:=0)) (eq_int (n:=7) (i:=j) (j:=0)),Bv (λ_=>⟨h1,lim (by omega),?_⟩) (λez=>?_)⟩
  ·exact wt hp hf sm kk am (don++[q]) _ _ _ ec' (x1.put hp) ak (λz=>by simp at z) (by rw [LY,LY]; simp; exact h3) hl
  ·refine wt hp hf sm kk am (don++[q]) _ _ _ ec' x1 h1 (λz x hx=>?_) (by rw [LY]; omega) hl
   rcases List.mem_append.mp hx with m | m
   ·exact h2 z x m
   ·have:x=q:=by simpa using m
    rw [this,e];simp only [Mj,beq_iff_eq] at ez;rw [ez.1,ez.2]
theorem Lu {a b r:Rat}:At (HA a b r):=λp hp=>by
 simp only [LJ,LU,or_false] at hp;rcases hp with rfl | rfl | rfl <;> exact⟨_,_,rfl,by decide,by decide,by decide⟩
def KI (c:Zr):Prop:=vw 9 c/\c≠[]/\∀ p∈c,p.2≠0
def mS:cH:=λds S k=>∃ (a:MR) (m:Int),ds=[.ref a,.int m]/\m=3/\on S a/\∀ S' p ep c,Dr a S S'->KI c->S' p=some (bH (fc c) ep)->k (.ref p) S'
theorem bU:au ["state","most","kind","sums","number","turn","i"] ["state","most"] (ap jE):=dX
theorem qX (Fn:FN K "_law_curve" jE f fd) (aH:bj P w K mg base "_law_take" 1 eh) (av:bj P w K mg base "_law_fraction" 35 ca) (bz:bj P w K mg base "_law_nought" 36 fH) (ji:bj P w K mg base "_law_clean" 1 mT) (aB:mg "range"=none):
  aT P w K mg base c8 37 f fd ["state","most"] (dk K mS):=by
 refine Fn.okJ bU (λds S k h=>?_) (λcdv A outer s H E hr=>⟨_,(af (ai (i:=2) bU.nd (dq aH hr (aG 0 (aa ae ac)))) (af (aE (ax (ue hr) (ah 2) ae (aA _)) (aj (ai (i:=3) bU.nd (fF hr (br (aq (aa ae (aa ae ac))) (dq av hr (aG 0 (aa ae ac))) (br (aq (aa ae (aa ae ac))) (dq av hr (aG 0 (aa ae ac))) (br (aq (aa ae (aa ae ac))) (dq av hr (aG 0 (aa ae ac))) iM)))))) (aj (aE (ax (ue hr) (ah 2) ae (aA _)) (af (ai (i:=4) bU.nd (dq bz hr (aG 0 (aa ae ac)))) (af (ai (i:=3) bU.nd (fF hr (br (aq (aa ae (aa ae ac))) (ah 4) (br (aq (aa ae (aa ae ac))) (ah 4) (br (aq (aa ae (aa ae ac))) (dq av hr (aG 0 (aa ae ac))) (br (aq (aa ae (aa ae ac))) (dq av hr (aG 0 (aa ae ac))) iM)))))) (aj (cD (dq av hr (aG 0 (aa ae ac))) (dQ hr (ah 3) (aq (aa ae (aa ae ac)))))))) (af (ai (i:=3) bU.nd eW) (aj (cV PassesOwn.never rfl rfl aB (aa (aw cS ae (dq aH hr (aG 0 (aa ae ac)))) ac) (ar (i:=5) bU.nd) (af (ai (i:=6) bU.nd (dq aH hr (aG 0 (aa (aw cS (ah 1) ae) ac)))) (aj (cD (dq av hr (aG 0 (aa ae ac))) (dQ hr (ah 3) (aq (aG 6 (aa (dq aH hr (aG 0 (aa (aw gz (aw cS (ah 1) ae) (ah 6)) ac))) ac))))))))))))) (af (ai (i:=3) bU.nd (dq ji hr (aG 3 ac))) (af (aE (ax (ue hr) (qd rfl (cB (N:=["powers"]) (cap:=[none]) rfl rfl rfl rfl trivial rfl rfl trivial) (fJ (ah 3)) (λ_ _ _ _=>(ar (i:=0) (show List.Nodup (["powers"]:List Str) from by decide +kernel))) (λ_ _ _ _=>(ax (Aw hr) (ah 0) (aq (aa ae (aa ae ac))) (aA _))) (λ_ _ _ _=>(ah 0))) (f_ ac) (aA _)) (aj (cD (aq (aa ae (aa ae ac))) (dQ hr (ah 3) (aq (aa ae (aa ae ac)))))) aF) (aj (ao (ah 3))))))),λds S k h=>?_⟩)
 ·obtain⟨_,_,rfl,_⟩:=h
  rfl
 ·obtain⟨a,m,rfl,rfl,hS,w⟩:=h;refine⟨a,4,rfl,by decide,by decide,hS,λr1 S1 h1 h1' d1=>?_⟩
  dsimp only;refine GM (λL S'=>∃ r2 p r4 r5 r6 ep c,L=[some (.ref a),some (.int 3),r2,some (.ref p),r4,r5,r6]/\vw 8 c/\S' p=some (bH (fc c) ep)/\Dr a S S') ?_ ?_
  ·rintro L S' ⟨r2,p,r4,r5,r6,ep,c,rfl,hc,hp,d⟩;have hl:=hc.hl;refine⟨p,c,ep,rfl,hp,hc.nd,by omega,λS2 q e2 x2 hq h2=>?_⟩
   refine⟨_,_,h2,λr hr=>?_⟩
   rw [ux];have hn:=hc.nz;have hnl:=hn.hl;have nq:q≠a:=d.1.ne hq;have Sq:=d.non' hq;refine wt (S:=S2) hr h2 hn.sm (λS3 ks x3 h3 k1 k2=>⟨few,λr' hr'=>?_⟩) (nz c) [] [] none _ rfl (aK.new hr) ak (λ_ x hx=>nomatch hx) (LD _) (by omega)
   have nr:r≠r':=fo h3 hr';have x4:=(x2.trans x3).trans (aK.new (o:=.lst []) hr');have h4:=(x3.trans (aK.new (o:=.lst []) hr')) _ _ h2;have y1:put S3 r' (.lst []) r=some (.lst ks):=by rw [bI nr]; exact h3
   have y2:put S3 r' (.lst []) r'=some (.lst []):=ak;have d4:=d.ext x4;generalize put S3 r' (.lst [])=S4 at x4 h4 y1 y2 d4 ⊢
   by_cases hk:ks=[]
   ·subst hk;refine⟨[],[],true,y1,y2,.inl ⟨rfl,rfl⟩,Fe ⟨few,few,_,_,[1,0],h4,rfl,by rw [cG]; exact lim (by omega),λe5=>?_⟩⟩
    obtain⟨c',ec,hc',m1,m2,mm⟩:=hn.put (i:=1) (j:=0) (x:=1) (by decide) (by decide) (by decide) ⟨by decide,by decide⟩
    have ec:fk (fc (nz c)) [1,0] (D.tup [.int 1,.int 1])=fc c':=ec;refine w _ q e5 c' (d4.putN Sq nq) ⟨hc',List.ne_nil_of_mem m1,λp hp=>?_⟩ (by rw [ak,ec])
    rcases mm p hp with m | rfl
    ·exact(sL.mp m).2
    ·show(1:Rat)≠0
     decide
   ·exact⟨ks,[],false,y1,y2,.inr ⟨λz=>hk (MN.mp z),rfl⟩,BH (w _ q e2 (nz c) d4 ⟨hn.mono,k2 hk,λp hp=>(sL.mp hp).2⟩ h4)⟩
  ·intro F;refine⟨_,eq_int,rH (λ_=>?_) (λ_=>⟨_,eq_int,rH (λ_=>?_) (λ_=>?_)⟩)⟩
   ·intro p hp e0;have np:p≠a:=Ne.symm (d1.1.ne hp).symm;refine⟨few,a,3,rfl,by decide,by decide,d1.1.new hp,λq1 T1 z1 g1=>⟨few,a,3,rfl,by decide,by decide,g1.1,λq2 T2 z2 g2=>⟨few,a,3,rfl,by decide,by decide,g2.1,λq3 T3 z3 g3=>?_⟩⟩⟩
    refine⟨e0,fc [([1,0],q1),([0,1],q2),([0,0],q3)],g3.keep np (g2.keep np (g1.keep np ak)),rfl,by show 3<=15; decide,λe1=>?_⟩
    exact F _ _ ⟨_,p,_,_,_,e1,HA q1 q2 q3,rfl,⟨BX,by show 3<=8; decide,Lu,JM (P:=Sz 30) (z1.mono) (z2.mono) (z3.mono)⟩,by rw [ak,dZ (f:=fr) (l:=HA q1 q2 q3) BX],(d1.trans ((Dr.new d1.1 hp).trans (g1.trans (g2.trans g3)))).putN (d1.non' hp) np⟩
   ·refine⟨a,2,rfl,by decide,by decide,d1.1,λq0 T0 z0 n0 g0=>λp hp e0=>?_⟩
    have np:p≠a:=g0.1.ne hp;have nd:(([([2,0],q0),([0,2],q0),([1,0],q0),([0,1],q0)]:Zr).map (·.1)).Nodup:=by show(([[2,0],[0,2],[1,0],[0,1]]:List (List Int))).Nodup; decide
    refine⟨few,few,few,a,4,rfl,by decide,by decide,g0.1.new hp,λq1 T1 z1 g1=>⟨few,a,4,rfl,by decide,by decide,g1.1,λq2 T2 z2 g2=>?_⟩⟩
    have nd:(([([2,0],q0),([0,2],q0),([1,0],q1),([0,1],q2)]:Zr).map (·.1)).Nodup:=nd;have hd:vw 4 [([2,0],q0),([0,2],q0),([1,0],q1),([0,1],q2)]:=⟨nd,by show 4<=4; decide,λp hp=>by
     simp only [LJ,LU,or_false] at hp;rcases hp with rfl | rfl | rfl | rfl <;> exact⟨_,_,rfl,by decide,by decide,by decide⟩,λp hp=>by
     simp only [LJ,LU,or_false] at hp;rcases hp with rfl | rfl | rfl | rfl
     ·exact z0.mono
     ·exact z0.mono
     ·exact z1.mono
     ·exact z2.mono⟩
    refine⟨e0,fc [([2,0],q0),([0,2],q0),([1,0],q1),([0,1],q2)],g2.keep np (g1.keep np ak),rfl,by show 4<=15; decide,λe1=>?_⟩
    have dd:=(d1.trans (g0.trans ((Dr.new g0.1 hp).trans (g1.trans g2)))).putN (o:=bH (aZ [] (fc [([2,0],q0),([0,2],q0),([1,0],q1),([0,1],q2)])) e1) ((d1.trans g0).non' hp) np;have yy:put T2 p (bH (aZ [] (fc [([2,0],q0),([0,2],q0),([1,0],q1),([0,1],q2)])) e1) p=some (bH (fc [([2,0],q0),([0,2],q0),([1,0],q1),([0,1],q2)]) e1):=by rw [ak,dZ (f:=fr) nd]
    generalize put T2 p (bH (aZ [] (fc [([2,0],q0),([0,2],q0),([1,0],q1),([0,1],q2)])) e1)=T3 at dd yy ⊢
    refine⟨a,9,rfl,by decide,by decide,dd.1,λq5 T5 z5 g5=>⟨few,_,_,[0,0],g5.keep np yy,rfl,by rw [cG]; exact lim (by show 4<=100000; decide),λe6=>?_⟩⟩
    obtain⟨c',ec,hc',_⟩:=hd.put (i:=0) (j:=0) (x:=q5) (by decide) (by decide) (by decide) (z5.mono)
    exact F _ _ ⟨_,p,_,_,_,e6,c',rfl,hc'.mono,by rw [ak,ec],(dd.trans g5).putN ((d1.trans g0).non' hp) np⟩
   ·intro p hp e0;have np:p≠a:=d1.1.ne hp;have Sp:=d1.non' hp;refine⟨a,5,rfl,by decide,by decide,d1.1.new hp,λr2 T2 h2 h2' g2=>⟨⟨by omega,by omega⟩,?_⟩⟩
    have d0:=d1.trans ((Dr.new (o:=bH [] e0) d1.1 hp).trans g2);refine aL (λr L S'=>∃ l2 l4 l5 l6 ep n c,L=[some (.ref a),some (.int 3),l2,some (.ref p),l4,l5,l6]/\vw n c/\r.length+n<=5/\S' p=some (bH (fc c) ep)/\Dr a S S') (λ_ _ _ _=>trivial) ?_ ?_ _ _ _ ⟨_,_,_,_,e0,0,[],rfl,vw.nil,by rw [LG,List.length_range]; omega,g2.keep np ak,d0⟩
    ·rintro d r L S' N1 ⟨l2,l4,l5,l6,ep,n,c,rfl,hc,hl,hh,dd⟩ hN1;have hl:r.length+1+n<=5:=hl;refine⟨a,3+1,rfl,by decide,by decide,dd.1,λi T3 i0 i1 g3=>⟨a,3,rfl,by decide,by decide,g3.1,λx T4 zx g4=>⟨a,3+1 - i,rfl,by omega,by unfold Bt; omega,g4.1,λj T5 j0 j1 g5=>⟨few,_,_,[i,j],g5.keep np (g4.keep np (g3.keep np hh)),rfl,by rw [cG]; exact lim (by have:=hc.hl; omega),λe6=>?_⟩⟩⟩⟩
     obtain⟨c',ec,hc',_⟩:=hc.put (i:=i) (j:=j) (x:=x) i0 j0 (by omega) (zx.mono)
     exact hN1 _ _ ⟨_,_,_,_,e6,n+1,c',rfl,hc',by omega,by rw [ak,ec],(dd.trans (g3.trans (g4.trans g5))).putN Sp np⟩
    ·rintro L S' ⟨l2,l4,l5,l6,ep,n,c,rfl,hc,hl,hh,dd⟩;exact F _ _ ⟨_,p,_,_,_,ep,c,rfl,hc.mono,hh,dd⟩
theorem Dr.put {a q:MR} {S S1:DH} {o:DO} (h:Dr a S S1) (hq:S q=none) (z:q≠a):Dr a S (put S1 q o):=⟨h.1.set z,λb u n e=>by rw [bI (fo e hq)]; exact h.2 b u n e⟩
def Aa:List (Rat×Rat):=[(⟨3,5,by decide,by decide⟩,⟨4,5,by decide,by decide⟩),(0,1),(⟨-5,13,by decide,by decide⟩,⟨12,13,by decide,by decide⟩),(-1,0),(⟨8,17,by decide,by decide⟩,⟨-15,17,by decide,by decide⟩)]
theorem FD {p:Rat×Rat} (h:p∈Aa):∃ P Q E:Int,E≠0/\Bt 40 P/\Bt 40 Q/\Bt 40 E/\p.1*E=P/\p.2*E=Q:=by
 unfold Aa at h;simp only [LJ,LU,or_false] at h;rcases h with rfl | rfl | rfl | rfl | rfl
 ·exact⟨3,4,5,by decide,by decide,by decide,by decide,by decide +kernel,by decide +kernel⟩
 ·exact⟨0,1,1,by decide,by decide,by decide,by decide,by decide +kernel,by decide +kernel⟩
 ·exact⟨-5,12,13,by decide,by decide,by decide,by decide,by decide +kernel,by decide +kernel⟩
 ·exact⟨-1,0,1,by decide,by decide,by decide,by decide,by decide +kernel,by decide +kernel⟩
 ·exact⟨8,-15,17,by decide,by decide,by decide,by decide,by decide +kernel,by decide +kernel⟩
theorem C3 {p:Rat×Rat} (h:p∈Aa):p.1*p.1+p.2*p.2=1:=by
 unfold Aa at h;simp only [LJ,LU,or_false] at h;rcases h with rfl | rfl | rfl | rfl | rfl <;> decide +kernel
theorem Ky {a b:Rat} (h:¬ (a=0/\b=0)):a*a+b*b≠0:=λz=>by
 have n1:=fG a;have n2:=fG b;exact h ⟨FM (by grind),FM (by grind)⟩
def oa:cH:=λds S k=>∃ (a:MR) (i:Int),ds=[.ref a,.int i]/\0<=i/\i<=1/\on S a/\∀ l S',fZ l->ig l->(i=0->cu l=false)->Dr a S S'->k (ii l) S'
theorem dH:au ["state","inverts","way","x","y","some"] ["state","inverts"] (ap kB):=dX
theorem tD (Fn:FN K "_law_lead" kB f fd) (aH:bj P w K mg base "_law_take" 1 eh) (av:bj P w K mg base "_law_fraction" 35 ca) (bz:bj P w K mg base "_law_nought" 36 fH):
  aT P w K mg base c8 37 f fd ["state","inverts"] (dk K oa):=by
 refine Fn.okJ dH (λds S k h=>?_) (λcdv A outer s H E hr=>⟨_,(af (ai (i:=2) dH.nd (dq aH hr (aG 0 (aa (aw cS ae (ah 1)) ac)))) (af (ai (i:=3) dH.nd (dq av hr (aG 0 (aa ae ac)))) (af (ai (i:=4) dH.nd (dq av hr (aG 0 (aa ae ac)))) (af (aE (ax fe (ah 2) ae (aA _)) (aj (ao (aq (aa bX (aG 3 (aG 4 ac)))))) aF) (af (aE (ax fe (ah 2) ae (aA _)) (aj (ao (aq (aa bX (aG 3 (aG 4 (aa (dq bz hr (aG 0 (aa ae ac))) ac))))))) aF) (af (aE (ax fe (ah 2) ae (aA _)) (af (ai (i:=5) dH.nd (f_ (aa (aq (aa (aq (aa ae (aa ae ac))) (aa (aq (aa ae (aa ae ac))) ac))) (aa (aq (aa (aq (aa ae (aa ae ac))) (aa (aq (aa ae (aa ae ac))) ac))) (aa (aq (aa (aq (aa (eE eF ae) (aa ae ac))) (aa (aq (aa ae (aa ae ac))) ac))) (aa (aq (aa (aq (aa (eE eF ae) (aa ae ac))) (aa (aq (aa ae (aa ae ac))) ac))) (aa (aq (aa (aq (aa ae (aa ae ac))) (aa (aq (aa (eE eF ae) (aa ae ac))) ac))) ac))))))) (aj (ao (aw cS (aq (aa bX (aG 3 (aG 4 ac)))) (bq bG (ah 5) (dq aH hr (aG 0 (aa ae ac))) Zf))))) aF) (af (aE (ax fe (ah 2) ae (aA _)) (af (aE (WJ.pt (oP (ax fe (aJ 3) ae (aA _)) (mC (ax fe (aJ 4) ae (aA _))))) (aj (ai (i:=3) dH.nd (aq (aa ae (aa ae ac))))) aF) (aj (ao (aq (aa bX (aG 3 (aG 4 (aa (dq av hr (aG 0 (aa ae ac))) ac)))))))) aF) (aj (ao (aq (aa bX (aG 3 (aG 4 (aa (dq bz hr (aG 0 (aa ae ac))) ac)))))))))))))),λds S k h=>?_⟩)
 ·obtain⟨_,_,rfl,_⟩:=h
  rfl
 ·obtain⟨a,i,rfl,i0,i1,hS,w⟩:=h;refine⟨a,4+i,rfl,by omega,Bt.mono (m:=4) (by unfold Bt; omega) (by decide),hS,λr S1 h1 h1' d1=>⟨a,3,rfl,by decide,by decide,d1.1,λx S2 hx d2=>⟨a,3,rfl,by decide,by decide,d2.1,λy S3 hy d3=>?_⟩⟩⟩
  have D3:=d1.trans (d2.trans d3);refine b_ (λ_=>⟨few,w (.shift x y) S3 trivial ⟨hx.mono,hy.mono⟩ (λ_=>rfl) D3⟩) (λq0=>b_ (λ_=>⟨a,2,rfl,by decide,by decide,d3.1,λb S4 hb b0 d4=>⟨few,w (.grow x y b) S4 b0 ⟨hx.mono,hy.mono,hb.mono⟩ (λ_=>rfl) (D3.trans d4)⟩⟩) (λq1=>b_ (λ_=>?_) (λq2=>b_ (λ_=>?_) (λq3=>⟨a,4,rfl,by decide,by decide,d3.1,λb S4 hb b0 d4=>⟨few,w (.invert x y b) S4 b0 ⟨hx.mono,hy.mono,hb.mono⟩ (λz=>by omega) (D3.trans d4)⟩⟩))))
  ·refine⟨few,few,few,few,few,few,few,few,few,few,few,few,few,few,few,few,λp hp=>⟨few,a,5,rfl,by decide,by decide,d3.1.new hp,λr4 S4 h4 h4' d4=>?_⟩⟩
   have hp4:=d4.2 p _ (d3.1.ne hp) ak;obtain⟨c,hc,hm⟩:=xO (ds:=Aa.map λp=>W p.1 p.2) h4 h4'
   obtain⟨pq,hpq,rfl⟩:=LF.mp hm;refine⟨_,_,hp4,hc,by simp,by simp,LV rfl,w (.turn x y pq.1 pq.2) S4 (C3 hpq) ⟨hx.mono,hy.mono,FD hpq⟩ (λ_=>rfl) (D3.trans ((Dr.new d3.1 hp).trans d4))⟩
  ·have fin:∀ x':Rat,Sz 4 x'->x'*x'+y*y≠0->ca [.ref a,.int 3] S3 λd S'=>k (.tup [.str "mirror",fr x',fr y,d]) S':=λx' hx' n=>⟨a,3,rfl,by decide,by decide,d3.1,λc S4 hc d4=>w (.mirror x' y c) S4 n ⟨hx'.mono,hy.mono,hc.mono⟩ (λ_=>rfl) (D3.trans d4)⟩
   refine b_ (λzx=>b_ (λzy=>?_) (λzy=>?_)) (λzx=>?_)
   ·obtain⟨a',m',e',r1,r2,r3,r4⟩:=fin 1 ⟨by decide,by decide⟩ (Ky λz=>absurd z.1 (by decide))
    exact⟨few,a',m',e',r1,r2,r3,λq S' hq d=>⟨few,r4 q S' hq d⟩⟩
   ·obtain⟨a',m',e',r1,r2,r3,r4⟩:=fin x hx (Ky λz=>zy (by rw [z.2]; rfl))
    exact⟨a',m',e',r1,r2,r3,λq S' hq d=>⟨few,r4 q S' hq d⟩⟩
   ·obtain⟨a',m',e',r1,r2,r3,r4⟩:=fin x hx (Ky λz=>zx (by rw [z.1]; rfl))
    exact BH ⟨a',m',e',r1,r2,r3,λq S' hq d=>⟨few,r4 q S' hq d⟩⟩
def wE (ls:List Ld):Nat:=(ls.filter cu).length
theorem yq {ls:List Ld} {l:Ld}:wE (ls++[l])=wE ls+if cu l then 1 else 0:=by
 unfold wE;rw [List.filter_append,LY]
 congr 1
 cases h:cu l with
 | true=>rw [List.filter_cons_of_pos h]; rfl
 | false=>rw [List.filter_cons_of_neg (by rw [h]; decide)]; rfl
def mX:cH:=λds S k=>∃ (a:MR) (m n:Int),ds=[.ref a,.int m,.int n]/\1<=m/\m<=6/\0<=n/\on S a/\∀ (ls:List Ld) S' p,(∀ l∈ls,fZ l/\ig l)->((wE ls:Nat):Int)<=n->1<=ls.length->(ls.length:Int)<=m->Dr a S S'->S' p=some (.lst (ls.map ii))->p≠a->k (.ref p) S'
theorem c9:au ["state","most","inverts","found","left","k","lead"] ["state","most","inverts"] (ap jC):=dX
theorem qB (Fn:FN K "_law_leads" jC f fd) (aH:bj P w K mg base "_law_take" 1 eh) (kG:bj P w K mg base "_law_lead" 37 oa) (aB:mg "range"=none) (qf:mg "int"=none):
  aT P w K mg base c8 38 f fd ["state","most","inverts"] (dk K mX):=by
 refine Fn.okJ c9 (λds S k h=>?_) (λcdv A outer s H E hr=>⟨_,(af (ai (i:=3) c9.nd (f_ ac)) (af (ai (i:=4) c9.nd (ah 2)) (af (cV PassesOwn.never rfl rfl aB (aa (aw cS ae (dq aH hr (aG 0 (aG 1 ac)))) ac) (ar (i:=5) c9.nd) (af (ai (i:=6) c9.nd (dq kG hr (aG 0 (aa (du Bp rfl qf vF (aa (lE Cg (ah 4) ae (aA _)) ac)) ac)))) (af (ai (i:=4) c9.nd (aw gz (ah 4) (du Bp rfl qf vF (aa (lE fe (aJ 6) bX (aA _)) ac)))) (aj (kQ (sn (ah 3) (ah 6))))))) (aj (ao (ah 3)))))),λds S k h=>?_⟩)
 ·obtain⟨_,_,_,rfl,_⟩:=h
  rfl
 ·obtain⟨a,m,n,rfl,m1,m6,n0,hS,w⟩:=h;refine⟨few,λq hq=>⟨a,m,rfl,by omega,Bt.mono (m:=4) (by unfold Bt; omega) (by decide),hS.new hq,λr S1 h1 h1' d1=>⟨⟨by omega,by omega⟩,?_⟩⟩⟩
  have qa':q≠a:=hS.ne hq;have D1:=(Dr.new (o:=.lst []) hS hq).trans d1;refine aL (λr' L S'=>∃ (j:Int) (ls:List Ld) (l5 l6:MS D),L=[some (.ref a),some (.int m),some (.int n),some (.ref q),some (.int j),l5,l6]/\Dr a S S'/\S' q=some (.lst (ls.map ii))/\(∀ l∈ls,fZ l/\ig l)/\j+(wE ls:Nat)=n/\0<=j/\ls.length+r'.length=(1+r).toNat/\∀ d∈r',∃ i:Int,d=.int i) (λ_ _ _ _=>trivial) ?_ ?_ _ _ _ ⟨n,[],_,_,rfl,D1,d1.2 q _ qa' ak,(λ_ h=>nomatch h),(show n+((0:Nat):Int)=n by omega),n0,?_,?_⟩
  ·rintro d r' L S2 N1 ⟨j,ls,l5,l6,rfl,D2,hq2,hok,hni,hj,hlen,hr⟩ hN;obtain⟨i,rfl⟩:=hr d LL;refine⟨a,_,rfl,(by split <;> omega),(by split <;> omega),D2.1,λl S3 lo lz li d3=>?_⟩
   have hq3:=d3.2 q _ qa' hq2;have hl:ls.length+(r'.length+1)=(1+r).toNat:=hlen;have ea:ls.map ii++[ii l]=(ls++[l]).map ii:=by rw [List.map_append]; rfl
   have li':j<=0->cu l=false:=λz=>li (by rw [if_neg (by simp; omega)])
   have fin:∀ (j':Int),j'=j - (if cu l then 1 else 0)->∃ ds,S3 q=some (.lst ds)/\ds.length < sizeLine/\N1 [some (.ref a),some (.int m),some (.int n),some (.ref q),some (.int j'),some (.int i),some (ii l)] (put S3 q (.lst (ds++[ii l]))):=λj' hj'=>by
    refine⟨_,hq3,by rw [LG]; exact sY (by omega),hN _ _ ⟨j',ls++[l],_,_,rfl,Dr.put (D2.trans d3) hq qa',by rw [ak,ea],λm hm=>?_,?_,?_,by rw [LY]; show ls.length+1+r'.length=_; omega,λd hd=>hr d (LM _ hd)⟩⟩
    ·rcases List.mem_append.mp hm with h | h
     ·exact hok m h
     ·rw [List.mem_singleton.mp h]; exact⟨lo,lz⟩
    ·rw [hj',yq];cases cu l
     ·show j - 0+((wE ls+0:Nat):Int)=n
      omega
     ·show j - 1+((wE ls+1:Nat):Int)=n
      omega
    ·rw [hj'];cases hi:cu l with
     | false=>
      show 0<=j - 0
      omega
     | true=>
      show 0<=j - 1
      have:¬ j<=0:=λz=>by rw [li' z] at hi; cases hi
      omega
   cases l with
   | shift x y=>exact⟨⟨_,hq3⟩,fin _ rfl⟩
   | grow x y b=>exact⟨⟨_,hq3⟩,fin _ rfl⟩
   | turn x y p q=>exact⟨⟨_,hq3⟩,fin _ rfl⟩
   | mirror x y p=>exact⟨⟨_,hq3⟩,fin _ rfl⟩
   | invert x y p=>exact⟨⟨_,hq3⟩,fin _ rfl⟩
  ·rintro L S2 ⟨j,ls,l5,l6,rfl,D2,hq2,hok,hni,hj,hlen,_⟩;have hlen:ls.length+0=(1+r).toNat:=hlen;exact w ls S2 q hok (by omega) (by omega) (by omega) D2 hq2 qa'
  ·rw [LG,List.length_range]; show 0+_=_; omega
  ·intro d hd;obtain⟨z,_,rfl⟩:=LF.mp hd;exact⟨_,rfl⟩
def lI:cH:=λds S k=>∃ x y z:Q,ds=[B x,B y]/\Sq 400000 x/\Sq 400000 y/\qa x y=z/\k (B z) S
theorem um:au ["one","other"] ["one","other"] (ap lH):=dX
theorem uq (Fn:FN K "_law_add" lH f fd) (aQ:bj P w K mg base "_law_plus" 35 eo):
  aT P w K mg base c8 36 f fd ["one","other"] (dk K lI):=by
 refine Fn.okJ um (λds S k h=>?_) (λcdv A outer s H E hr=>⟨_,(aj (ao (aq (aa (dq aQ hr (aa (aJ 0) (aa (aJ 1) ac))) (aa (dq aQ hr (aa (aJ 0) (aa (aJ 1) ac))) ac))))),λds S k h=>?_⟩)
 ·obtain⟨_,_,_,rfl,_⟩:=h
  rfl
 ·obtain⟨x,y,z,rfl,hx,hy,rfl,w⟩:=h;exact⟨_,_,_,_,_,rfl,az _ _,hx.a.num,hx.a.den,hy.a.num,hy.a.den,jo _ _,_,_,_,_,_,rfl,az _ _,hx.b.num,hx.b.den,hy.b.num,hy.b.den,jo _ _,few,w⟩
def nZ:cH:=λds S k=>∃ x y z:Q,ds=[B x,B y]/\Sq 400000 x/\Sq 400000 y/\qs x y=z/\k (B z) S
theorem r9:au ["one","other"] ["one","other"] (ap kC):=dX
theorem sQ (Fn:FN K "_law_less" kC f fd) (bL:bj P w K mg base "_law_minus" 35 gH):
  aT P w K mg base c8 36 f fd ["one","other"] (dk K nZ):=by
 refine Fn.okJ r9 (λds S k h=>?_) (λcdv A outer s H E hr=>⟨_,(aj (ao (aq (aa (dq bL hr (aa (aJ 0) (aa (aJ 1) ac))) (aa (dq bL hr (aa (aJ 0) (aa (aJ 1) ac))) ac))))),λds S k h=>?_⟩)
 ·obtain⟨_,_,_,rfl,_⟩:=h
  rfl
 ·obtain⟨x,y,z,rfl,hx,hy,rfl,w⟩:=h;exact⟨_,_,rfl,hx.a,hy.a,_,_,rfl,hx.b,hy.b,few,w⟩
def fS:cH:=λds S k=>∃ (x y z:Q) (u:Rat),ds=[B x,B y,fr u]/\Sz 4 u/\Sq 199000 x/\Sq 199000 y/\qm u x y=z/\k (B z) S
theorem iW:au ["one","other","base","part"] ["one","other","base"] (ap fU):=dX
theorem m_ (Fn:FN K "_law_multiply" fU f fd) (aQ:bj P w K mg base "_law_plus" 35 eo) (ay:bj P w K mg base "_law_times" 35 dG):
  aT P w K mg base c8 36 f fd ["one","other","base"] (dk K fS):=by
 refine Fn.okJ iW (λds S k h=>?_) (λcdv A outer s H E hr=>⟨_,(af (ai (i:=3) iW.nd (dq aQ hr (aa (dq ay hr (aa (aJ 0) (aa (aJ 1) ac))) (aa (dq ay hr (aG 2 (aa (dq ay hr (aa (aJ 0) (aa (aJ 1) ac))) ac))) ac)))) (aj (ao (aq (aG 3 (aa (dq aQ hr (aa (dq ay hr (aa (aJ 0) (aa (aJ 1) ac))) (aa (dq ay hr (aa (aJ 0) (aa (aJ 1) ac))) ac))) ac)))))),λds S k h=>?_⟩)
 ·obtain⟨_,_,_,_,rfl,_⟩:=h
  rfl
 ·obtain⟨x,y,z,u,rfl,su,hx,hy,rfl,w⟩:=h;have m1:=hx.a.mul hy.a;have m2:=hx.b.mul hy.b;have m3:=hx.a.mul hy.b;have m4:=hx.b.mul hy.a;have m5:=su.mul m2;have hx:=hx.mono (show 199000<=400000 by decide)
  have hy:=hy.mono (show 199000<=400000 by decide)
  have e:qm u x y=(x.1*y.1+u*(x.2*y.2),x.1*y.2+x.2*y.1):=by
   unfold qm;rw [Rat.mul_comm u]
  rw [e] at w;refine⟨_,_,_,_,_,rfl,az _ _,hx.a.num,hx.a.den,hy.a.num,hy.a.den,c6 _ _,?_⟩;refine⟨_,_,_,_,_,rfl,az _ _,hx.b.num,hx.b.den,hy.b.num,hy.b.den,c6 _ _,?_⟩;refine⟨_,_,_,_,_,rfl,az _ _,su.num.mono,su.den.mono,m2.num.mono,m2.den.mono,c6 _ _,_,_,_,_,_,rfl,az _ _,m1.num.mono,m1.den.mono,m5.num.mono,m5.den.mono,jo _ _,?_⟩
  refine⟨_,_,_,_,_,rfl,az _ _,hx.a.num,hx.a.den,hy.b.num,hy.b.den,c6 _ _,?_⟩;exact⟨_,_,_,_,_,rfl,az _ _,hx.b.num,hx.b.den,hy.a.num,hy.a.den,c6 _ _,_,_,_,_,_,rfl,az _ _,m3.num.mono,m3.den.mono,m4.num.mono,m4.den.mono,jo _ _,few,w⟩
theorem oY {α:Type} {f g:α->D} {all:List α} {S:DH} {p:MR} {ok:DH->Prop} {bd:DB} {k:DK} {L1:Lo} (hp:S p=none) (hok:∀ S',aK S S'->ok S')
  (hbd:∀ (x:α) (S':DH) (k':MS D->DH->Prop),x∈all->aK S S'->k' (some (g x)) S'->bd (some (f x)::L1) S' k'):
  ∀ (r:List α) (acc:List D) (l0:MS D),(∀ x∈r,x∈all)->acc.length+r.length<=100->(∀ S',aK S S'->S' p=some (.lst (acc++r.map g))->k (.ref p) S')->aX ok p (dU 0) bd k (r.map f) acc (l0::L1) (put S p (.lst acc))
 | [],acc,l0,_,_,w=>⟨hok _ (aK.new hp),w _ (aK.new hp) (by rw [ak]; simp)⟩
 | x::r,acc,l0,hr,hl,w=>by
  have hl:acc.length+(r.length+1)<=100:=hl;refine⟨hok _ (aK.new hp),hbd x _ _ (hr x LL) (aK.new hp) ⟨ak,sY (by omega),?_⟩⟩
  rw [C6];exact oY hp hok hbd r _ _ (λy hy=>hr y (LM _ hy)) (by rw [LY]; show acc.length+1+r.length<=100; omega) λS' e h=>w S' e (by rw [h,List.append_assoc]; rfl)
theorem gZ {S:DH} {p:MR} {ok:DH->Prop} {bd:DB} {k:DK} {l0:MS D} {L1:Lo} {d0 d1:D} (hp:S p=none) (hok:∀ S',ok S')
  (h0:∀ (S':DH) (k':MS D->DH->Prop),aK S S'->k' (some d0) S'->bd (some (.int 0)::L1) S' k') (h1:∀ (S':DH) (k':MS D->DH->Prop),aK S S'->k' (some d1) S'->bd (some (.int 1)::L1) S' k')
  (w:∀ S',aK S S'->S' p=some (.lst [d0,d1])->k (.ref p) S'):aX ok p (dU 0) bd k [.int 0,.int 1] [] (l0::L1) (put S p (.lst [])):=
 oY (f:=λb:M1=>D.int (if b then 1 else 0)) (g:=λb=>if b then d1 else d0) (all:=[false,true]) hp (λS' _=>hok S')
  (λb S' k' _ e h=>by cases b with | false=>exact h0 S' k' e h | true=>exact h1 S' k' e h) [false,true] [] l0 (λ_ h=>h) (by decide) w
theorem wd {q:Rat} (h:q≠0):Rat.divInt (q.den:Int) q.num=1 / q:=by
 have:=nd q;have d0:=dn q;rw [Me,this];generalize (((q.den:Nat):Int):Rat)=d at d0;grind
theorem Jp {q:Rat} (h:q≠0):Rat.divInt (-2*(q.den:Int)) q.num=-2 / q:=by
 have:=nd q;have d0:=dn q;rw [Me,this,LB];rw [show ((-2:Int):Rat)=-2 from rfl]
 generalize (((q.den:Nat):Int):Rat)=d at d0;grind
theorem io {a b:Rat}:qa (qo a) (qo b)=qo (a+b):=LX rfl (Rat.add_zero 0)
theorem pJ {a b:Rat}:qs (qo a) (qo b)=qo (a - b):=LX rfl (by show(0:Rat) - 0=0; grind)
theorem gu {u a b:Rat}:qm u (qo a) (qo b)=qo (a*b):=LX (by show a*b+0*0*u=a*b; grind) (by show a*0+0*b=0; grind)
theorem s4 {n:Nat} {x:Rat} (h:Sz n x) (hn:n<=199000:=by first|decide|omega):Sq 400000 (qo x):=⟨h.mono,Sz.zero.mono⟩
theorem s2 {n:Nat} {x:Rat} (h:Sz n x) (hn:n<=199000:=by first|decide|omega):Sq 199000 (qo x):=⟨h.mono,Sz.zero.mono⟩
theorem sz2:Sz 4 (2:Rat):=⟨by decide,by decide⟩
def kz:cH:=λds S k=>∃ (r:Rat) (n:Nat),ds=[B (qo r),fr 2]/\Sz n r/\n<=60000/\(r=0->k .non S)/\(r≠0->k (B (qo (1 / r))) S)
theorem dP:au ["number","base","square","norm","by"] ["number","base"] (ap gK):=dX
theorem ol (Fn:FN K "_law_inverse" gK f fd) (ay:bj P w K mg base "_law_times" 35 dG) (bL:bj P w K mg base "_law_minus" 35 gH) (aC:bj P w K mg base "_law_ratio" 34 bO):
  aT P w K mg base c8 36 f fd ["number","base"] (dk K kz):=by
 refine Fn.okJ dP (λds S k h=>?_) (λcdv A outer s H E hr=>⟨_,(af (ai (i:=2) dP.nd (dq ay hr (aG 1 (aa (dq ay hr (aa (aJ 0) (aa (aJ 0) ac))) ac)))) (af (ai (i:=3) dP.nd (dq bL hr (aa (dq ay hr (aa (aJ 0) (aa (aJ 0) ac))) (aG 2 ac)))) (af (aE (ax fe (aJ 3) ae (aA _)) (aj (ao fu)) aF) (af (ai (i:=4) dP.nd (dq aC hr (aa (aJ 3) (aa (aJ 3) ac)))) (aj (ao (aq (aa (dq ay hr (aa (aJ 0) (aG 4 ac))) (aa (dq ay hr (aa (dq ay hr (aa (aJ 0) (aa (aq (aa (eE eF ae) (aa ae ac))) ac))) (aG 4 ac))) ac))))))))),λds S k h=>?_⟩)
 ·obtain⟨_,_,rfl,_⟩:=h
  rfl
 ·obtain⟨r,n,rfl,hr,hn,w0,w1⟩:=h;have z0:Sz 400000 (0:Rat):=Sz.zero.mono
  have sr:=hr.mono (show n<=60000 by omega)
  have r4:=sr.mono (show 60000<=400000 by decide)
  have rr:=sr.mul sr;have rr4:=rr.mono (show 60000+60000<=400000 by decide)
  have s24:=sz2.mono (show 4<=400000 by decide)
  have m1:Sz 400000 (-1:Rat):=(show Sz 2 (-1:Rat) from⟨by decide,by decide⟩).mono
  have e0:(0:Rat)*0=0:=Rat.mul_zero 0;refine⟨_,_,_,_,0,rfl,az 0 0,z0.num,z0.den,z0.num,z0.den,(c6 0 0).trans e0,_,_,_,_,0,rfl,az 2 0,s24.num,s24.den,z0.num,z0.den,(c6 2 0).trans (Rat.mul_zero 2),?_⟩;refine⟨_,_,_,_,_,rfl,az r r,r4.num,r4.den,r4.num,r4.den,c6 r r,_,_,rfl,rr4,z0,?_⟩;rw [show r*r - 0=r*r by grind]
  refine b_ (λz=>w0 ?_) (λz=>?_)
  ·have:r*r=0:=MM.mp z;rcases LR.mp this with y | y <;> exact y
  have r0:r≠0:=λe=>z (by rw [e,e0]; rfl)
  have n0:r*r≠0:=λe=>z (by rw [e]; rfl)
  have si:=(tK rr n0).mono (show 60000+60000<=400000 by decide)
  refine⟨_,_,rfl,z,rr4.num.mono,?_⟩
  rw [wd n0];refine⟨_,_,_,_,1 / r,rfl,az r _,r4.num,r4.den,si.num,si.den,(c6 r _).trans (by grind),few,?_⟩
  exact⟨_,_,_,_,0,rfl,az 0 (-1),z0.num,z0.den,m1.num,m1.den,(c6 0 (-1)).trans (Rat.zero_mul _),_,_,_,_,0,rfl,az 0 _,z0.num,z0.den,si.num,si.den,(c6 0 _).trans (Rat.zero_mul _),few,w1 r0⟩
def lM:cH:=λds S k=>∃ (l:Ld) (x y:Rat) (n:Nat),ds=[ii l,BP (qo x) (qo y),fr 2]/\fZ l/\ig l/\Sz n x/\Sz n y/\n<=1000/\(y8 l x y=none->∀ S',aK S S'->k .non S')/\∀ a b,y8 l x y=some (a,b)->Sz (5*n+400) a->Sz (5*n+400) b->∀ S',aK S S'->k (BP (qo a) (qo b)) S'
theorem aU:au ["lead","point","base","word","first","way","by","ahead","some","value","square","inverse","aside","left"] ["lead","point","base"] (ap lQ):=dX
theorem uN (Fn:FN K "_law_led" lQ f fd) (cf:bj P w K mg base "_law_add" 36 lI) (aM:bj P w K mg base "_law_multiply" 36 fS) (aQ:bj P w K mg base "_law_plus" 35 eo) (ay:bj P w K mg base "_law_times" 35 dG) (aC:bj P w K mg base "_law_ratio" 34 bO) (ip:bj P w K mg base "_law_less" 36 nZ) (hE:bj P w K mg base "_law_inverse" 36 kz) (fb:mg "tuple"=none) (aB:mg "range"=none):
  aT P w K mg base c8 37 f fd ["lead","point","base"] (dk K lM):=by
 refine Fn.okJ aU (λds S k h=>?_) (λcdv A outer s H E hr=>⟨_,(af (ai (i:=3) aU.nd (aJ 0)) (af (ai (i:=4) aU.nd (aq (aa (aq (aa (aJ 0) (aa (aq (aa ae (aa ae ac))) ac))) (aa (aq (aa (aJ 0) (aa (aq (aa ae (aa ae ac))) ac))) ac)))) (af (aE (ax fe (ah 3) bX (aA _)) (aj (ao (du mE rfl fb ki (aa (i6 rfl (cB (N:=["k","point","first"]) (cap:=[none,some 1,some 4]) rfl rfl rfl rfl ⟨rfl,rfl,trivial⟩ rfl rfl ⟨⟨rfl,.inl rfl,.inl rfl⟩,⟨rfl,.inl rfl,.inl rfl⟩,trivial⟩) rfl aB (aa ae ac) (λ_ _ _ _=>(ar (i:=0) (show List.Nodup (["k","point","first"]:List Str) from by decide +kernel))) (λ_ _ _ _=>(dq cf hr (aa (bq bG (ah 1) (ah 0) Zf) (aa (bq bG (ah 2) (ah 0) Zf) ac))))) ac)))) aF) (af (aE (ax fe (ah 3) bX (aA _)) (af (iy (iv:=8) aU.nd rfl (cB (N:=["k","base","first","point"]) (cap:=[none,some 2,some 4,some 1]) rfl rfl rfl rfl ⟨rfl,rfl,rfl,trivial⟩ rfl rfl ⟨⟨rfl,.inl rfl,.inl rfl⟩,⟨rfl,.inl rfl,.inl rfl⟩,⟨rfl,.inl rfl,.inl rfl⟩,trivial⟩) rfl aB (aa ae ac) (λ_ _ _ _=>(ar (i:=0) (show List.Nodup (["k","base","first","point"]:List Str) from by decide +kernel))) (λ_ _ _ _=>(dq aM hr (aa (bq bG (ah 2) (ah 0) Zf) (aa (bq bG (ah 3) (ah 0) Zf) (aG 1 ac)))))) (af (ai (i:=9) aU.nd (dq cf hr (aa (dq cf hr (aa (aJ 8) (aa (aJ 8) ac))) (aa (aq (aa (aJ 0) (aa (aq (aa ae (aa ae ac))) ac))) ac)))) (af (ai (i:=10) aU.nd (dq aQ hr (aa (dq ay hr (aa (aJ 0) (aa (aJ 0) ac))) (aa (dq ay hr (aa (aJ 0) (aa (aJ 0) ac))) ac)))) (af (ai (i:=6) aU.nd (dq aM hr (aG 9 (aa (aq (aa (dq aC hr (aa (aw bK (eE eF ae) (aJ 10)) (aa (aJ 10) ac))) (aa (aq (aa ae (aa ae ac))) ac))) (aG 2 ac))))) (aj (ao (du mE rfl fb ki (aa (i6 rfl (cB (N:=["k","point","by","base","first"]) (cap:=[none,some 1,some 6,some 2,some 4]) rfl rfl rfl rfl ⟨rfl,rfl,rfl,rfl,trivial⟩ rfl rfl ⟨⟨rfl,.inl rfl,.inl rfl⟩,⟨rfl,.inl rfl,.inl rfl⟩,⟨rfl,.inl rfl,.inl rfl⟩,⟨rfl,.inl rfl,.inl rfl⟩,trivial⟩) rfl aB (aa ae ac) (λ_ _ _ _=>(ar (i:=0) (show List.Nodup (["k","point","by","base","first"]:List Str) from by decide +kernel))) (λ_ _ _ _=>(dq cf hr (aa (bq bG (ah 1) (ah 0) Zf) (aa (dq aM hr (aG 2 (aa (bq bG (ah 4) (ah 0) Zf) (aG 3 ac)))) ac))))) ac)))))))) aF) (af (ai (i:=5) aU.nd (i6 rfl (cB (N:=["k","point","first"]) (cap:=[none,some 1,some 4]) rfl rfl rfl rfl ⟨rfl,rfl,trivial⟩ rfl rfl ⟨⟨rfl,.inl rfl,.inl rfl⟩,⟨rfl,.inl rfl,.inl rfl⟩,trivial⟩) rfl aB (aa ae ac) (λ_ _ _ _=>(ar (i:=0) (show List.Nodup (["k","point","first"]:List Str) from by decide +kernel))) (λ_ _ _ _=>(dq ip hr (aa (bq bG (ah 1) (ah 0) Zf) (aa (bq bG (ah 2) (ah 0) Zf) ac)))))) (af (ai (i:=6) aU.nd (aq (aa (aJ 0) (aa (aq (aa ae (aa ae ac))) ac)))) (af (aE (ax fe (ah 3) bX (aA _)) (af (iy (iv:=8) aU.nd rfl (cB (N:=["k","base","way"]) (cap:=[none,some 2,some 5]) rfl rfl rfl rfl ⟨rfl,rfl,trivial⟩ rfl rfl ⟨⟨rfl,.inl rfl,.inl rfl⟩,⟨rfl,.inl rfl,.inl rfl⟩,trivial⟩) rfl aB (aa ae ac) (λ_ _ _ _=>(ar (i:=0) (show List.Nodup (["k","base","way"]:List Str) from by decide +kernel))) (λ_ _ _ _=>(dq aM hr (aa (bq bG (ah 2) (ah 0) Zf) (aa (bq bG (ah 2) (ah 0) Zf) (aG 1 ac)))))) (af (ai (i:=11) aU.nd (dq hE hr (aa (dq cf hr (aa (aJ 8) (aa (aJ 8) ac))) (aG 2 ac)))) (af (aE (ax GQ (ah 11) fu (aA _)) (aj (ao fu)) aF) (aj (ai (i:=6) aU.nd (dq aM hr (aG 6 (aG 11 (aG 2 ac))))))))) aF) (af (ai (i:=7) aU.nd (i6 rfl (cB (N:=["k","by","base","way"]) (cap:=[none,some 6,some 2,some 5]) rfl rfl rfl rfl ⟨rfl,rfl,rfl,trivial⟩ rfl rfl ⟨⟨rfl,.inl rfl,.inl rfl⟩,⟨rfl,.inl rfl,.inl rfl⟩,⟨rfl,.inl rfl,.inl rfl⟩,trivial⟩) rfl aB (aa ae ac) (λ_ _ _ _=>(ar (i:=0) (show List.Nodup (["k","by","base","way"]:List Str) from by decide +kernel))) (λ_ _ _ _=>(dq aM hr (aa (bq bG (ah 3) (ah 0) Zf) (aG 1 (aG 2 ac))))))) (af (aE (ax fe (ah 3) bX (aA _)) (af (ai (i:=12) aU.nd (aq (aa (aJ 0) (aa (aq (aa ae (aa ae ac))) ac)))) (af (iy (iv:=13) aU.nd rfl (cB (N:=["k","aside","base","way"]) (cap:=[none,some 12,some 2,some 5]) rfl rfl rfl rfl ⟨rfl,rfl,rfl,trivial⟩ rfl rfl ⟨⟨rfl,.inl rfl,.inl rfl⟩,⟨rfl,.inl rfl,.inl rfl⟩,⟨rfl,.inl rfl,.inl rfl⟩,trivial⟩) rfl aB (aa ae ac) (λ_ _ _ _=>(ar (i:=0) (show List.Nodup (["k","aside","base","way"]:List Str) from by decide +kernel))) (λ_ _ _ _=>(dq aM hr (aa (bq bG (ah 3) (ah 0) Zf) (aG 1 (aG 2 ac)))))) (aj (ai (i:=7) aU.nd (f_ (aa (dq ip hr (aa (aJ 7) (aa (aJ 13) ac))) (aa (dq cf hr (aa (aJ 7) (aa (aJ 13) ac))) ac))))))) aF) (aj (ao (du mE rfl fb ki (aa (i6 rfl (cB (N:=["k","first","ahead"]) (cap:=[none,some 4,some 7]) rfl rfl rfl rfl ⟨rfl,rfl,trivial⟩ rfl rfl ⟨⟨rfl,.inl rfl,.inl rfl⟩,⟨rfl,.inl rfl,.inl rfl⟩,trivial⟩) rfl aB (aa ae ac) (λ_ _ _ _=>(ar (i:=0) (show List.Nodup (["k","first","ahead"]:List Str) from by decide +kernel))) (λ_ _ _ _=>(dq cf hr (aa (bq bG (ah 1) (ah 0) Zf) (aa (bq bG (ah 2) (ah 0) Zf) ac))))) ac))))))))))))),λds S k h=>?_⟩)
 ·obtain⟨_,_,_,_,rfl,_⟩:=h
  rfl
 ·obtain⟨l,x,y,n,rfl,ok,sz,hx,hy,hn,w0,w1⟩:=h;have mv:∀ a b,cu l=false->uw (lR l) x y=(a,b)->Sz (5*n+400) a->Sz (5*n+400) b->∀ S',aK S S'->k (BP (qo a) (qo b)) S':=λa b hl e=>w1 a b (by rw [qv hl,e])
  have hn':n<=199000:=by omega
  cases l with
  | shift x0 y0=>
   refine⟨few,few,few,few,few,by decide,λp hp=>gZ hp (λ_=>trivial) (λS' k' _ h=>⟨_,_,_,rfl,s4 hx hn',s4 sz.1,io,h⟩) (λS' k' _ h=>⟨_,_,_,rfl,s4 hy hn',s4 sz.2,io,h⟩) λS' e h=>⟨_,h,mv _ _ rfl (LX (by show 1*x - 0*y+x0=_; grind) (by show 0*x+1*y+y0=_; grind)) (hx.add sz.1).mono (hy.add sz.2).mono S' e⟩⟩
  | mirror a b c=>
   obtain⟨ha,hb,hc⟩:=sz;have nz:a*a+b*b≠0:=ok;have ma:=ha.mul ha;have mb:=hb.mul hb;have sA:=ma.add mb;have sd:=(show Sz 2 (-2:Rat) from⟨by decide,by decide⟩).div sA nz
   have m1:=ha.mul hx;have m2:=hb.mul hy;have v1:=m1.add m2;have v2:=v1.add hc;have t1:=v2.mul sd;refine⟨few,few,few,few,few,by decide,λp hp=>gZ hp (λ_=>trivial) (λS' k' _ h=>⟨_,_,_,_,rfl,sz2,s2 ha,s2 hx hn',gu,h⟩) (λS' k' _ h=>⟨_,_,_,_,rfl,sz2,s2 hb,s2 hy hn',gu,h⟩) λS1 e1 h1=>?_⟩
   refine⟨_,_,h1,rfl,_,_,h1,rfl,_,_,_,rfl,s4 m1,s4 m2,io,few,few,_,_,_,rfl,s4 v1,s4 hc,io,?_⟩
   refine⟨_,_,_,_,_,rfl,az _ _,ha.num.mono,ha.den.mono,ha.num.mono,ha.den.mono,c6 _ _,_,_,_,_,_,rfl,az _ _,hb.num.mono,hb.den.mono,hb.num.mono,hb.den.mono,c6 _ _,_,_,_,_,_,rfl,az _ _,ma.num.mono,ma.den.mono,mb.num.mono,mb.den.mono,jo _ _,?_⟩
   refine⟨iF (show Bt 2 (-2) by decide) sA.den,-2*((a*a+b*b).den:Int),(a*a+b*b).num,rfl,vI nz,sA.num.mono,?_⟩
   rw [Jp nz];refine⟨few,few,_,qo (-2 / (a*a+b*b)),_,_,rfl,sz2,s2 v2,s2 sd,gu,?_⟩
   have r1:=hx.add (t1.mul ha);have r2:=hy.add (t1.mul hb);refine⟨by decide,λp2 hp2=>gZ hp2 (λ_=>trivial) (λS' k' _ h=>⟨_,_,_,_,rfl,sz2,s2 t1,s2 ha,gu,_,_,_,rfl,s4 hx hn',s4 (t1.mul ha),io,h⟩) (λS' k' _ h=>⟨_,_,_,_,rfl,sz2,s2 t1,s2 hb,gu,_,_,_,rfl,s4 hy hn',s4 (t1.mul hb),io,h⟩) λS2 e2 h2=>⟨_,h2,mv _ _ rfl ?_ (r1.mono) (r2.mono) S2 (e1.trans e2)⟩⟩
   unfold uw lR;simp only [if_true];generalize hk:a*a+b*b=κ at nz;have e1:-1 / κ=-(1 / κ):=by grind
   have e2:-2*c / κ=-2*c*(1 / κ):=by grind
   have e3:-2 / κ=-2*(1 / κ):=by grind
   have h1:κ*(1 / κ)=1:=by grind
   rw [e1,e2,e3];generalize 1 / κ=ρ at h1;rw [<- hk] at h1;exact LX (by dsimp only; grind) (by dsimp only; grind)
  | grow x0 y0 b=>
   obtain⟨h0,h1',hb⟩:=sz;have y1:=hx.sub h0;have y2:=hy.sub h1';refine⟨few,few,few,few,few,by decide,λp hp=>gZ hp (λ_=>trivial) (λS' k' _ h=>⟨_,_,_,rfl,s4 hx hn',s4 h0,pJ,h⟩) (λS' k' _ h=>⟨_,_,_,rfl,s4 hy hn',s4 h1',pJ,h⟩) λS1 e1 h1=>?_⟩
   refine⟨few,few,by decide,λp2 hp2=>gZ hp2 (λ_=>trivial) (λS' k' e h=>⟨_,_,e _ _ h1,rfl,_,_,_,_,rfl,sz2,s2 y1,s2 hb,gu,h⟩) (λS' k' e h=>⟨_,_,e _ _ h1,rfl,_,_,_,_,rfl,sz2,s2 y2,s2 hb,gu,h⟩) λS2 e2 h2=>?_⟩
   exact⟨by decide,λp3 hp3=>gZ hp3 (λ_=>trivial) (λS' k' e h=>⟨_,_,e _ _ h2,rfl,_,_,_,rfl,s4 h0,s4 (y1.mul hb),io,h⟩) (λS' k' e h=>⟨_,_,e _ _ h2,rfl,_,_,_,rfl,s4 h1',s4 (y2.mul hb),io,h⟩) λS3 e3 h3=>⟨_,h3,mv _ _ rfl (LX (by show b*x - 0*y+(x0 - (b*x0 - 0*y0))=x0+(x - x0)*b; grind) (by show 0*x+b*y+(y0 - (0*x0+b*y0))=y0+(y - y0)*b; grind)) (h0.add (y1.mul hb)).mono (h1'.add (y2.mul hb)).mono S3 (e1.trans (e2.trans e3))⟩⟩
  | turn x0 y0 p q=>
   obtain⟨h0,h1',P,Q,E,e0,bP,bQ,bE,ep,eq⟩:=sz;have hp:Sz 40 p:=ov e0 bE ep bP;have hq:Sz 40 q:=ov e0 bE eq bQ;have y1:=hx.sub h0;have y2:=hy.sub h1';have g1:=y1.mul hp;have g2:=y2.mul hp;have g3:=y1.mul hq;have g4:=y2.mul hq;refine⟨few,few,few,few,few,by decide,λp1 hp1=>gZ hp1 (λ_=>trivial) (λS' k' _ h=>⟨_,_,_,rfl,s4 hx hn',s4 h0,pJ,h⟩) (λS' k' _ h=>⟨_,_,_,rfl,s4 hy hn',s4 h1',pJ,h⟩) λS1 e1 h1=>?_⟩
   refine⟨few,few,by decide,λp2 hp2=>gZ hp2 (λ_=>trivial) (λS' k' e h=>⟨_,_,e _ _ h1,rfl,_,_,_,_,rfl,sz2,s2 y1,s2 hp,gu,h⟩) (λS' k' e h=>⟨_,_,e _ _ h1,rfl,_,_,_,_,rfl,sz2,s2 y2,s2 hp,gu,h⟩) λS2 e2 h2=>?_⟩
   have h12:=e2 _ _ h1;refine⟨few,few,by decide,λp3 hp3=>gZ hp3 (λ_=>trivial) (λS' k' e h=>⟨_,_,e _ _ h12,rfl,_,_,_,_,rfl,sz2,s2 y1,s2 hq,gu,h⟩) (λS' k' e h=>⟨_,_,e _ _ h12,rfl,_,_,_,_,rfl,sz2,s2 y2,s2 hq,gu,h⟩) λS3 e3 h3=>?_⟩
   have h23:=e3 _ _ h2;refine⟨_,_,h23,rfl,_,_,h3,rfl,_,_,_,rfl,s4 g1,s4 g4,pJ,_,_,h23,rfl,_,_,h3,rfl,_,_,_,rfl,s4 g2,s4 g3,io,few,λp4 hp4=>?_⟩
   have k1:=g1.sub g4;have k2:=g2.add g3;exact⟨by decide,λp5 hp5=>gZ hp5 (λ_=>trivial) (λS' k' e h=>⟨_,_,e _ _ ak,rfl,_,_,_,rfl,s4 h0,s4 k1,io,h⟩) (λS' k' e h=>⟨_,_,e _ _ ak,rfl,_,_,_,rfl,s4 h1',s4 k2,io,h⟩) λS5 e5 h5=>⟨_,h5,mv _ _ rfl (LX (by show p*x - q*y+(x0 - (p*x0 - q*y0))=x0+((x - x0)*p - (y - y0)*q); grind) (by show q*x+p*y+(y0 - (q*x0+p*y0))=y0+((y - y0)*p+(x - x0)*q); grind)) (h0.add k1).mono (h1'.add k2).mono S5 (e1.trans (e2.trans (e3.trans ((aK.new hp4).trans e5))))⟩⟩
  | invert x0 y0 p=>
   obtain⟨h0,h1',hp⟩:=sz;have y1:=hx.sub h0;have y2:=hy.sub h1';have q1:=y1.mul y1;have q2:=y2.mul y2;have sr:Sz _ (rq (x - x0) (y - y0)):=q1.add q2;refine⟨few,few,few,few,few,by decide,λp1 hp1=>gZ hp1 (λ_=>trivial) (λS' k' _ h=>⟨_,_,_,rfl,s4 hx hn',s4 h0,pJ,h⟩) (λS' k' _ h=>⟨_,_,_,rfl,s4 hy hn',s4 h1',pJ,h⟩) λS1 e1 h1=>?_⟩
   refine⟨few,few,by decide,λp2 hp2=>gZ hp2 (λ_=>trivial) (λS' k' e h=>⟨_,_,e _ _ h1,rfl,_,_,e _ _ h1,rfl,_,_,_,_,rfl,sz2,s2 y1,s2 y1,gu,h⟩) (λS' k' e h=>⟨_,_,e _ _ h1,rfl,_,_,e _ _ h1,rfl,_,_,_,_,rfl,sz2,s2 y2,s2 y2,gu,h⟩) λS2 e2 h2=>?_⟩
   refine⟨_,_,h2,rfl,_,_,h2,rfl,_,_,_,rfl,s4 q1,s4 q2,io,rq (x - x0) (y - y0),_,rfl,sr,by omega,λz0=>w0 (if_pos z0) S2 (e1.trans e2),λne=>?_⟩
   have si:=tK sr ne;have st:=hp.mul si;have r1:=y1.mul st;have r2:=y2.mul st;have h12:=e2 _ _ h1;have ep:p / rq (x - x0) (y - y0)=p*(1 / rq (x - x0) (y - y0)):=by grind
   refine⟨_,_,_,_,rfl,sz2,s2 hp,s2 si,gu,?_⟩
   refine⟨by decide,λp3 hp3=>gZ hp3 (λ_=>trivial) (λS' k' e h=>⟨_,_,e _ _ h12,rfl,_,_,_,_,rfl,sz2,s2 y1,s2 st,gu,h⟩) (λS' k' e h=>⟨_,_,e _ _ h12,rfl,_,_,_,_,rfl,sz2,s2 y2,s2 st,gu,h⟩) λS3 e3 h3=>?_⟩
   exact⟨by decide,λp4 hp4=>gZ hp4 (λ_=>trivial) (λS' k' e h=>⟨_,_,e _ _ h3,rfl,_,_,_,rfl,s4 h0,s4 r1,io,h⟩) (λS' k' e h=>⟨_,_,e _ _ h3,rfl,_,_,_,rfl,s4 h1',s4 r2,io,h⟩) λS4 e4 h4=>⟨_,h4,w1 _ _ ((if_neg ne).trans (congrArg some (by unfold kN; rw [ep]))) (h0.add r1).mono (h1'.add r2).mono S4 (e1.trans (e2.trans (e3.trans e4)))⟩⟩
noncomputable def ul:List Ld->Rat->Rat->MS (Rat×Rat)
 | [],x,y=>some (x,y)
 | l::ls,x,y=>match y8 l x y with
  | none=>none
  | some p=>ul ls p.1 p.2
def Lf:MS (Rat×Rat)->D
 | none=>.non
 | some z=>BP (qo z.1) (qo z.2)
def kE:cH:=λds S k=>∃ (p:MR) (ls:List Ld) (x y:Rat),ds=[.ref p,BP (qo x) (qo y),fr 2]/\S p=some (.lst (ls.map ii))/\(∀ l∈ls,fZ l/\ig l)/\ls.length<=2/\Sz 4 x/\Sz 4 y/\(∀ S',aK S S'->k .non S')/\∀ a b,ul ls x y=some (a,b)->Sz 2600 a->Sz 2600 b->∀ S',aK S S'->k (BP (qo a) (qo b)) S'
theorem fT:au ["leads","point","base","lead"] ["leads","point","base"] (ap g9):=dX
theorem oi (Fn:FN K "_law_led_all" g9 f fd) (fy:bj P w K mg base "_law_led" 37 lM):
  aT P w K mg base c8 38 f fd ["leads","point","base"] (dk K kE):=by
 refine Fn.okJ fT (λds S k h=>?_) (λcdv A outer s H E hr=>⟨_,(af (d_ PassesOwn.never rfl (ah 0) (ar (i:=3) fT.nd) (aj (aE (ax oR (ah 1) fu (aA _)) (aj (ai (i:=1) fT.nd (dq fy hr (aG 3 (aG 1 (aG 2 ac)))))) aF))) (aj (ao (ah 1)))),λds S k h=>?_⟩)
 ·obtain⟨_,_,_,_,rfl,_⟩:=h
  rfl
 ·obtain⟨p,ls,x,y,rfl,hp,hok,hl,hx,hy,w0,w1⟩:=h;refine⟨(ls.map ii,some p),by simp only [aR]; rw [hp],?_⟩
  refine aL (λr L S'=>aK S S'/\∃ (rs:List Ld) (o:MS (Rat×Rat)) (l3:MS D),L=[some (.ref p),some (Lf o),some (fr 2),l3]/\r=rs.map ii/\(∀ l∈rs,fZ l/\ig l)/\(o=none\/∃ a b n,o=some (a,b)/\ul ls x y=ul rs a b/\Sz n a/\Sz n b/\((rs.length<=2/\n<=4)\/(rs.length<=1/\n<=420)\/(rs.length=0/\n<=2600)))) (λr L S' h=>h.1 _ _ hp) ?_ ?_ _ _ _ ⟨aK.refl _,ls,some (x,y),_,rfl,rfl,hok,.inr ⟨x,y,4,rfl,rfl,hx,hy,.inl ⟨hl,LD _⟩⟩⟩
  ·rintro d r L S1 N1 ⟨e1,rs,o,l3,rfl,er,hr,hc⟩ hN;cases rs with
   | nil=>cases er
   | cons l rs=>
    cases er;have lo:=hr l LL;have tl:∀ l∈rs,fZ l/\ig l:=λm hm=>hr m (LM _ hm)
    rcases hc with rfl | ⟨a,b,n,rfl,ha,za,zb,hb⟩
    ·exact hN _ _ ⟨e1,rs,none,_,rfl,rfl,tl,.inl rfl⟩
    ·rw [LQ] at hb;refine⟨l,a,b,n,rfl,lo.1,lo.2,za,zb,by omega,λq S2 e2=>hN _ _ ⟨e1.trans e2,rs,none,_,rfl,rfl,tl,.inl rfl⟩,λa' b' q za' zb' S2 e2=>hN _ _ ⟨e1.trans e2,rs,some (a',b'),_,rfl,rfl,tl,.inr ⟨a',b',5*n+400,rfl,?_,za',zb',by omega⟩⟩⟩
     rw [ha]
     conv=>lhs; unfold ul
     rw [q]
  ·rintro L S1 ⟨e1,rs,o,l3,rfl,er,hr,hc⟩;cases rs with
   | cons _ _=>cases er
   | nil=>
    rcases hc with rfl | ⟨a,b,n,rfl,ha,za,zb,hb⟩
    ·exact w0 S1 e1
    ·have hb:(0<=2/\n<=4)\/(0<=1/\n<=420)\/(0=0/\n<=2600):=hb;exact w1 a b ha (za.mono) (zb.mono) S1 e1
def K' {α:Type} (c c':List α):Prop:=(∀ p∈c,p∈c')/\∀ p∈c',p∈c
theorem oX {α:Type} {c c':List (List Int×α)} (nd:(c.map (·.1)).Nodup) (h:∀ p∈c,p∈c'):c.length<=c'.length:=by
 have:=nN nd (l':=c'.map (·.1)) λx hx=>by
  obtain⟨p,hp,rfl⟩:=LF.mp hx;exact LF.mpr ⟨p,h p hp,rfl⟩
 rw [LG,LG] at this;exact this
theorem Gu {c c':Zr} (nd:(c.map (·.1)).Nodup) (nd':(c'.map (·.1)).Nodup) (hl:c.length=c'.length) (h:∀ p∈c,p∈c'):∀ p∈c',p∈c:=λp hp=>by
 refine Classical.byContradiction λn=>?_
 have n2:p.1∉c.map (·.1):=λz=>by
  obtain⟨q,hq,e⟩:=LF.mp z;have e1:gR c' p.1=p.2:=cm nd' hp;have e2:gR c' p.1=q.2:=by rw [<- e]; exact cm nd' (h q hq)
  exact n (by rw [show p=q from LX e.symm (e1.symm.trans e2)]; exact hq)
 have:=oX (c:=p::c) (c':=c') (by rw [LP,Mn]; exact⟨n2,nd⟩) λx hx=>by
  rcases LJ.mp hx with rfl | m
  ·exact hp
  ·exact h x m
 rw [LQ] at this;omega
theorem Ia {c':Zr} (nd':(c'.map (·.1)).Nodup):∀ (c:Zr),∃ r,Cv (fc c') (fc c) r/\(r=true↔∀ p∈c,p∈c')
 | []=>⟨true,rfl,⟨λ_ p h=>(nomatch h),λ_=>rfl⟩⟩
 | p::c=>by
  obtain⟨r,h,e⟩:=Ia nd' c;rcases hJ (z:=(0:Rat)) p.1 nd' with q | q
  ·exact⟨false,.inl ⟨nD q,rfl⟩,⟨λz=>(nomatch z),λz=>absurd (LF.mpr ⟨p,z p LL,rfl⟩) q⟩⟩
  ·refine⟨_,.inr ⟨_,decide (p.2=gR c' p.1),r,dI nd' q,Bq (n:=5),h,rfl⟩,?_⟩;rw [Mj,decide_eq_true_eq,e];refine⟨λ⟨a,b⟩ x hx=>?_,λz=>⟨?_,λx hx=>z x (LM _ hx)⟩⟩
   ·rcases LJ.mp hx with rfl | m
    ·have q:(x.1,gR c' x.1)∈c':=q;rw [<- a] at q;exact q
    ·exact b x m
   ·exact(cm nd' (z p LL)).symm
theorem Lk {c c':Zr} (nd:(c.map (·.1)).Nodup) (nd':(c'.map (·.1)).Nodup):∃ r,Hu (fc c) (fc c') r/\(r=true↔K' c c'):=by
 by_cases hl:c.length=c'.length
 ·obtain⟨r,h,e⟩:=Ia nd' c;refine⟨r,.inr ⟨by rw [cG,cG,hl],h⟩,?_⟩
  rw [e];exact⟨λz=>⟨z,Gu nd nd' hl z⟩,λz=>z.1⟩
 ·refine⟨false,.inl ⟨by rw [cG,cG]; exact hl,rfl⟩,⟨λz=>(nomatch z),λz=>?_⟩⟩
  have a:=oX nd z.1;have b:=oX nd' z.2;omega
theorem dJ.sub {f:Rat->Rat} (h:dJ f) (c:Rat):dJ λx=>f x - c:=by
 obtain⟨l,e⟩:=h.add (dJ.const (-c));exact⟨l,λx=>by rw [<- e x]; show f x - c=f x+-c; grind⟩
theorem J7 (x0 y0 y:Rat):dJ λx=>rq (x - x0) (y - y0):=((dJ.id.sub x0).mul (dJ.id.sub x0)).add (dJ.const ((y - y0)*(y - y0)))
theorem IU {a b:Rat} (h:a≠0):rq a b≠0:=λz=>by
 have n1:=fG a;have n2:=fG b;have z:a*a+b*b=0:=z;exact h (FM (by grind))
theorem EZ (x:Rat):x<=((x.num.natAbs:Int):Rat):=by
 have h1:((x.num:Int):Rat)=x*((x.den:Int):Rat):=nd x;have d1:(1:Rat)<=((x.den:Int):Rat):=by
  have:(1:Int)<=(x.den:Int):=by have:=x.den_pos; omega
  exact_mod_cast this
 have h2:((x.num:Int):Rat)<=((x.num.natAbs:Int):Rat):=by
  have:x.num<=(x.num.natAbs:Int):=by omega
  exact_mod_cast this
 rcases Rat.le_total (a:=x) (b:=0) with z | z
 ·have:(0:Rat)<=((x.num.natAbs:Int):Rat):=by
   have:(0:Int)<=(x.num.natAbs:Int):=by omega
   exact_mod_cast this
  exact Rat.le_trans z this
 ·have h3:x*1<=x*((x.den:Int):Rat):=Rat.mul_le_mul_of_nonneg_left d1 z;rw [Rat.mul_one] at h3;rw [<- h1] at h3;exact Rat.le_trans h3 h2
theorem yL {F G:Rat->Rat->Rat} {x0 y0:Rat} (hF:∀ y,dJ λx=>F x y) (hG:∀ y,dJ λx=>G x y) (h:∀ x y,rq (x - x0) (y - y0)≠0->F x y=G x y) (x y:Rat):F x y=G x y:=by
 refine dJ.eq (hF y) (hG y) ((x0.num.natAbs:Int)+1) (λX hX=>h _ _ (IU ?_)) x
 have h1:=EZ x0;have h2:((x0.num.natAbs:Int):Rat) < (X:Rat):=by
  have:(x0.num.natAbs:Int) < X:=by omega
  exact_mod_cast this
 intro z;have:(X:Rat)=x0:=by grind
 rw [this] at h2;exact absurd h1 (Rat.not_le.mpr h2)
theorem kK {t:Zi} (h:∀ p∈t,∃ i j,p.1=[i,j]):∀ p∈kD t,∃ i j,p.1=[i,j]:=λp hp=>by
 obtain⟨q,hq,rfl⟩:=LF.mp hp;exact h q hq
theorem Js {u:Rat} {m:Nat}:jR u (0,0) (m+1)=(0,0):=uH _
theorem w_ {g g':Zi} {κ x0 y0:Rat} {m:Nat} (h:∀ p∈g,∃ i j,p.1=[i,j]) (h':∀ p∈g',∃ i j,p.1=[i,j]) (e:∀ x y,vq g' x y=κ*rq (x - x0) (y - y0) ^ (m+1)*vq g x y):¬ zf x0 y0 (kD g'):=λn=>n λf=>by
 have a:dL (-1) (λx _=>x+-x0) (λx _=>qa x (qo (-x0))):=(dL.x _).add (dL.const _ _)
 have b:dL (-1) (λ_ y=>y+-y0) (λ_ y=>qa y (qo (-y0))):=(dL.y _).add (dL.const _ _)
 have t:=dL.eq (u:=-1) (dL.val (dL.x _) (dL.y _) (kK h')) (((dL.const (-1) κ).mul (((a.mul a).add (b.mul b)).pow (m+1))).mul (dL.val (dL.x _) (dL.y _) (kK h))) (λx y=>by
  show vR (kD g') x y=κ*((x+-x0)*(x+-x0)+(y+-y0)*(y+-y0)) ^ (m+1)*vR (kD g) x y
  rw [jt,jt,e x y];have e1:(x+-x0)*(x+-x0)+(y+-y0)*(y+-y0)=rq (x - x0) (y - y0):=by unfold rq; grind
  rw [e1]) (x0+1*f,0+0*f) (y0+0*f,0+1*f)
 have z:qa (qm (-1) (qa (x0+1*f,0+0*f) (qo (-x0))) (qa (x0+1*f,0+0*f) (qo (-x0)))) (qm (-1) (qa (y0+0*f,0+1*f) (qo (-y0))) (qa (y0+0*f,0+1*f) (qo (-y0))))=(0,0):=by
  unfold qa qm qo;apply LX <;> dsimp only <;> grind
 refine t.trans ?_
 show qm (-1) (qm (-1) (qo κ) (jR (-1) (qa (qm (-1) (qa (x0+1*f,0+0*f) (qo (-x0))) (qa (x0+1*f,0+0*f) (qo (-x0)))) (qm (-1) (qa (y0+0*f,0+1*f) (qo (-y0))) (qa (y0+0*f,0+1*f) (qo (-y0))))) (m+1))) _=(0,0)
 rw [z,Js,uH,zL]
theorem xW {g g':Zi} {c c' x0 y0:Rat} {s s':Nat} {W:Rat->Rat->Rat} (h:∀ p∈g,∃ i j,p.1=[i,j]) (h':∀ p∈g',∃ i j,p.1=[i,j]) (c0:c≠0) (c0':c'≠0) (n:zf x0 y0 (kD g)) (n':zf x0 y0 (kD g'))
  (e:∀ x y,rq (x - x0) (y - y0)≠0->vq g x y=c*rq (x - x0) (y - y0) ^ s*W x y) (e':∀ x y,rq (x - x0) (y - y0)≠0->vq g' x y=c'*rq (x - x0) (y - y0) ^ s'*W x y):∃ κ:Rat,κ≠0/\∀ x y,vq g' x y=κ*vq g x y:=by
 have key:∀ {g g':Zi} {c c':Rat} {s m:Nat},c≠0->(∀ x y,rq (x - x0) (y - y0)≠0->vq g x y=c*rq (x - x0) (y - y0) ^ s*W x y)->(∀ x y,rq (x - x0) (y - y0)≠0->vq g' x y=c'*rq (x - x0) (y - y0) ^ (s+m)*W x y)->∀ x y,vq g' x y=c' / c*rq (x - x0) (y - y0) ^ m*vq g x y:=λ{g g' c c' s m} c0 e e'=>by
  refine yL (x0:=x0) (y0:=y0) (λy=>DP y g') (λy=>((dJ.const (c' / c)).mul ((J7 x0 y0 y).pow m)).mul (DP y g)) λx y nz=>?_
  rw [e x y nz,e' x y nz,pU];have h1:c' / c*c=c':=by grind
  generalize c' / c=r at h1;rw [<- h1];grind
 rcases Nat.lt_trichotomy s s' with z | z | z
 ·obtain⟨m,rfl⟩:∃ m,s'=s+(m+1):=⟨s' - s - 1,by omega⟩
  exact absurd n' (w_ h h' (key c0 e e'))
 ·subst z;refine⟨c' / c,by grind,λx y=>?_⟩
  rw [key (m:=0) c0 e e' x y,Rat.pow_zero,Rat.mul_one]
 ·obtain⟨m,rfl⟩:∃ m,s=s'+(m+1):=⟨s - s' - 1,by omega⟩
  exact absurd n (w_ h' h (key c0' e' e))
theorem zd.uniq {l:Ld} {t t' g g':Zi} {κ:Rat} (r:zd l t g) (r':zd l t' g') (h:∀ p∈g,∃ i j,p.1=[i,j]) (h':∀ p∈g',∃ i j,p.1=[i,j]) (k0:κ≠0) (e:∀ x y,vq t' x y=κ*vq t x y):∃ κ':Rat,κ'≠0/\∀ x y,vq g' x y=κ'*vq g x y:=by
 obtain⟨⟨c,s,d,c0,_,_,v⟩,no⟩:=r;obtain⟨⟨c',s',d',c0',_,_,v'⟩,no'⟩:=r';cases hl:cu l with
 | false=>
  have hb:cu (bk l)=false:=BE.trans hl;refine⟨c'*κ / c,?_,λx y=>?_⟩
  ·have:c'*κ≠0:=λz=>(LR.mp z).elim c0' k0
   grind
  ·have p:=qv (x:=x) (y:=y) hb;have q:=v x y (uw (lR (bk l)) x y).1 (uw (lR (bk l)) x y).2 p;have q':=v' x y (uw (lR (bk l)) x y).1 (uw (lR (bk l)) x y).2 p;generalize (uw (lR (bk l)) x y).1=ma at q q'
   generalize (uw (lR (bk l)) x y).2=mb at q q'
   rw [zt hl] at q q'
   rw [q',q,e];have one:∀ n:Nat,(1:Rat) ^ n=1:=λn=>by
    induction n with
    | zero=>exact Rat.pow_zero 1
    | succ n ih=>rw [Rat.pow_succ,ih,Rat.mul_one]
   rw [one,one];have h1:c'*κ / c*c=c'*κ:=by grind
   generalize c'*κ / c=r at h1;have:r*(c*1*vq t ma mb)=(r*c)*vq t ma mb:=by grind
   rw [this,h1];grind
 | true=>
  cases l with
  | invert x0 y0 p=>
   refine xW (c:=c) (c':=c'*κ) (s:=s) (s':=s') (W:=λx y=>vq t (kN x0 y0 p x y).1 (kN x0 y0 p x y).2) h h' c0 (λz=>(LR.mp z).elim c0' k0) (no x0 y0 p rfl) (no' x0 y0 p rfl) (λx y nz=>?_) (λx y nz=>?_)
   ·exact v x y _ _ (show y8 (.invert x0 y0 p) x y=some _ from if_neg nz)
   ·have q:=v' x y (kN x0 y0 p x y).1 (kN x0 y0 p x y).2 (show y8 (.invert x0 y0 p) x y=some (kN x0 y0 p x y) from if_neg nz)
    rw [e] at q;have q:vq g' x y=c'*rq (x - x0) (y - y0) ^ s'*(κ*vq t (kN x0 y0 p x y).1 (kN x0 y0 p x y).2):=q;rw [q];generalize vq t (kN x0 y0 p x y).1 (kN x0 y0 p x y).2=m;grind
  | _=>cases hl
theorem vA.inv {ls:List Ld} {t g:Zi} (h:vA ls t g):(ls=[]/\g=t)\/∃ ls' l g1,ls=ls'++[l]/\vA ls' t g1/\zd l g1 g/\∀ p∈g,∃ i j,p.1=[i,j]:=by
 cases h with
 | nil=>exact .inl ⟨rfl,rfl⟩
 | snoc h1 h2 h3=>exact .inr ⟨_,_,_,rfl,h1,h2,h3⟩
theorem vA.uniq {ls:List Ld} {t g:Zi} (h:vA ls t g):∀ {t' g':Zi} {κ:Rat},vA ls t' g'->κ≠0->(∀ x y,vq t' x y=κ*vq t x y)->∃ κ':Rat,κ'≠0/\∀ x y,vq g' x y=κ'*vq g x y:=by
 induction h with
 | nil=>
  intro t' g' κ h' k0 e;rcases h'.inv with ⟨_,rfl⟩ | ⟨ls',l,g1,el,_⟩
  ·exact⟨κ,k0,e⟩
  ·simp at el
 | snoc h1 h2 h3 ih=>
  intro t' g' κ h' k0 e;rcases h'.inv with ⟨el,_⟩ | ⟨ls',l,g1,el,q1,q2,q3⟩
  ·simp at el
  ·obtain⟨e1,e2⟩:=List.append_inj' el rfl;cases e2;subst e1;obtain⟨κ1,k1,v1⟩:=ih q1 k0 e;exact h2.uniq q2 h3 q3 k1 v1
theorem GR {l:Ld} {x y:Rat} {q:Rat×Rat} (h:y8 (bk l) x y=some q):JK l x y≠0:=by
 cases l with
 | invert x0 y0 p=>
  intro z;have z:rq (x - x0) (y - y0)=0:=z;have h:(if rq (x - x0) (y - y0)=0 then none else some (kN x0 y0 p x y))=some q:=h
  rw [if_pos z] at h;cases h
 | _=>exact(by decide:(1:Rat)≠0)
theorem vA.val {ls:List Ld} {t g:Zi} (h:vA ls t g):∀ x y a b,ul (ls.reverse.map bk) x y=some (a,b)->∃ κ:Rat,κ≠0/\vq g x y=κ*vq t a b:=by
 induction h with
 | nil=>
  intro x y a b e;have e:some (x,y)=some (a,b):=e;cases e;exact⟨1,by decide,by grind⟩
 | @snoc ls l t g g' h1 h2 h3 ih=>
  intro x y a b e;rw [List.reverse_append,List.map_append] at e;have e:(match y8 (bk l) x y with | none=>none | some p=>ul (ls.reverse.map bk) p.1 p.2)=some (a,b):=e
  cases hp:y8 (bk l) x y with
  | none=>rw [hp] at e; cases e
  | some p=>
   rw [hp] at e;have e:ul (ls.reverse.map bk) p.1 p.2=some (a,b):=e;obtain⟨κ,k0,v⟩:=ih _ _ _ _ e;obtain⟨⟨c,s,d,c0,_,_,w⟩,_⟩:=h2;refine⟨c*JK l x y ^ s*κ,λz=>?_,?_⟩
   ·rcases LR.mp z with z | z
    ·exact(LR.mp z).elim c0 (vh (GR hp) s)
    ·exact k0 z
   ·rw [w x y p.1 p.2 hp,v];grind
theorem F3 {M N:Nat} {g g':Zi} {κ:Rat} (h:Tg N g) (h':Tg M g') (n:oI (kD g) g) (n':oI (kD g') g') (nz:∀ p∈g,p.2≠0) (nz':∀ p∈g',p.2≠0) (k0:κ≠0) (e:∀ x y,vq g' x y=κ*vq g x y):Hu (sZ g') (sZ g) true:=by
 have ek:∀ k,(gI g' k:Rat)=κ*gI g k:=λk=>by
  have d0:=dn κ;have hh:∀ X Y:Int,1<=X->vl (g'.map λp=>(p.1,(κ.den:Int)*p.2)) X Y=vl (g.map λp=>(p.1,κ.num*p.2)) X Y:=λX Y _=>by
   have sc:∀ (m:Int) (t:Zi),vl (t.map λp=>(p.1,m*p.2)) X Y=m*vl t X Y:=λm t=>by
    induction t with
    | nil=>show(0:Int)=m*0; rw [Int.mul_zero]
    | cons p t ih=>
     show m*p.2*mn p.1 X Y+vl (t.map λp=>(p.1,m*p.2)) X Y=m*(p.2*mn p.1 X Y+vl t X Y)
     rw [ih];grind
   rw [sc,sc];have:=e (X:Rat) (Y:Rat);rw [jz h'.two,jz h.two] at this;have h3:(((κ.den:Int)*vl g' X Y:Int):Rat)=((κ.num*vl g X Y:Int):Rat):=by
    rw [LB,LB,this,nd κ];grind
   exact Mo.mp h3
  have c1:∀ {L:Nat} {t:Zi} (m:Int),Tg L t->L<=M+N->Ci ((M+N:Nat):Int) (t.map λp=>(p.1,m*p.2)):=λm ht hL=>⟨by rw [Mk]; exact ht.nd,λp hp=>by
   obtain⟨q,hq,rfl⟩:=LF.mp hp;obtain⟨i,j,e,a,b,c⟩:=ht.sm q hq;exact⟨i,j,e,a,b,by omega,by omega⟩⟩
  have h4:=sk (c1 (κ.den:Int) h' (by omega)) (c1 κ.num h (by omega)) hh k
  have gm:∀ (m:Int) (t:Zi),gI (t.map λp=>(p.1,m*p.2)) k=m*gI t k:=λm t=>by
   have:=An (φ:=λx:Int=>m*x) (z:=(0:Int)) (k:=k) (c:=t)
   rw [Int.mul_zero] at this;exact this
  rw [gm,gm] at h4;have h5:((κ.den:Int):Rat)*(gI g' k:Rat)=(κ.num:Rat)*gI g k:=by rw [<- LB,<- LB,h4]
  rw [nd κ] at h5;generalize ((κ.den:Int):Rat)=δ at d0 h5
  have h6:δ*((gI g' k:Rat) - κ*gI g k)=0:=by grind
  have:=(LR.mp h6).resolve_left d0;grind
 have mem:∀ {t:Zi} {k:List Int} {L:Nat},Tg L t->gI t k≠0->(k,gI t k)∈t:=λ{t k L} ht hk=>by
  rcases hJ (z:=(0:Int)) k ht.nd with q | q
  ·exact absurd (bN q) hk
  ·exact q
 have c1:∀ p∈kD g,(p.1,κ*p.2)∈kD g':=λp hp=>by
  obtain⟨q,hq,rfl⟩:=LF.mp hp;have e1:gI g q.1=q.2:=cm h.nd hq;have e2:=ek q.1;rw [e1] at e2;have n0:gI g' q.1≠0:=λz=>by
   rw [z] at e2;have e2:(0:Rat)=κ*q.2:=e2;exact(LR.mp e2.symm).elim k0 λz=>nz q hq (i0.mp z)
  exact LF.mpr ⟨_,mem h' n0,by show(q.1,(gI g' q.1:Rat))=_; rw [e2]⟩
 have c2:∀ p∈kD g',∃ q,(p.1,q)∈kD g/\p.2=κ*q:=λp hp=>by
  obtain⟨q,hq,rfl⟩:=LF.mp hp;have e1:gI g' q.1=q.2:=cm h'.nd hq;have e2:=ek q.1;rw [e1] at e2;have n0:gI g q.1≠0:=λz=>by
   rw [z] at e2;have e2:(q.2:Rat)=κ*0:=e2;rw [Rat.mul_zero] at e2;exact nz' q hq (i0.mp e2)
  exact⟨(gI g q.1:Rat),LF.mpr ⟨_,mem h n0,rfl⟩,e2⟩
 have nd1:((kD g).map (·.1)).Nodup:=by rw [iZ]; exact h.nd
 have nd2:((kD g').map (·.1)).Nodup:=by rw [iZ]; exact h'.nd
 have a:=u9 n n' k0 (kK h.two) (kK h'.two) c1 c2 nd1 nd2;have b:=u9 n' n (s:=κ⁻¹) (λz=>k0 (by grind)) (kK h'.two) (kK h.two) (λp hp=>by
  obtain⟨q,hq,e⟩:=c2 p hp;rw [e];have:κ⁻¹*(κ*q)=q:=by grind
  rw [this];exact hq) (λp hp=>⟨κ*p.2,c1 p hp,by grind⟩) nd2 nd1
 rw [o5,o5];obtain⟨r,hr,er⟩:=Lk (c:=v0 g') (c':=v0 g) nd2 nd1;rw [er.mpr ⟨λp hp=>by
  obtain⟨q,hq,rfl⟩:=LF.mp hp;exact LF.mpr ⟨q,a q hq,rfl⟩,λp hp=>by
  obtain⟨q,hq,rfl⟩:=LF.mp hp;exact LF.mpr ⟨q,b q hq,rfl⟩⟩] at hr
 exact hr
theorem Ez {t x y:Rat}:∀ {c:Zr} {ns:Zi},ns.map (·.1)=c.map (·.1)->(c.map (·.1)).Nodup->(∀ p∈ns,∃ q,(p.1,q)∈c/\(p.2:Rat)=t*q)->vq ns x y=t*vR c x y
 | [],[],_,_,_=>by show(0:Rat)=t*0; grind
 | [],_::_,h,_,_=>by cases h
 | _::_,[],h,_,_=>by cases h
 | a::c,p::ns,h,nd,f=>by
  rw [LP,LP] at h;obtain⟨h1,h2⟩:=List.cons.inj h;obtain⟨n1,n2⟩:=Mn.mp nd;have e1:(p.2:Rat)=t*a.2:=by
   obtain⟨q,hq,e⟩:=f p LL;rcases LJ.mp hq with z | z
   ·rw [e,<- z]
   ·exact absurd (LF.mpr ⟨_,z,h1⟩) n1
  have e2:=Ez (x:=x) (y:=y) (c:=c) (ns:=ns) h2 n2 λr hr=>by
   obtain⟨q,hq,e⟩:=f r (LM _ hr);rcases LJ.mp hq with z | z
   ·exfalso
    refine n1 ?_;rw [<- h2];exact LF.mpr ⟨r,hr,congrArg Prod.fst z⟩
   ·exact⟨q,z,e⟩
  show(p.2:Rat)*mq p.1 x y+vq ns x y=t*(a.2*mq a.1 x y+vR c x y)
  rw [e1,e2,h1];grind
theorem oI.v {N:Nat} {c:Zr} {ns:Zi} (hN:oI c ns) (hc:oo N c):∃ t:Rat,t≠0/\∀ x y,vq ns x y=t*vR c x y:=by
 obtain⟨t,t0,f1,f2⟩:=hN.sc;exact⟨t,t0,λx y=>Ez hN.keys hc.nd f1⟩
theorem AM {u x y:Rat} {c:Zr} (h:∀ p∈c,∃ i j,p.1=[i,j]):mK u (qo x) (qo y) c (0,0)=qo (vR c x y):=by
 rw [vZ,x_];obtain⟨L,a,b⟩:=dL.val (dL.x u) (dL.y u) h;have h1:oK u c (qo x) (qo y)=_:=b (qo x) (qo y);have h2:qo (vR c x y)=_:=a x y;rw [h1,h2]
structure Oq (M:Int) (T:Nat) (x:Q):Prop where
 a:∃ t:Int,Bt T t/\(M:Rat)*x.1=t
 b:∃ t:Int,Bt T t/\(M:Rat)*x.2=t
theorem KH {M t:Int} {n:Nat} {g:Rat} (M0:0 < M) (hM:Bt n M) (ht:Bt n t) (e:(M:Rat)*g=t):Sz n g:=by
 have r0:(M:Rat)≠0:=λz=>by
  have:M=0:=Mo.mp (by rw [z]; rfl)
  omega
 have:g=Rat.divInt t M:=by
  rw [Me,<- e];grind
 rw [this];exact Sz.divInt ht hM (by omega)
theorem Oq.sq {M:Int} {T n:Nat} {x:Q} (h:Oq M T x) (M0:0 < M) (bM:Bt n M) (hT:T<=n):Sq n x:=by
 obtain⟨⟨t1,b1,e1⟩,⟨t2,b2,e2⟩⟩:=h;exact⟨KH M0 bM (b1.mono hT) e1,KH M0 bM (b2.mono hT) e2⟩
theorem Oq.mono {M:Int} {T T':Nat} {x:Q} (h:Oq M T x) (hT:T<=T':=by first|decide|omega):Oq M T' x:=by
 obtain⟨⟨t1,b1,e1⟩,⟨t2,b2,e2⟩⟩:=h;exact⟨⟨t1,b1.mono hT,e1⟩,⟨t2,b2.mono hT,e2⟩⟩
theorem Oq.mul {M M' u:Int} {T T':Nat} {x y:Q} (hu:Bt 7 u) (h:Oq M T x) (h':Oq M' T' y):Oq (M*M') (T+T'+8) (qm (u:Rat) x y):=by
 obtain⟨⟨t1,b1,e1⟩,⟨t2,b2,e2⟩⟩:=h;obtain⟨⟨s1,c1,f1⟩,⟨s2,c2,f2⟩⟩:=h';refine⟨⟨t1*s1+t2*s2*u,((b1.mul c1).add ((b2.mul c2).mul hu)).mono,?_⟩,⟨t1*s2+t2*s1,((b1.mul c2).add (b2.mul c1)).mono,?_⟩⟩
 ·show((M*M':Int):Rat)*(x.1*y.1+x.2*y.2*(u:Rat))=_
  rw [LW,LB,LB,LB,LB,<- e1,<- e2,<- f1,<- f2];grind
 ·show((M*M':Int):Rat)*(x.1*y.2+x.2*y.1)=_
  rw [LW,LB,LB,LB,<- e1,<- e2,<- f1,<- f2];grind
theorem Oq.one:Oq 1 1 (1,0):=⟨⟨1,by decide,by show((1:Int):Rat)*1=((1:Int):Rat); grind⟩,⟨0,by decide,by show((1:Int):Rat)*0=((0:Int):Rat); grind⟩⟩
theorem Oq.pw {M u:Int} {T:Nat} {x:Q} (hu:Bt 7 u) (h:Oq M T x):∀ n,Oq (M ^ n) (n*(T+8)+1) (jR (u:Rat) x n)
 | 0=>by rw [Int.pow_zero]; exact Oq.one.mono
 | n+1=>by rw [Int.pow_succ]; exact((Oq.pw hu h n).mul hu h).mono (by rw [Nat.add_mul]; omega)
theorem Oq.up {M M' m:Int} {T s:Nat} {x:Q} (h:Oq M T x) (e:M'=M*m) (hm:Bt s m):Oq M' (T+s) x:=by
 obtain⟨⟨t1,b1,e1⟩,⟨t2,b2,e2⟩⟩:=h;subst e;refine⟨⟨t1*m,b1.mul hm,?_⟩,⟨t2*m,b2.mul hm,?_⟩⟩
 ·rw [LB,LB,<- e1];grind
 ·rw [LB,LB,<- e2];grind
theorem Oq.add {M:Int} {T T':Nat} {x y:Q} (h:Oq M T x) (h':Oq M T' y) (le:T'<=T):Oq M (T+1) (qa x y):=by
 obtain⟨⟨t1,b1,e1⟩,⟨t2,b2,e2⟩⟩:=h;obtain⟨⟨s1,c1,f1⟩,⟨s2,c2,f2⟩⟩:=h';refine⟨⟨t1+s1,(b1.add c1).mono,?_⟩,⟨t2+s2,(b2.add c2).mono,?_⟩⟩
 ·show(M:Rat)*(x.1+y.1)=_
  rw [LW,<- e1,<- f1];grind
 ·show(M:Rat)*(x.2+y.2)=_
  rw [LW,<- e2,<- f2];grind
theorem Oq.k {M B t:Int} {T s:Nat} {x:Q} {p:Rat} (h:Oq M T x) (ht:Bt s t) (e:(B:Rat)*p=t):Oq (B*M) (s+T) (qk p x):=by
 obtain⟨⟨t1,b1,e1⟩,⟨t2,b2,e2⟩⟩:=h;refine⟨⟨t*t1,ht.mul b1,?_⟩,⟨t*t2,ht.mul b2,?_⟩⟩
 ·show((B*M:Int):Rat)*(p*x.1)=_
  rw [LB,LB,<- e1,<- e];grind
 ·show((B*M:Int):Rat)*(p*x.2)=_
  rw [LB,LB,<- e2,<- e];grind
theorem Oq.zero {M:Int} {T:Nat}:Oq M T (0,0):=⟨⟨0,by unfold Bt; exact Nat.two_pow_pos T,Rat.mul_zero _⟩,⟨0,by unfold Bt; exact Nat.two_pow_pos T,Rat.mul_zero _⟩⟩
theorem Oq.o {n:Nat} {x:Rat} (h:Sz n x):Oq (x.den:Int) n (qo x):=⟨⟨x.num,h.num,by show((x.den:Int):Rat)*x=_; rw [kg]⟩,⟨0,by unfold Bt; exact Nat.two_pow_pos n,Rat.mul_zero _⟩⟩
structure Ck (w:Nat) (x y:Q) (Mx My:Int):Prop where
 x:Oq Mx w x
 y:Oq My w y
 px:0 < Mx
 py:0 < My
 bx:Bt w Mx
 by_:Bt w My
theorem Ck.pw {w i j:Nat} {u:Int} {x y:Q} {Mx My:Int} (h:Ck w x y Mx My) (hu:Bt 7 u):Oq (Mx ^ i*My ^ j) ((i+j)*(w+8)+10) (qm (u:Rat) (jR (u:Rat) x i) (jR (u:Rat) y j)):=((h.x.pw hu i).mul hu (h.y.pw hu j)).mono (by rw [Nat.add_mul]; omega)
theorem Ck.mon {w N:Nat} {u:Int} {x y:Q} {Mx My:Int} (h:Ck w x y Mx My) (hu:Bt 7 u) {i j:Nat} (hi:i+j<=N):Oq (Mx ^ N*My ^ N) (2*(N*(w+8))+12) (qm (u:Rat) (jR (u:Rat) x i) (jR (u:Rat) y j)):=by
 have b1:=gP h.bx (N - i);have b2:=gP h.by_ (N - j);have e1:Mx ^ i*Mx ^ (N - i)=Mx ^ N:=by rw [<- Int.pow_add]; congr 1; omega
 have e2:My ^ j*My ^ (N - j)=My ^ N:=by rw [<- Int.pow_add]; congr 1; omega
 refine((h.pw hu).up (M':=Mx ^ N*My ^ N) (m:=Mx ^ (N - i)*My ^ (N - j)) ?_ (b1.mul b2)).mono ?_
 ·rw [<- e1,<- e2];grind
 ·have h1:(i+j)*(w+8)+(N - i)*w+(N - j)*w<=2*(N*(w+8)):=by
   have:(i+j)*(w+8)+(N - i)*w+(N - j)*w<=(i+j)*(w+8)+(N - i)*(w+8)+(N - j)*(w+8):=by
    have a1:=Nat.mul_le_mul_left (N - i) (show w<=w+8 by omega)
    have a2:=Nat.mul_le_mul_left (N - j) (show w<=w+8 by omega)
    omega
   refine Mi this ?_;rw [<- Nat.add_mul,<- Nat.add_mul,<- Nat.mul_assoc];exact Nat.mul_le_mul_right _ (by omega)
  omega
theorem Ck.val {w N T:Nat} {u B:Int} {x y:Q} {Mx My:Int} (h:Ck w x y Mx My) (hu:Bt 7 u):∀ (c:Zr) {s:Q} {n:Nat},(∀ p∈c,∃ i j:Int,p.1=[i,j]/\0<=i/\0<=j/\i+j<=N)->Dn B T c->Oq (B*(Mx ^ N*My ^ N)) (T+(2*(N*(w+8))+12)+n) s->Oq (B*(Mx ^ N*My ^ N)) (T+(2*(N*(w+8))+12)+n+c.length) (mK (u:Rat) x y c s)
 | [],_,_,_,_,hs=>hs
 | p::c,s,n,hk,hd,hs=>by
  obtain⟨i,j,ek,i0,j0,ij⟩:=hk p LL;obtain⟨t,bt,et⟩:=hd p LL;have h1:=(h.mon hu (N:=N) (i:=i.toNat) (j:=j.toNat) (by omega)).k bt et
  have h1:Oq (B*(Mx ^ N*My ^ N)) (T+(2*(N*(w+8))+12)) (qk p.2 (_root_.My.mon (u:Rat) x y p.1)):=by rw [ek]; exact h1
  have h2:=hs.add h1 (by omega)
  have:=Ck.val h hu c (n:=n+1) (λq hq=>hk q (LM _ hq)) (λq hq=>hd q (LM _ hq)) h2
  exact this.mono (by rw [LQ]; omega)
theorem oo.len {N:Nat} {c:Zr} (ht:oo N c) (hN:N<=12):c.length<=169:=by
 have h1:Tg N (c.map λp=>(p.1,(1:Int))):=⟨by rw [Mk]; exact ht.nd,λp hp=>by
  obtain⟨q,hq,rfl⟩:=LF.mp hp;exact ht.sm q hq⟩
 have:=h1.len hN;rw [LG] at this;exact this
theorem KQ {u t:Rat} {a b:Q}:qm u (qk t a) b=qk t (qm u a b):=by
 unfold qm qk;apply LX <;> dsimp only <;> grind
theorem HI {u:Rat} {a:Q}:qm u a (1,0)=a:=by
 unfold qm;apply LX <;> dsimp only <;> grind
theorem C5 {u:Rat} {x y:Q} {c:Zr} {p:List Int×Rat} {s:Q}:mK u x y (c++[p]) s=qa (mK u x y c s) (qk p.2 (mon u x y p.1)):=by
 unfold mK;rw [List.foldl_append]
 rfl
def dF:cH:=λds S k=>∃ (a:MR) (c:Zr) (ep:Nat) (x y:Q) (u Bc Mx My:Int) (N w z:Nat),ds=[.ref a,BP x y,fr (u:Rat)]/\S a=some (bH (fc c) ep)/\oo N c/\N<=12/\Dn Bc 40000 c/\0 < Bc/\Bt 1000 Bc/\Bt 3 u/\Ck w x y Mx My/\w<=4000/\k (B (mK (u:Rat) x y c (0,0))) S
theorem cr:au ["curve","point","base","found","powers","part","k","turn"] ["curve","point","base"] (ap jx):=dX
theorem qU (Fn:FN K "_law_value" jx f fd) (aM:bj P w K mg base "_law_multiply" 36 fS) (cf:bj P w K mg base "_law_add" 36 lI) (aB:mg "range"=none):
  aT P w K mg base c8 37 f fd ["curve","point","base"] (dk K dF):=by
 refine Fn.okJ cr (λds S k h=>?_) (λcdv A outer s H E hr=>⟨_,(af (ai (i:=3) cr.nd (aq (aa (aq (aa ae (aa ae ac))) (aa (aq (aa ae (aa ae ac))) ac)))) (af (da PassesOwn.never rfl (fJ (ah 0)) (ar (i:=4) cr.nd) (af (ai (i:=5) cr.nd (aq (aa (gG hr (ah 0) (ah 4) Zf) (aa (aq (aa ae (aa ae ac))) ac)))) (af (cV PassesOwn.never rfl rfl aB (aa ae ac) (ar (i:=6) cr.nd) (aj (cV PassesOwn.never rfl rfl aB (aa (bq EG (ah 4) (ah 6) Zf) ac) (ar (i:=7) cr.nd) (aj (ai (i:=5) cr.nd (dq aM hr (aG 5 (aa (bq EG (ah 1) (ah 6) Zf) (aG 2 ac))))))))) (aj (ai (i:=3) cr.nd (dq cf hr (aG 3 (aG 5 ac)))))))) (aj (ao (ah 3))))),λds S k h=>?_⟩)
 ·obtain⟨_,_,_,_,_,_,_,_,_,_,_,_,rfl,_⟩:=h
  rfl
 ·obtain⟨a,c,ep,x,y,u,Bc,Mx,My',N,w,z,rfl,ha,hc,hN,hd,B0,bB,hu,hp,hw,wk⟩:=h;refine⟨few,few,few,_,_,ha,?_⟩;rw [ux];have hu7:Bt 7 u:=hu.mono
  have su:Sz 4 (u:Rat):=⟨hu.mono,by show Bt 4 1; decide⟩
  have M0:0 < Bc*(Mx ^ N*My' ^ N):=Int.mul_pos B0 (Int.mul_pos (Int.pow_pos hp.px) (Int.pow_pos hp.py));have Nw:N*(w+8)<=12*4008:=Nat.mul_le_mul hN (by omega)
  have Nw2:N*w<=N*(w+8):=Nat.mul_le_mul_left _ (by omega)
  have bM:Bt 199000 (Bc*(Mx ^ N*My' ^ N)):=(bB.mul ((gP hp.bx N).mul (gP hp.by_ N))).mono
  have lc:=hc.len hN;have sx:Sq 4000 x:=hp.x.sq hp.px (hp.bx.mono hw) hw;have sy:Sq 4000 y:=hp.y.sq hp.py (hp.by_.mono hw) hw;refine aL (λr L S'=>S'=S/\∃ (don am:Zr) (l4 l5 l6 l7:MS D),c=don++am/\r=am.map (λx=>cz x.1)/\L=[some (.ref a),some (BP x y),some (fr (u:Rat)),some (B (mK (u:Rat) x y don (0,0))),l4,l5,l6,l7]) (λr L S' h=>by rw [h.1]; exact ha) ?_ ?_ _ _ _ ⟨rfl,[],c,none,none,none,none,rfl,rfl,rfl⟩
  ·rintro d r L S1 N1 ⟨rfl,don,am,l4,l5,l6,l7,ec,er,rfl⟩ hN1;cases am with
   | nil=>cases er
   | cons q am=>
    cases er;have mq:q∈c:=by rw [ec]; simp
    obtain⟨i,j,ek,i0,j0,ij⟩:=hc.sm q mq;obtain⟨k0,t0⟩:=q;have ek:k0=[i,j]:=ek;subst ek;have g1:de (fc c) [i,j]=some (fr t0):=dI hc.nd mq;obtain⟨t,bt,et⟩:=hd _ mq;have szP:∀ i' j':Nat,i'+j'<=N->Sq 199000 (qk t0 (qm (u:Rat) (jR (u:Rat) x i') (jR (u:Rat) y j'))):=λi' j' h=>((hp.mon hu7 h).k bt et).sq M0 bM (by omega)
    have dl:don.length<=169:=by have:=congrArg List.length ec; rw [LY,LQ] at this; omega
    have szV:Sq 199000 (mK (u:Rat) x y don (0,0)):=(hp.val (T:=40000) (N:=N) hu7 don (s:=(0,0)) (n:=0) (λp hp=>hc.sm p (by rw [ec]; simp [hp])) (λp hp=>hd p (by rw [ec]; simp [hp])) Oq.zero).sq M0 bM (by omega)
    refine⟨_,_,[i,j],_,ha,rfl,g1,few,few,⟨by decide,by decide⟩,?_⟩
    refine aL (λr L S'=>S'=S1/\∃ (P:Q) (l6 l7:MS D),L=[some (.ref a),some (BP x y),some (fr (u:Rat)),some (B (mK (u:Rat) x y don (0,0))),some (cz [i,j]),some (B P),l6,l7]/\((r=[.int 0,.int 1]/\P=qk t0 (1,0))\/(r=[.int 1]/\P=qk t0 (jR (u:Rat) x i.toNat))\/(r=[]/\P=qk t0 (qm (u:Rat) (jR (u:Rat) x i.toNat) (jR (u:Rat) y j.toNat))))) (λ_ _ _ _=>trivial) ?_ ?_ _ _ _ ⟨rfl,_,l6,l7,by show _=[_,_,_,_,_,some (B (qk t0 (1,0))),_,_]; rw [show B (qk t0 (1,0))=.tup [fr t0,fr 0] by unfold B qk; rw [show t0*1=t0 by grind,show t0*0=0 by grind]]; rfl,.inl ⟨rfl,rfl⟩⟩
    ·rintro d r L S2 N2 ⟨rfl,P,l6,l7,rfl,hc2⟩ hN2;rcases hc2 with ⟨er,eP⟩ | ⟨er,eP⟩ | ⟨er,eP⟩
     ·cases er;refine⟨_,rfl,⟨by omega,by omega⟩,?_⟩
      refine aL (λr L S'=>S'=S2/\∃ (m:Nat) (l7:MS D),L=[some (.ref a),some (BP x y),some (fr (u:Rat)),some (B (mK (u:Rat) x y don (0,0))),some (cz [i,j]),some (B (qk t0 (jR (u:Rat) x m))),some (.int 0),l7]/\m+r.length=i.toNat) (λ_ _ _ _=>trivial) ?_ ?_ _ _ _ ⟨rfl,0,l7,by rw [eP]; rfl,by rw [LG,List.length_range]; omega⟩
      ·rintro d r L S3 N3 ⟨rfl,m,l7,rfl,hm⟩ hN3;have hm:m+(r.length+1)=i.toNat:=hm;have sP:=szP m 0 (by omega)
       rw [show qm (u:Rat) (jR (u:Rat) x m) (jR (u:Rat) y 0)=jR (u:Rat) x m from HI] at sP
       exact⟨_,rfl,_,x,_,_,rfl,su,sP,sx.mono,rfl,hN3 _ _ ⟨rfl,m+1,_,by rw [KQ]; rfl,by omega⟩⟩
      ·rintro L S3 ⟨rfl,m,l7,rfl,hm⟩;have hm:m+0=i.toNat:=hm;refine hN2 _ _ ⟨rfl,_,_,l7,rfl,.inr (.inl ⟨rfl,by rw [show m=i.toNat by omega]⟩)⟩
     ·cases er;refine⟨_,rfl,⟨by omega,by omega⟩,?_⟩
      refine aL (λr L S'=>S'=S2/\∃ (m:Nat) (l7:MS D),L=[some (.ref a),some (BP x y),some (fr (u:Rat)),some (B (mK (u:Rat) x y don (0,0))),some (cz [i,j]),some (B (qk t0 (qm (u:Rat) (jR (u:Rat) x i.toNat) (jR (u:Rat) y m)))),some (.int 1),l7]/\m+r.length=j.toNat) (λ_ _ _ _=>trivial) ?_ ?_ _ _ _ ⟨rfl,0,l7,by rw [eP,show qm (u:Rat) (jR (u:Rat) x i.toNat) (jR (u:Rat) y 0)=jR (u:Rat) x i.toNat from HI]; rfl,by rw [LG,List.length_range]; omega⟩
      ·rintro d r L S3 N3 ⟨rfl,m,l7,rfl,hm⟩ hN3;have hm:m+(r.length+1)=j.toNat:=hm;exact⟨_,rfl,_,y,_,_,rfl,su,szP i.toNat m (by omega),sy.mono,rfl,hN3 _ _ ⟨rfl,m+1,_,by rw [KQ,EV]; rfl,by omega⟩⟩
      ·rintro L S3 ⟨rfl,m,l7,rfl,hm⟩;have hm:m+0=j.toNat:=hm;refine hN2 _ _ ⟨rfl,_,_,l7,rfl,.inr (.inr ⟨rfl,by rw [show m=j.toNat by omega]⟩)⟩
     ·cases er
    ·rintro L S2 ⟨rfl,P,l6,l7,rfl,hc2⟩;rcases hc2 with ⟨er,eP⟩ | ⟨er,eP⟩ | ⟨er,eP⟩
     ·cases er
     ·cases er
     ·refine⟨_,_,_,rfl,szV.mono,?_,rfl,hN1 _ _ ⟨rfl,don++[([i,j],t0)],am,_,_,_,_,by rw [ec]; simp,rfl,by rw [C5,eP]; rfl⟩⟩
      rw [eP];exact(szP i.toNat j.toNat (by omega)).mono
  ·rintro L S1 ⟨rfl,don,am,l4,l5,l6,l7,ec,er,rfl⟩;cases am with
   | cons q am=>cases er
   | nil=>
    rw [L0] at ec;subst ec;exact wk
theorem JL {g:Zi}:sB oN.k (sZ g)=g.map λx=>cz x.1:=by
 rw [o5,ux,Mk]
 rfl
def iX:cH:=λds S k=>∃ (a:MR) (g:Zi) (ep:Nat),ds=[.ref a]/\S a=some (bH (sZ g) ep)/\oI (kD g) g/\Tg 12 g/\(∀ p∈g,p.2≠0)/\∀ S',aK S S'->k (.bl true) S'
theorem b8:au ["curve","by","powers","top","bottom"] ["curve"] (ap fw):=dX
theorem mY (Fn:FN K "_law_is_normal" fw f fd) (cY:bj P w K mg base "_law_divisor" 1 gY) (eu:mg "max"=none) (jI:mg "isinstance"=none) (fX:mg "dict"=none):
  aT P w K mg base c8 2 f fd ["curve"] (dk K iX):=by
 refine Fn.okJ b8 (λds S k h=>?_) (λcdv A outer s H E hr=>⟨_,(af (aE (WJ.pt (o9 (sw (iu (bp Fk rfl jI qE (aG 0 (aa (II (n:=.dic) rfl fX oJ) ac))))) (o9 (ax (BN hr) (ah 0) eW (aA _)) (oF (ax xX (bq bG (gG hr (ah 0) (bp (BG hr) rfl eu ku (aG 0 ac)) Zf) ae Zf) ae (aA _)))))) (aj (ao fN)) aF) (af (ai (i:=1) b8.nd ae) (af (da PassesOwn.never rfl (fJ (ah 0)) (ar (i:=2) b8.nd) (af (cD (gG hr (ah 0) (ah 2) Zf) (gC (n:=2) rfl (aW (ar (i:=3) b8.nd) (aW (ar (i:=4) b8.nd) eY)))) (af (aE (WJ.pt (o9 (ax uJ (ah 4) ae (aA _)) (oF (ax fe (ah 3) ae (aA _))))) (aj (ao fN)) aF) (aj (ai (i:=1) b8.nd (dq cY hr (aG 1 (aG 3 ac)))))))) (aj (ao (lE fe (ah 1) ae (aA _))))))),λds S k h=>?_⟩)
 ·obtain⟨_,_,_,rfl,_⟩:=h
  rfl
 ·obtain⟨a,g,ep,rfl,ha,hN,hg,nz,w⟩:=h;have gne:=qg hN;have gne':sZ g≠[]:=λz=>gne (List.map_eq_nil_iff.mp z)
  refine⟨_,_,ha,λp hp e1=>?_⟩
  have x1:aK S (put S p (.gen (.dT [] e1))):=aK.new hp;refine⟨_,_,_,_,false,x1 _ _ ha,ak,.inl ⟨λz=>gne' (MN.mp z),rfl⟩,?_⟩
  have a1:=x1 _ _ ha;generalize put S p (.gen (.dT [] e1))=S1 at x1 a1 ⊢
  have nd:(g.map (·.1)).Nodup:=hg.nd;have gT:∀ x∈g,de (sZ g) x.1=some (D.tup [.int x.2,.int 1]):=λx hx=>dI (f:=λn:Int=>D.tup [.int n,.int 1]) nd hx
  refine⟨_,_,a1,gne',λp hp=>?_,λm hm mx=>?_⟩
  ·obtain⟨x,hx,rfl⟩:=LF.mp hp;exact hg.two x hx
  obtain⟨x,hx,rfl⟩:=LF.mp hm;have pos:0 < x.2:=by
   obtain⟨y,hy,my,py⟩:=hN.sg;have e:x.1=y.1:=zU (hg.two x hx) (hg.two y hy) (my x hx) (mx (y.1,D.tup [.int y.2,.int 1]) (LF.mpr ⟨y,hy,rfl⟩));have:x.2=y.2:=qj (k:=x.1) nd hx (by rw [e]; exact hy)
   omega
  refine⟨_,_,x.1,_,a1,rfl,gT x hx,b_ (λz=>absurd z (by omega)) (λ_=>⟨_,_,a1,?_⟩)⟩
  rw [JL];refine aL (λr L S'=>S'=S1/\∃ (don am:Zi) (by_:Int) (l2 l3 l4:MS D),g=don++am/\r=(am.map λx=>cz x.1)/\L=[some (.ref a),some (.int by_),l2,l3,l4]/\0<=by_/\∀ p∈don,by_ ∣ p.2) (λr L S' h=>by rw [h.1]; exact a1) ?_ ?_ _ _ _ ⟨rfl,[],g,0,none,none,none,rfl,rfl,rfl,Int.le_refl _,λp h=>nomatch h⟩
  ·rintro d r L S2 N2 ⟨rfl,don,am,by_,l2,l3,l4,ec,er,rfl,b0,bd⟩ hN2;cases am with
   | nil=>cases er
   | cons q am=>
    cases er;have hq:q∈g:=by rw [ec]; simp
    refine⟨_,_,q.1,_,a1,rfl,gT q hq,([.int q.2,.int 1],none),rfl,rfl,rfl,(b_ (λz=>absurd z (nz q hq)) (λ_=>⟨_,_,rfl,hN2 _ _ ⟨rfl,don++[q],am,_,_,_,_,by rw [ec]; simp,rfl,rfl,by omega,λp hp=>?_⟩⟩))⟩
    rcases List.mem_append.mp hp with h | h
    ·exact Int.dvd_trans (Int.gcd_dvd_left _ _) (bd p h)
    ·rw [List.mem_singleton.mp h];exact Int.gcd_dvd_right _ _
  ·rintro L S2 ⟨rfl,don,am,by_,l2,l3,l4,ec,er,rfl,b0,bd⟩;cases am with
   | cons q am=>cases er
   | nil=>
    rw [L0] at ec;subst ec;have h1:=hN.co by_ bd;have e1:by_=1:=by
     have:=Int.le_of_dvd (by decide) h1
     rcases Int.lt_or_eq_of_le b0 with z | z
     ·omega
     ·rw [<- z] at h1;exact absurd (Int.zero_dvd.mp h1) (by decide)
    rw [e1];exact w _ x1
theorem wG {x:Rat}:D.tup [.int (0 - x.num),.int (x.den:Int)]=fr (-x):=by
 rw [Int.zero_sub]
 rfl
def i4:cH:=λds S k=>∃ l:Ld,ds=[ii l]/\fZ l/\ig l/\k (ii (bk l)) S
theorem mM:au ["lead"] ["lead"] (ap fE):=dX
theorem md (Fn:FN K "_law_backwards" fE f fd) (aC:bj P w K mg base "_law_ratio" 34 bO):
  aT P w K mg base c8 35 f fd ["lead"] (dk K i4):=by
 refine Fn.okJ mM (λds S k h=>?_) (λcdv A outer s H E hr=>⟨_,(af (aE (ax fe (aJ 0) bX (aA _)) (aj (ao (aq (aa bX (aa (aq (aa (aw gz ae (bq bG (aJ 0) ae Zf)) (aa (bq bG (aJ 0) ae Zf) ac))) (aa (aq (aa (aw gz ae (bq bG (aJ 0) ae Zf)) (aa (bq bG (aJ 0) ae Zf) ac))) ac)))))) aF) (af (aE (ax fe (aJ 0) bX (aA _)) (aj (ao (aw vH (gB (ah 0) lZ (cL ae)) (aq (aa (dq aC hr (aa (bq bG (aJ 0) ae Zf) (aa (bq bG (aJ 0) ae Zf) ac))) ac))))) aF) (af (aE (ax fe (aJ 0) bX (aA _)) (aj (ao (aw vH (gB (ah 0) lZ (cL ae)) (aq (aa (aq (aa (aw gz ae (bq bG (aJ 0) ae Zf)) (aa (bq bG (aJ 0) ae Zf) ac))) ac))))) aF) (aj (ao (ah 0)))))),λds S k h=>?_⟩)
 ·obtain⟨_,rfl,_⟩:=h
  rfl
 ·obtain⟨l,rfl,ok,sz,w⟩:=h;cases l with
  | shift x y=>
   refine⟨few,few,few,?_⟩
   show k (.tup [.str "shift",.tup [.int (0 - x.num),.int (x.den:Int)],.tup [.int (0 - y.num),.int (y.den:Int)]]) S
   rw [wG,wG];exact w
  | grow x y b=>
   have b0:b≠0:=ok;have c4:¬ (HT.dD 4 0 none=0/\HT.dD 4 4 (some 3)=4):=by decide
   refine⟨c4,_,_,rfl,λz=>b0 (MM.mp z),sz.2.2.num.mono,?_⟩
   rw [wd b0];exact⟨few,LV rfl,w⟩
  | turn x y p q=>
   have c5:¬ (HT.dD 5 0 none=0/\HT.dD 5 5 (some 4)=5):=by decide
   refine⟨c5,few,?_⟩;rw [wG];exact⟨few,LV rfl,w⟩
  | mirror a b c=>exact w
  | invert x y p=>exact w
def mI:cH:=λds S k=>∃ x0 y0 p x y:Rat,ds=[ii (.invert x0 y0 p),BP (qo x) (qo y)]/\Sz 24 x0/\Sz 24 y0/\Sz 24 x/\Sz 24 y/\∀ S',aK S S'->k (fr (rq (x - x0) (y - y0))) S'
theorem kY:au ["lead","point","some"] ["lead","point"] (ap jK):=dX
theorem qK (Fn:FN K "_law_round" jK f fd) (bL:bj P w K mg base "_law_minus" 35 gH) (aQ:bj P w K mg base "_law_plus" 35 eo) (ay:bj P w K mg base "_law_times" 35 dG) (aB:mg "range"=none):
  aT P w K mg base c8 36 f fd ["lead","point"] (dk K mI):=by
 refine Fn.okJ kY (λds S k h=>?_) (λcdv A outer s H E hr=>⟨_,(af (iy (iv:=2) kY.nd rfl (cB (N:=["k","lead","point"]) (cap:=[none,some 0,some 1]) rfl rfl rfl rfl ⟨rfl,rfl,trivial⟩ rfl rfl ⟨⟨rfl,.inl rfl,.inl rfl⟩,⟨rfl,.inl rfl,.inl rfl⟩,trivial⟩) rfl aB (aa ae ac) (λ_ _ _ _=>(ar (i:=0) (show List.Nodup (["k","lead","point"]:List Str) from by decide +kernel))) (λ_ _ _ _=>(dq bL hr (aa (bq bG (bq bG (ah 2) (ah 0) Zf) ae Zf) (aa (bq bG (ah 1) (aw cS ae (ah 0)) Zf) ac))))) (aj (ao (dq aQ hr (aa (dq ay hr (aa (aJ 2) (aa (aJ 2) ac))) (aa (dq ay hr (aa (aJ 2) (aa (aJ 2) ac))) ac)))))),λds S k h=>?_⟩)
 ·obtain⟨_,_,_,_,_,rfl,_⟩:=h
  rfl
 ·obtain⟨x0,y0,p,x,y,rfl,h1,h2,h3,h4,w⟩:=h;have s1:=h3.sub h1;have s2:=h4.sub h2;have m1:=s1.mul s1;have m2:=s2.mul s2;refine⟨by decide,λp1 hp1=>gZ hp1 (λ_=>trivial) (λS' k' e h=>⟨x,x0,rfl,h3.mono,h1.mono,h⟩) (λS' k' e h=>⟨y,y0,rfl,h4.mono,h2.mono,h⟩) λS1 e1 hh=>?_⟩
  refine⟨_,_,hh,rfl,_,_,hh,rfl,_,_,_,_,_,rfl,az _ _,s1.num.mono,s1.den.mono,s1.num.mono,s1.den.mono,c6 _ _,?_⟩
  refine⟨_,_,hh,rfl,_,_,hh,rfl,_,_,_,_,_,rfl,az _ _,s2.num.mono,s2.den.mono,s2.num.mono,s2.den.mono,c6 _ _,?_⟩
  exact⟨_,_,_,_,_,rfl,az _ _,m1.num.mono,m1.den.mono,m2.num.mono,m2.den.mono,jo _ _,w S1 e1⟩
theorem mi {S:DH} {p f:MR} {c:Zr} {e1:Nat} {k:DK} (hp:S p=none) (hf:S f=some (bH (fc c) e1)) (sm:∀ p∈c,∃ i j:Int,p.1=[i,j]/\0<=i/\0<=j/\i+j<=12) (kk:∀ S2,aK S S2->S2 p=some (.lst ((c.map λx=>dg x.1).map D.int))->k (.ref p) S2):
  ∀ (am don:Zr) (l0:MS D) (S1:DH),c=don++am->aK S S1->S1 p=some (.lst ((don.map λx=>dg x.1).map D.int))->c.length<=1000->
   aX (λS=>S f=some (bH (fc c) e1)) p (dU 0) (eQ (jS B8 (cj (cJ 0) jX))) k (am.map λx=>cz x.1) ((don.map λx=>dg x.1).map D.int) [l0] S1
 | [],don,l0,S1,ec,x1,h1,_=>by
  rw [L0] at ec;subst ec;exact⟨x1 _ _ hf,kk S1 x1 h1⟩
 | q::am,don,l0,S1,ec,x1,h1,hl=>by
  have f1:=x1 _ _ hf;have hd:don.length < 1000:=by have:=congrArg List.length ec; rw [LY,LQ] at this; omega
  have ec':c=(don++[q])++am:=by rw [ec]; simp
  obtain⟨i,j,e,i0,j0,ij⟩:=sm q (by rw [ec]; simp)
  have ea:(don.map λx=>dg x.1).map D.int++[D.int (0+i+j)]=((don++[q]).map λx=>dg x.1).map D.int:=by simp [dg,e]
  have il:∀ z:Int,0<=z->z<=40->InLong z:=λz _ _=>⟨by omega,by omega⟩
  rw [LP,e];refine⟨f1,[i,j],rfl,λt ht=>?_,h1,by rw [LG,LG]; exact lim (by omega),?_⟩
  ·match t,ht with
   | 0,_=>exact⟨il i i0 (by omega),il (0+i) (by omega) (by omega)⟩
   | 1,_=>exact⟨il j j0 (by omega),il (0+i+j) (by omega) (by omega)⟩
  ·show aX _ _ _ _ _ _ ((don.map λx=>dg x.1).map D.int++[D.int (0+i+j)]) _ (put S1 p (.lst ((don.map λx=>dg x.1).map D.int++[D.int (0+i+j)])))
   rw [ea];exact mi hp hf sm kk am (don++[q]) _ _ ec' (x1.put hp) ak hl
theorem B7 {n:Nat} {x y:Rat} (hx:Sz n x) (hy:Sz n y):Ck n (qo x) (qo y) (x.den:Int) (y.den:Int):=⟨Oq.o hx,Oq.o hy,kA x,kA y,hx.den,hy.den⟩
theorem kO {N:Nat} {g:Zi} (h:Tg N g):oo N (v0 g):=⟨by rw [iZ]; exact h.nd,λp hp=>by
 obtain⟨q,hq,rfl⟩:=LF.mp hp;exact h.sm q hq⟩
theorem oo.two {N:Nat} {c:Zr} (h:oo N c):∀ p∈c,∃ i j,p.1=[i,j]:=λp hp=>by
 obtain⟨i,j,e,_⟩:=h.sm p hp;exact⟨i,j,e⟩
theorem oo.up {M N:Nat} {c:Zr} (h:oo M c) (hM:M<=N):oo N c:=⟨h.nd,λp hp=>by
 obtain⟨i,j,e,i0,j0,ij⟩:=h.sm p hp;exact⟨i,j,e,i0,j0,by omega⟩⟩
theorem Ek {S:DH} {k:DK} {b:MR} {g:Zi} {e N n:Nat} {x y:Rat} (hb:S b=some (bH (sZ g) e)) (hg:Tg N g) (hN:N<=12) (bg:∀ p∈g,Bt 40000 p.2) (hx:Sz n x) (hy:Sz n y) (hn:n<=4000) (w:k (B (qo (vq g x y))) S):dF [.ref b,BP (qo x) (qo y),.tup [.int 2,.int 1]] S k:=by
 refine⟨b,v0 g,e,qo x,qo y,2,1,_,_,N,n,0,rfl,by rw [<- o5]; exact hb,kO hg,hN,(wc bg),by decide,Es.mono,by decide,B7 hx hy,hn,?_⟩
 rw [AM (kO hg).two,show vR (v0 g) x y=vq g x y from jt]
 exact w
theorem EM {S:DH} {k:DK} {b:MR} {c:Zr} {e N:Nat} {x y:Rat} {Bc:Int} (hb:S b=some (bH (fc c) e)) (hc:oo N c) (hN:N<=12) (hd:Dn Bc 1000 c) (B0:0 < Bc) (bB:Bt 1000 Bc) (hx:Sz 2600 x) (hy:Sz 2600 y) (w:k (B (qo (vR c x y))) S):dF [.ref b,BP (qo x) (qo y),.tup [.int 2,.int 1]] S k:=by
 refine⟨b,c,e,qo x,qo y,2,Bc,_,_,N,2600,0,rfl,hb,hc,hN,hd.up (by decide),B0,bB,by decide,B7 hx hy,by decide,?_⟩
 rw [AM hc.two];exact w
theorem Ca {c:Zr} {N T n:Nat} {x y:Rat} {Bc:Int} (hc:oo N c) (hN:N<=6) (hd:Dn Bc T c) (hT:T<=40000) (B0:0 < Bc) (bB:Bt 1000 Bc) (hx:Sz n x) (hy:Sz n y) (hn:n<=2600):Sz 100000 (vR c x y):=by
 have h:=B7 hx hy;have lc:=hc.len (by omega)
 have Nw:N*(n+8)<=6*2608:=Nat.mul_le_mul hN (by omega)
 have Nw2:N*n<=N*(n+8):=Nat.mul_le_mul_left _ (by omega)
 have M0:0 < Bc*((x.den:Int) ^ N*(y.den:Int) ^ N):=Int.mul_pos B0 (Int.mul_pos (Int.pow_pos h.px) (Int.pow_pos h.py));have bM:Bt 100000 (Bc*((x.den:Int) ^ N*(y.den:Int) ^ N)):=(bB.mul ((gP h.bx N).mul (gP h.by_ N))).mono
 have v:=h.val (u:=2) (T:=T) (N:=N) (by decide) c (s:=(0,0)) (n:=0) hc.sm hd Oq.zero
 have e:mK ((2:Int):Rat) (qo x) (qo y) c (0,0)=qo (vR c x y):=AM hc.two;rw [e] at v;exact(v.sq M0 bM (by omega)).a
def fK:cH:=λds S k=>∃ (a b:MR) (c:Zr) (g:Zi) (e1 e2:Nat) (x0 y0 p x y:Rat) (Bc:Int),ds=[.ref a,ii (.invert x0 y0 p),.ref b,BP (qo x) (qo y)]/\S a=some (bH (fc c) e1)/\oo 3 c/\Dn Bc 1000 c/\0 < Bc/\Bt 1000 Bc/\S b=some (bH (sZ g) e2)/\Tg 6 g/\(∀ p∈g,Bt 40000 p.2)/\fZ (.invert x0 y0 p)/\ig (.invert x0 y0 p)/\Sz 4 x/\Sz 4 y/\(rq (x - x0) (y - y0)=0->∀ S',aK S S'->k .non S')/\(rq (x - x0) (y - y0)≠0->∀ S',aK S S'->Sz 100000 (vR c (kN x0 y0 p x y).1 (kN x0 y0 p x y).2)->Sz 100000 (vq g x y)->k (.tup [fr (vR c (kN x0 y0 p x y).1 (kN x0 y0 p x y).2),fr (vq g x y),fr (rq (x - x0) (y - y0))]) S')
theorem kr:au ["curve","lead","found","point","back_v"] ["curve","lead","found","point"] (ap iN):=dX
theorem qw (Fn:FN K "_law_shares" iN f fd) (fy:bj P w K mg base "_law_led" 37 lM) (jr:bj P w K mg base "_law_round" 36 mI) (bD:bj P w K mg base "_law_value" 37 dF):
  aT P w K mg base c8 38 f fd ["curve","lead","found","point"] (dk K fK):=by
 refine Fn.okJ kr (λds S k h=>?_) (λcdv A outer s H E hr=>⟨_,(af (ai (i:=4) kr.nd (dq fy hr (aG 1 (aG 3 (aa (aq (aa ae (aa ae ac))) ac))))) (af (aE (ax GQ (ah 4) fu (aA _)) (aj (ao fu)) aF) (aj (ao (aq (aa (bq bG (dq bD hr (aG 0 (aG 4 (aa (aq (aa ae (aa ae ac))) ac)))) ae Zf) (aa (bq bG (dq bD hr (aG 2 (aG 3 (aa (aq (aa ae (aa ae ac))) ac)))) ae Zf) (aa (dq jr hr (aG 1 (aG 3 ac))) ac)))))))),λds S k h=>?_⟩)
 ·obtain⟨_,_,_,_,_,_,_,_,_,_,_,_,rfl,_⟩:=h
  rfl
 ·obtain⟨a,b,c,g,e1,e2,x0,y0,p,x,y,Bc,rfl,ha,hc,hd,B0,bB,hb,hg,bg,ok,sz,hx,hy,w0,w1⟩:=h;have hx24:=hx.mono (show 4<=24 by decide)
  have hy24:=hy.mono (show 4<=24 by decide)
  refine⟨few,.invert x0 y0 p,x,y,4,rfl,ok,sz,hx,hy,by decide,λe S1 s1=>?_,λa' b' e za zb S1 s1=>?_⟩
  ·have e:(if rq (x - x0) (y - y0)=0 then none else some (kN x0 y0 p x y))=none:=e
   by_cases z:rq (x - x0) (y - y0)=0
   ·exact w0 z S1 s1
   ·rw [if_neg z] at e;cases e
  ·have e:(if rq (x - x0) (y - y0)=0 then none else some (kN x0 y0 p x y))=some (a',b'):=e
   by_cases z:rq (x - x0) (y - y0)=0
   ·rw [if_pos z] at e;cases e
   ·rw [if_neg z] at e;have e:kN x0 y0 p x y=(a',b'):=Ma e;rw [e] at w1;refine⟨few,?_⟩;dsimp only [jX];refine EM (s1 _ _ ha) hc (by decide) hd B0 bB (za.mono) (zb.mono) ⟨few,?_⟩
    dsimp only [jX];refine Ek (s1 _ _ hb) hg (by decide) bg hx hy (by decide) ?_
    refine⟨x0,y0,p,x,y,rfl,sz.1,sz.2.1,hx24,hy24,λS2 s2=>⟨few,w1 z S2 (s1.trans s2) (Ca hc (by decide) hd (by decide) B0 bB za zb (by decide)) ?_⟩⟩
    rw [<- jt];exact Ca (kO hg) (by decide) (wc bg) (by decide) (by decide) (Es.mono) hx hy (by decide)
theorem E5 {α:Type} [DecidableEq α] {a:α} {l:List α} (h:∀ x∈l,x=a):(ST.dd l).length<=1:=by
 have go:∀ (l acc:List α),(∀ x∈l,x=a)->(acc=[]\/acc=[a])->(l.foldl ST.kf acc).length<=1:=λl=>by
  induction l with
  | nil=>
   intro acc _ h;rcases h with rfl | rfl
   ·exact Mw _
   ·exact LD _
  | cons x l ih=>
   intro acc hl ha;refine ih _ (λy hy=>hl y (LM _ hy)) ?_
   have ex:=hl x LL;subst ex;rcases ha with rfl | rfl
   ·right
    unfold ST.kf;simp
   ·right
    unfold ST.kf;simp
 exact go l [] h (.inl rfl)
def ow (r:Rat×Rat×Rat):D:=.tup [fr r.1,fr r.2.1,fr r.2.2]
def i5:cH:=λds S k=>∃ (p:MR) (rows:List (Rat×Rat×Rat)) (most:Int) (s:Nat) (κ:Rat),ds=[.ref p,.int most]/\S p=some (.lst (rows.map ow))/\rows.length<=6/\(s:Int)<=most/\most<=12/\(∀ r∈rows,Sz 100000 r.1/\Sz 100000 r.2.1/\Sz 200 r.2.2/\r.2.2≠0/\r.2.1=κ*r.2.2 ^ s*r.1)/\∀ S' (m:Nat),aK S S'->m<=s->k (.int m) S'
theorem a9:au ["rows","most","many","shares","near","far","square","turn"] ["rows","most"] (ap fi):=dX
theorem mB (Fn:FN K "_law_one_power" fi f fd) (ay:bj P w K mg base "_law_times" 35 dG) (aC:bj P w K mg base "_law_ratio" 34 bO) (aB:mg "range"=none) (jV:mg "len"=none) (zS:mg "set"=none):
  aT P w K mg base c8 36 f fd ["rows","most"] (dk K i5):=by
 refine Fn.okJ a9 (λds S k h=>?_) (λcdv A outer s H E hr=>⟨_,(af (cV PassesOwn.never rfl rfl aB (aa (aw cS (ah 1) ae) ac) (ar (i:=2) a9.nd) (af (ai (i:=3) a9.nd (f_ ac)) (af (d_ PassesOwn.never rfl (ah 0) (gC (n:=3) rfl (aW (ar (i:=4) a9.nd) (aW (ar (i:=5) a9.nd) (aW (ar (i:=6) a9.nd) eY)))) (af (cV PassesOwn.never rfl rfl aB (aG 2 ac) (ar (i:=7) a9.nd) (aj (ai (i:=4) a9.nd (dq ay hr (aG 4 (aG 6 ac)))))) (aj (aE (ax uJ (aJ 4) ae (aA _)) (aj (kQ (sn (ah 3) (dq ay hr (aG 5 (aa (dq aC hr (aa (aJ 4) (aa (aJ 4) ac))) ac)))))) aF)))) (aj (aE (ax xX (wa hr rfl rfl jV tM rfl zS Hh (ah 3)) ae (aA _)) (aj (ao (ah 2))) aF))))) (aj (ao fu))),λds S k h=>?_⟩)
 ·obtain⟨_,_,_,_,_,rfl,_⟩:=h
  rfl
 ·obtain⟨p,rows,most,s,κ,rfl,hp,hl,sm,m12,hr,w⟩:=h;refine⟨⟨by omega,by omega⟩,?_⟩
  refine aL (λr L S'=>aK S S'/\∃ (m:Nat) (l2 l3 l4 l5 l6 l7:MS D),m<=s/\r=(List.range' m ((most+1).toNat - m)).map (λi:Nat=>D.int (i:Int))/\L=[some (.ref p),some (.int most),l2,l3,l4,l5,l6,l7]) (λ_ _ _ _=>trivial) ?_ ?_ _ _ _ ⟨aK.refl _,0,none,none,none,none,none,none,Mw _,by rw [List.range_eq_range']; rfl,rfl⟩
  ·rintro d r L S1 N1 ⟨x1,m,l2,l3,l4,l5,l6,l7,ms,er,rfl⟩ hN1;cases hds:(most+1).toNat - m with
   | zero=>rw [hds] at er; cases er
   | succ s'=>
    rw [hds,List.range'_succ,LP] at er;cases er;refine⟨few,λq hq=>⟨(rows.map ow,some p),by simp only [aR]; rw [aI hq (x1 _ _ hp)],?_⟩⟩
    have npq:p≠q:=fo (x1 _ _ hp) hq;refine aL (λr L S'=>aK S1 S'/\S' p=some (.lst (rows.map ow))/\∃ (don am:List (Rat×Rat×Rat)) (qs:List Rat) (l4 l5 l6 l7:MS D),rows=don++am/\r=am.map ow/\S' q=some (.lst (qs.map fr))/\qs.length<=don.length/\(∀ v∈qs,∃ r∈rows,r.1≠0/\v=r.2.1*(1 / (r.1*r.2.2 ^ m)))/\L=[some (.ref p),some (.int most),some (.int (m:Int)),some (.ref q),l4,l5,l6,l7]) (λr L S' h=>h.2.1) ?_ ?_ _ _ _ ⟨aK.new hq,aI hq (x1 _ _ hp),[],rows,[],l4,l5,l6,l7,rfl,rfl,ak,LD _,λv h=>(nomatch h),rfl⟩
    ·rintro d r L S2 N2 ⟨x2,hp2,don,am,qs,l4,l5,l6,l7,ec,er,hq2,ql,hv,rfl⟩ hN2;cases am with
     | nil=>cases er
     | cons u am=>
      cases er;have hu:u∈rows:=by rw [ec]; simp
      obtain⟨z1,z2,z3,n3,ev⟩:=hr u hu;have dl:don.length < 6:=by have:=congrArg List.length ec; rw [LY,LQ] at this; omega
      refine⟨([fr u.1,fr u.2.1,fr u.2.2],none),rfl,rfl,rfl,⟨by omega,by omega⟩,?_⟩
      have szp:∀ t:Nat,t<=12->Sz (100000+t*200) (u.1*u.2.2 ^ t):=λt ht=>by
       induction t with
       | zero=>rw [Rat.pow_zero,Rat.mul_one]; exact z1.mono
       | succ t ih=>
        have h:=(ih (by omega)).mul z3
        rw [Rat.pow_succ,<- Rat.mul_assoc];exact h.mono
      refine aL (λr L S'=>S'=S2/\∃ (t:Nat) (l7:MS D),t+r.length=m/\L=[some (.ref p),some (.int most),some (.int (m:Int)),some (.ref q),some (fr (u.1*u.2.2 ^ t)),some (fr u.2.1),some (fr u.2.2),l7]) (λ_ _ _ _=>trivial) ?_ ?_ _ _ _ ⟨rfl,0,l7,by rw [LG,List.length_range]; show 0+(m:Int).toNat=m; omega,by rw [Rat.pow_zero,Rat.mul_one]; rfl⟩
      ·rintro d r L S3 N3 ⟨rfl,t,l7,ht,rfl⟩ hN3;have ht:t+(r.length+1)=m:=ht;have sp:=(szp t (by omega)).mono (show 100000+t*200<=400000 by omega)
       have z3':=z3.mono (show 200<=400000 by decide)
       exact⟨_,_,_,_,_,rfl,az _ _,sp.num,sp.den,z3'.num,z3'.den,c6 _ _,hN3 _ _ ⟨rfl,t+1,_,by omega,by rw [Rat.pow_succ,<- Rat.mul_assoc]; rfl⟩⟩
      ·rintro L S3 ⟨rfl,t,l7,ht,rfl⟩;have ht:t+0=m:=ht;have et:t=m:=by omega
       subst et;have sp:=szp t (by omega)
       refine pY (λn0=>?_) (λn0=>hN2 _ _ ⟨x2,hp2,don++[u],am,qs,_,_,_,_,by rw [ec]; simp,rfl,hq2,by rw [LY]; omega,hv,rfl⟩)
       have n1:u.1*u.2.2 ^ t≠0:=λz=>n0 (by rw [z]; rfl)
       refine⟨⟨_,hq2⟩,_,_,rfl,n0,sp.num.mono,?_⟩
       rw [wd n1];have si:=(tK sp n1).mono (show 100000+t*200<=400000 by omega)
       have z2':=z2.mono (show 100000<=400000 by decide)
       refine⟨_,_,_,_,_,rfl,az _ _,z2'.num,z2'.den,si.num,si.den,c6 _ _,_,hq2,by rw [LG]; exact sY (by omega),hN2 _ _ ⟨x2.put hq,by rw [bI npq]; exact hp2,don++[u],am,qs++[u.2.1*(1 / (u.1*u.2.2 ^ t))],_,_,_,_,by rw [ec]; simp,rfl,by rw [ak,List.map_append]; rfl,by rw [LY,LY]; show qs.length+1<=don.length+1; omega,λv hv'=>?_,rfl⟩⟩
       rcases List.mem_append.mp hv' with h | h
       ·exact hv v h
       ·exact⟨u,hu,λz=>n1 (by rw [z,Rat.zero_mul]),List.mem_singleton.mp h⟩
    ·rintro L S2 ⟨x2,hp2,don,am,qs,l4,l5,l6,l7,ec,er,hq2,ql,hv,rfl⟩;cases am with
     | cons u am=>cases er
     | nil=>
      rw [L0] at ec;subst ec;have e1:qs.map fr=(qs.map λv:Rat=>[v.num,(v.den:Int)]).map λns=>D.tup (ns.map D.int):=by rw [Mk]; rfl
      refine⟨qs.map λv:Rat=>[v.num,(v.den:Int)],by rw [<- e1]; exact hq2,by rw [LG]; omega,b_ (λz=>w S2 m (x1.trans x2) ms) (λz=>hN1 _ _ ⟨x1.trans x2,m+1,_,_,_,_,_,_,?_,by rw [show (most+1).toNat - (m+1)=s' by omega],rfl⟩)⟩
      refine Nat.lt_of_le_of_ne ms λem=>z ?_
      subst em;have:=E5 (a:=[κ.num,(κ.den:Int)]) (l:=qs.map λv:Rat=>[v.num,(v.den:Int)]) λx hx=>by
       obtain⟨v,hv',rfl⟩:=LF.mp hx;obtain⟨r,hr',r0,ev⟩:=hv v hv';obtain⟨_,_,_,n3,er⟩:=hr r hr';have:v=κ:=by
        rw [ev,er];have p0:=vh n3 m;generalize r.2.2 ^ m=ρ at p0;generalize r.1=α at r0;have h1:1 / (α*ρ)*(α*ρ)=1:=by
         have:α*ρ≠0:=λz=>(LR.mp z).elim r0 p0
         grind
        generalize 1 / (α*ρ)=τ at h1;have:κ*ρ*α*τ=κ*(τ*(α*ρ)):=by grind
        rw [this,h1,Rat.mul_one]
       rw [this]
      omega
  ·rintro L S1 ⟨x1,m,l2,l3,l4,l5,l6,l7,ms,er,rfl⟩;cases hds:(most+1).toNat - m with
   | succ s'=>rw [hds,List.range'_succ] at er; cases er
   | zero=>omega
def iY:cH:=λds S k=>∃ (a:MR) (c:Zr) (ep:Nat) (x0 y0 p:Rat),ds=[.ref a,ii (.invert x0 y0 p)]/\S a=some (bH (fc c) ep)/\c≠[]/\oo 12 c/\(∃ Bc,Dn Bc 40000 c/\0 < Bc/\Bt 1000 Bc)/\Sz 24 x0/\Sz 24 y0/\∀ S' b,aK S S'->(b=true↔¬ zf x0 y0 c)->k (.bl b) S'
theorem eN:au ["curve","lead","far","point"] ["curve","lead"] (ap fg):=dX
theorem mz (Fn:FN K "_law_has_round" fg f fd) (aQ:bj P w K mg base "_law_plus" 35 eo) (bD:bj P w K mg base "_law_value" 37 dF) (aB:mg "range"=none) (eu:mg "max"=none) (kX:mg "sum"=none):
  aT P w K mg base c8 38 f fd ["curve","lead"] (dk K iY):=by
 refine Fn.okJ eN (λds S k h=>?_) (λcdv A outer s H E hr=>⟨_,(af (cV PassesOwn.never rfl rfl aB (aa (aw cS ae (aw bK ae (bp tU rfl eu ku (aa (i7 rfl (cB (N:=["powers"]) (cap:=[none]) rfl rfl rfl rfl trivial rfl rfl trivial) (fJ (ah 0)) (λ_ _ _ _=>(ar (i:=0) (show List.Nodup (["powers"]:List Str) from by decide +kernel))) (λ_ _ _ _=>(bp sE rfl kX qe (aG 0 ac)))) ac)))) ac) (ar (i:=2) eN.nd) (af (ai (i:=3) eN.nd (aq (aa (aq (aa (dq aQ hr (aa (aJ 1) (aa (aq (aG 2 (aa ae ac))) ac))) (aa (aq (aa ae (aa ae ac))) ac))) (aa (aq (aa (aJ 1) (aa (aq (aG 2 (aa ae ac))) ac))) ac)))) (aj (aE (ax (D_ hr) (dq bD hr (aG 0 (aG 3 (aa (aq (aa (eE eF ae) (aa ae ac))) ac)))) (aq (aa (aq (aa ae (aa ae ac))) (aa (aq (aa ae (aa ae ac))) ac))) (aA _)) (aj (ao fN)) aF)))) (aj (ao fN))),λds S k h=>?_⟩)
 ·obtain⟨_,_,_,_,_,_,rfl,_⟩:=h
  rfl
 ·obtain⟨a,c,ep,x0,y0,p,rfl,ha,ne,hc,⟨Bc,hd,B0,bB⟩,hx,hy,w⟩:=h;have lc:=hc.len (by decide)
  refine⟨_,_,ha,λq hq=>?_⟩
  rw [ux];refine mi (S:=S) hq ha hc.sm (λS1 x1 h1=>?_) c [] none _ rfl (aK.new hq) ak (by omega)
  refine⟨_,h1,λz=>ne (List.map_eq_nil_iff.mp z),λm hm mx=>?_⟩
  have m0:0<=m/\m<=12:=by
   obtain⟨q,hq,e⟩:=LF.mp hm;obtain⟨i,j,ek,i0,j0,ij⟩:=hc.sm q hq;have e:dg q.1=m:=e;rw [ek] at e;have e:i+j=m:=e;omega
  have hcm:oo m.toNat c:=⟨hc.nd,λp hp=>by
   obtain⟨i,j,ek,i0,j0,ij⟩:=hc.sm p hp;have:=mx (dg p.1) (LF.mpr ⟨p,hp,rfl⟩);rw [ek] at this;have:i+j<=m:=this;exact⟨i,j,ek,i0,j0,by omega⟩⟩
  refine⟨iF (m:=2) (n:=5) (by decide) (by unfold Bt; omega) (by decide),⟨by omega,by omega⟩,?_⟩
  refine aL (λr L S'=>aK S S'/\∃ (f:Nat) (l2 l3:MS D),f<=(2+2*m).toNat/\r=(List.range' f ((2+2*m).toNat - f)).map (λi:Nat=>D.int (i:Int))/\L=[some (.ref a),some (ii (.invert x0 y0 p)),l2,l3]/\∀ n:Nat,n < f->oK (-1) c (x0+((n:Int):Rat),0) (y0,((n:Int):Rat))=(0,0)) (λ_ _ _ _=>trivial) ?_ ?_ _ _ _ ⟨x1,0,none,none,Mw _,by rw [List.range_eq_range']; rfl,rfl,λn h=>absurd h (by omega)⟩
  ·rintro d r L S2 N2 ⟨x2,f,l2,l3,fm,er,rfl,hz⟩ hN2;cases hds:(2+2*m).toNat - f with
   | zero=>rw [hds] at er; cases er
   | succ s'=>
    rw [hds,List.range'_succ,LP] at er;cases er;have bf:Bt 6 (f:Int):=by unfold Bt; omega
    have sf:Sz 6 ((f:Int):Rat):=⟨bf,by show Bt 6 1; decide⟩
    have sx:=hx.add sf;have sy:Oq (y0.den:Int) 40 (y0,((f:Int):Rat)):=⟨⟨y0.num,hy.num.mono,by rw [kg]⟩,⟨(y0.den:Int)*(f:Int),(hy.den.mul bf).mono,by rw [LB]⟩⟩
    have pt:Ck 40 (x0+((f:Int):Rat),0) (y0,((f:Int):Rat)) (((x0+((f:Int):Rat)).den:Nat):Int) (y0.den:Int):=⟨(Oq.o sx).mono,sy,kA _,kA _,sx.den.mono,hy.den.mono⟩
    have hx4:=hx.mono (show 24<=400000 by decide)
    have sf4:=sf.mono (show 6<=400000 by decide)
    refine⟨few,_,_,_,_,_,rfl,az x0 ((f:Int):Rat),hx4.num,hx4.den,sf4.num,sf4.den,jo x0 ((f:Int):Rat),few,few,few,few,few,few,?_⟩;refine⟨a,c,ep,(x0+((f:Int):Rat),0),(y0,((f:Int):Rat)),-1,Bc,_,_,12,40,0,rfl,x2 _ _ ha,hc,by decide,hd,B0,bB,by decide,pt,by decide,few,few,few,?_⟩
    rw [vZ,x_,show((-1:Int):Rat)=-1 from rfl]
    generalize hv:oK (-1) c (x0+((f:Int):Rat),0) (y0,((f:Int):Rat))=v;refine⟨_,BJ (n:=7) (Bq (n:=6) (p:=v.1) (q:=0)) (Bq (n:=6) (p:=v.2) (q:=0)),Bv (λz=>w S2 false x2 ⟨λt=>(nomatch t),λt=>absurd (λall=>?_) t⟩) (λz=>hN2 _ _ ⟨x2,f+1,_,_,by omega,by rw [show (2+2*m).toNat - (f+1)=s' by omega],rfl,λn hn=>?_⟩)⟩
    ·have h3:=all ((f:Int):Rat);rw [show ((x0+1*((f:Int):Rat),(0:Rat)+0*((f:Int):Rat)):Q)=(x0+((f:Int):Rat),0) from LX (by grind) (by grind),show((y0+0*((f:Int):Rat),(0:Rat)+1*((f:Int):Rat)):Q)=(y0,((f:Int):Rat)) from LX (by grind) (by grind),hv] at h3
     rw [h3] at z;exact absurd z (by decide)
    ·rcases Nat.lt_or_ge n f with h | h
     ·exact hz n h
     ·have en:n=f:=by omega
      rw [en,hv];simp only [Mj,decide_eq_true_eq] at z;exact LX z.1 z.2
  ·rintro L S2 ⟨x2,f,l2,l3,fm,er,rfl,hz⟩;cases hds:(2+2*m).toNat - f with
   | succ s'=>rw [hds,List.range'_succ] at er; cases er
   | zero=>
    refine w S2 true x2 ⟨λ_ ng=>?_,λ_=>rfl⟩
    obtain⟨n,hn,h1⟩:=ng.few hcm.sm;exact h1 (hz n (by omega))
def eX:cH:=λds S k=>∃ (a:MR),ds=[.ref a,.bl false]/\on S a/\∀ x y S',Sz 4 x->Sz 4 y->Dr a S S'->k (BP (qo x) (qo y)) S'
theorem cA:au ["state","rooted","point","k","by"] ["state","rooted"] (ap eV):=dX
theorem k_ (Fn:FN K "_law_pair_point" eV f fd) (aH:bj P w K mg base "_law_take" 1 eh) (av:bj P w K mg base "_law_fraction" 35 ca) (aB:mg "range"=none) (fb:mg "tuple"=none):
  aT P w K mg base c8 36 f fd ["state","rooted"] (dk K eX):=by
 refine Fn.okJ cA (λds S k h=>?_) (λcdv A outer s H E hr=>⟨_,(af (ai (i:=2) cA.nd (f_ ac)) (af (cV PassesOwn.never rfl rfl aB (aa ae ac) (ar (i:=3) cA.nd) (af (ai (i:=4) cA.nd (aq (aa ae (aa ae ac)))) (af (aE (WJ.pt (oP (iu (ah 1)) (mC (ax Cg (dq aH hr (aG 0 (aa ae ac))) ae (aA _))))) (aj (ai (i:=4) cA.nd (dq av hr (aG 0 (aa ae ac))))) aF) (aj (kQ (sn (ah 2) (aq (aa (dq av hr (aG 0 (aa ae ac))) (aG 4 ac))))))))) (aj (ao (du mE rfl fb ki (aG 2 ac)))))),λds S k h=>?_⟩)
 ·obtain⟨_,rfl,_⟩:=h
  rfl
 ·obtain⟨a,rfl,hS,w⟩:=h;refine⟨few,λq hq=>⟨⟨by decide,by decide⟩,?_⟩⟩
  have qa':q≠a:=hS.ne hq;refine aL (λr' L S'=>∃ (zs:List Rat) (l3 l4:MS D),L=[some (.ref a),some (.bl false),some (.ref q),l3,l4]/\Dr a S S'/\S' q=some (.lst (zs.map λx=>B (qo x)))/\(∀ x∈zs,Sz 4 x)/\zs.length+r'.length=2) (λ_ _ _ _=>trivial) ?_ ?_ _ _ _ ⟨[],_,_,rfl,Dr.new hS hq,ak,(λ_ h=>nomatch h),rfl⟩
  ·rintro d r' L S1 N1 ⟨zs,l3,l4,rfl,D1,h1,hok,hlen⟩ hN;have hlen:zs.length+(r'.length+1)=2:=hlen;refine⟨few,⟨_,h1⟩,a,4,rfl,by decide,by decide,D1.1,λx S3 hx d3=>⟨few,_,d3.2 q _ qa' h1,by rw [LG]; exact sY (by omega),hN _ _ ⟨zs++[x],_,_,rfl,Dr.put (D1.trans d3) hq qa',by rw [ak,List.map_append]; rfl,λy hy=>?_,by rw [LY]; show zs.length+1+r'.length=2; omega⟩⟩⟩
   rcases List.mem_append.mp hy with h | h
   ·exact hok y h
   ·rw [List.mem_singleton.mp h]; exact hx
  ·rintro L S1 ⟨zs,l3,l4,rfl,D1,h1,hok,hlen⟩
   match zs,hlen with
   | [x,y],_=>exact⟨_,h1,w x y S1 (hok x (by simp)) (hok y (by simp)) D1⟩
def iK:cH:=λds S k=>∃ (a:MR),ds=[.ref a]/\on S a/\∀ (ps:List (Rat×Rat)) S' q,(∀ p∈ps,Sz 4 p.1/\Sz 4 p.2)->ps.length<=6->Dr a S S'->S' q=some (.lst (ps.map λp=>BP (qo p.1) (qo p.2)))->q≠a->k (.ref q) S'
theorem pS:au ["state"] ["state"] (ap iR):=dX
theorem pL (Fn:FN K "_law_points" iR f fd) (e_:bj P w K mg base "_law_pair_point" 36 eX) (aB:mg "range"=none):
  aT P w K mg base c8 37 f fd ["state"] (dk K iK):=by
 refine Fn.okJ pS (λds S k h=>?_) (λcdv A outer s H E hr=>⟨_,(aj (ao (i6 rfl (cB (N:=["k","state"]) (cap:=[none,some 0]) rfl rfl rfl rfl ⟨rfl,trivial⟩ rfl rfl ⟨⟨rfl,.inl rfl,.inl rfl⟩,trivial⟩) rfl aB (aa ae ac) (λ_ _ _ _=>(ar (i:=0) (show List.Nodup (["k","state"]:List Str) from by decide +kernel))) (λ_ _ _ _=>(dq e_ hr (aG 1 (aa fN ac))))))),λds S k h=>?_⟩)
 ·obtain⟨_,rfl,_⟩:=h
  rfl
 ·obtain⟨a,rfl,hS,w⟩:=h;refine⟨by decide,λq hq=>?_⟩
  have qa':q≠a:=hS.ne hq;have go:∀ (r:List D) (ps:List (Rat×Rat)) (l0:MS D) (S1:DH),(∀ p∈ps,Sz 4 p.1/\Sz 4 p.2)->ps.length+r.length=6->Dr a S S1->S1 q=some (.lst (ps.map λp=>BP (qo p.1) (qo p.2)))->aX (λ_=>True) q (dU 0) (eQ (jS eX (cj (cJ 1) (cj (dC (D.bl false)) jX)))) k r (ps.map λp=>BP (qo p.1) (qo p.2)) [l0,some (.ref a)] S1:=λr=>by
   induction r with
   | nil=>
    intro ps l0 S1 hps hl d1 h1;exact⟨trivial,w ps S1 q hps (by have:ps.length+0=6:=hl; omega) d1 h1 qa'⟩
   | cons d r ih=>
    intro ps l0 S1 hps hl d1 h1;have hl:ps.length+(r.length+1)=6:=hl;refine⟨trivial,a,rfl,d1.1,λx y S2 hx hy d2=>⟨d2.2 q _ qa' h1,by rw [LG]; exact sY (by omega),?_⟩⟩
    have ea:(ps.map λp=>BP (qo p.1) (qo p.2))++[BP (qo x) (qo y)]=(ps++[(x,y)]).map λp=>BP (qo p.1) (qo p.2):=by rw [List.map_append]; rfl
    rw [ea];exact ih (ps++[(x,y)]) _ _ (λp hp=>by
     rcases List.mem_append.mp hp with h | h
     ·exact hps p h
     ·rw [List.mem_singleton.mp h]; exact⟨hx,hy⟩) (by rw [LY]; show ps.length+1+r.length=6; omega) (Dr.put (d1.trans d2) hq qa') ak
  exact go _ [] none _ (λp h=>(nomatch h)) rfl (Dr.new hS hq) ak
theorem oo.deg {N:Nat} {c:Zr} (h:oo N c) (ne:c≠[]):∃ d:Nat,d<=N/\oo d c/\∀ m:Int,m∈(c.map λx=>dg x.1)->(∀ x∈(c.map λx=>dg x.1),x<=m)->m=(d:Int):=by
 have ht:Tg N (c.map λp=>(p.1,(1:Int))):=⟨by rw [Mk]; exact h.nd,λp hp=>by
  obtain⟨q,hq,rfl⟩:=LF.mp hp;exact h.sm q hq⟩
 obtain⟨d,⟨⟨p,hp,e⟩,hd⟩,dN,htd⟩:=ht.deg (λz=>ne (List.map_eq_nil_iff.mp z))
 obtain⟨p',hp',rfl⟩:=LF.mp hp;refine⟨d,dN,⟨h.nd,λq hq=>htd.sm (q.1,1) (LF.mpr ⟨q,hq,rfl⟩)⟩,λm hm mx=>?_⟩
 have h1:=mx _ (LF.mpr ⟨p',hp',rfl⟩);obtain⟨q,hq,eq⟩:=LF.mp hm;have h2:=hd (q.1,1) (LF.mpr ⟨q,hq,rfl⟩);have e:dg p'.1=(d:Int):=e;have eq:dg q.1=m:=eq;have h2:dg q.1<=(d:Int):=h2;omega
theorem sR {N:Nat}:∀ {ls:List Ld},m9 N ls<=N*2 ^ ls.length
 | []=>by show N<=N*1; omega
 | l::ls=>by
  show(if cu l=true then m9 (2*N) ls else m9 N ls)<=N*2 ^ (ls.length+1)
  rw [Nat.pow_succ]
  split
  ·have:=sR (N:=2*N) (ls:=ls);rw [show N*(2 ^ ls.length*2)=2*N*2 ^ ls.length by grind]
   exact this
  ·have:=sR (N:=N) (ls:=ls);have h2:N*2 ^ ls.length<=N*(2 ^ ls.length*2):=Nat.mul_le_mul_left _ (by omega)
   omega
theorem oS {N:Nat}:∀ {ls:List Ld},N*2 ^ ls.length<=12->u7 N ls
 | [],h=>by show N<=12; have h:N*1<=12:=h; omega
 | l::ls,h=>by
  have h:N*2 ^ (ls.length+1)<=12:=h;rw [Nat.pow_succ] at h;have p:1<=2 ^ ls.length:=Nat.one_le_two_pow;have h3:N*2<=N*(2 ^ ls.length*2):=Nat.mul_le_mul_left _ (by omega)
  refine⟨by omega,?_⟩
  split
  ·exact⟨by omega,oS (by rw [show 2*N*2 ^ ls.length=N*(2 ^ ls.length*2) by grind]; exact h)⟩
  ·have h2:N*2 ^ ls.length<=N*(2 ^ ls.length*2):=Nat.mul_le_mul_left _ (by omega)
   exact oS (by omega)
theorem o4 {l:Ld}:∀ {ls:List Ld} {N:Nat},m9 N (ls++[l])=m9 N ls*(if cu l then 2 else 1)
 | [],N=>by
  show(if cu l=true then 2*N else N)=N*(if cu l then 2 else 1)
  split
  ·omega
  ·omega
 | m::ls,N=>by
  show(if cu m=true then m9 (2*N) (ls++[l]) else m9 N (ls++[l]))=(if cu m=true then m9 (2*N) ls else m9 N ls)*_
  split
  ·exact o4
  ·exact o4
theorem Dr.pre {a:MR} {S S1 S2:DH} (x:aK S S1) (d:Dr a S1 S2):Dr a S S2:=⟨d.1,λb o n e=>d.2 b o n (x b o e)⟩
theorem B2 {N:Nat} {c:Zr} {ls:List Ld} {ns ns' g g':Zi} {M M':Nat} (hc:oo N c) (hN:oI c ns) (hN':oI c ns') (h:vA ls ns g) (h':vA ls ns' g') (hg:Tg M g) (hg':Tg M' g') (n:oI (kD g) g) (n':oI (kD g') g') (nz:∀ p∈g,p.2≠0) (nz':∀ p∈g',p.2≠0):Hu (sZ g') (sZ g) true:=by
 obtain⟨t,t0,v⟩:=hN.v hc;obtain⟨t',t0',v'⟩:=hN'.v hc;obtain⟨κ,k0,e⟩:=h.uniq h' (κ:=t' / t) (by grind) λx y=>by
  rw [v x y,v' x y];have h1:t' / t*t=t':=by grind
  generalize t' / t=r at h1;rw [<- h1];grind
 exact F3 hg hg' n n' nz nz' k0 e
def mG:cH:=λds S k=>∃ (a b p:MR) (c:Zr) (e:Nat) (ls:List Ld),ds=[.ref a,.ref b,.ref p]/\on S a/\S b=some (bH (fc c) e)/\KI c/\S p=some (.lst (ls.map ii))/\(∀ l∈ls,fZ l/\ig l)/\ls.length<=2/\p≠a/\∀ S',Dr a S S'->k (.bl true) S'
theorem bC:au ["state","curve","leads","found","most","lead","backwards","point","back_v","near","far"] ["state","curve","leads"] (ap jk):=dX
theorem qA (Fn:FN K "_law_right" jk f fd) (dw:bj P w K mg base "curve_led" 39 kh) (fh:bj P w K mg base "_law_is_normal" 2 iX) (fA:bj P w K mg base "_law_backwards" 35 i4) (c_:bj P w K mg base "_law_points" 37 iK) (ie:bj P w K mg base "_law_led_all" 38 kE) (bD:bj P w K mg base "_law_value" 37 dF) (fb:mg "tuple"=none) (eu:mg "max"=none) (kX:mg "sum"=none) (qf:mg "int"=none) (lF:mg "reversed"=none):
  aT P w K mg base c8 40 f fd ["state","curve","leads"] (dk K mG):=by
 refine Fn.okJ bC (λds S k h=>?_) (λcdv A outer s H E hr=>⟨_,(af (ai (i:=3) bC.nd (dq dw hr (aG 2 (aG 1 ac)))) (af (aE (WJ.pt (o9 (sw (iu (dq fh hr (aG 3 ac)))) (oF (ax (Eu hr) (dq dw hr (aa (du mE rfl fb ki (aG 2 ac)) (aG 1 ac))) (ah 3) (aA _))))) (aj (ao fN)) aF) (af (ai (i:=4) bC.nd (bp tU rfl eu ku (aa (i7 rfl (cB (N:=["powers"]) (cap:=[none]) rfl rfl rfl rfl trivial rfl rfl trivial) (fJ (ah 1)) (λ_ _ _ _=>(ar (i:=0) (show List.Nodup (["powers"]:List Str) from by decide +kernel))) (λ_ _ _ _=>(bp sE rfl kX qe (aG 0 ac)))) ac))) (af (d_ PassesOwn.never rfl (ah 2) (ar (i:=5) bC.nd) (aj (ai (i:=4) bC.nd (aw bK (ah 4) (bq bG (f_ (aa ae (aa ae ac))) (du Bp rfl qf vF (aa (lE (Ch hr) (aJ 5) bX (aA _)) ac)) Zf))))) (af (aE (ax Cg (bp tU rfl eu ku (aa (i7 rfl (cB (N:=["powers"]) (cap:=[none]) rfl rfl rfl rfl trivial rfl rfl trivial) (fJ (ah 3)) (λ_ _ _ _=>(ar (i:=0) (show List.Nodup (["powers"]:List Str) from by decide +kernel))) (λ_ _ _ _=>(bp sE rfl kX qe (aG 0 ac)))) ac)) (ah 4) (aA _)) (aj (ao fN)) aF) (af (sC (iv:=6) bC.nd rfl (cB (N:=["lead"]) (cap:=[none]) rfl rfl rfl rfl trivial rfl rfl trivial) rfl lF (aG 2 ac) (λ_ _ _ _=>(ar (i:=0) (show List.Nodup (["lead"]:List Str) from by decide +kernel))) (λ_ _ _ _=>(dq fA hr (aG 0 ac)))) (af (d_ PassesOwn.never rfl (dq c_ hr (aG 0 ac)) (ar (i:=7) bC.nd) (af (ai (i:=8) bC.nd (dq ie hr (aG 6 (aG 7 (aa (aq (aa ae (aa ae ac))) ac))))) (aj (aE (ax oR (ah 8) fu (aA _)) (af (ai (i:=9) bC.nd (dq bD hr (aG 1 (aG 8 (aa (aq (aa ae (aa ae ac))) ac))))) (af (ai (i:=10) bC.nd (dq bD hr (aG 3 (aG 7 (aa (aq (aa ae (aa ae ac))) ac))))) (aj (aE (ax (Eu hr) (lE (Ch hr) (bq bG (aJ 9) ae Zf) ae (aA _)) (lE (Ch hr) (bq bG (aJ 10) ae Zf) ae (aA _)) (aA _)) (aj (ao fN)) aF)))) aF)))) (aj (ao fN))))))))),λds S k h=>?_⟩)
 ·obtain⟨_,_,_,_,_,_,rfl,_⟩:=h
  rfl
 ·obtain⟨a,b,p,c,e,ls,rfl,hS,hb,hc,hp,hok,hl,npa,w⟩:=h;obtain⟨⟨nd,hl9,sm,hz⟩,cne,cnz⟩:=hc;obtain⟨Bc,B0,bB,hd⟩:=Eg (w:=30) (m:=9) hz hl9;have hc3:oo 3 c:=⟨nd,sm⟩;obtain⟨d,d3,hcd,dm⟩:=hc3.deg cne;have d12:d*2 ^ ls.length<=12:=Mi (Nat.mul_le_mul d3 (Nat.pow_le_pow_right (by decide) hl)) (by decide)
  have hdg:u7 d ls:=oS d12;have dE:m9 d ls<=12:=Mi sR d12;have bg40:∀ {g:Zi},(∀ p∈g,Bt (600+9700*ls.length) p.2)->∀ p∈g,Bt 40000 p.2:=λh p hp=>(h p hp).mono
  refine⟨.ref p,ls,b,c,e,d,600,Bc,rfl,.inr ⟨p,rfl,hp⟩,hok,by omega,hdg,hb,hcd,cne,cnz,B0,bB.mono,hd.up (by decide),by decide,by decide,λS1 q1 e1 ns g x1 hN hch hg hnm gnz bg h1=>?_⟩
  refine⟨q1,g,e1,rfl,h1,hnm,hg.up dE,gnz,λS2 x2=>?_⟩
  have X2:=x1.trans x2;refine⟨_,X2 _ _ hp,.tup (ls.map ii),ls,b,c,e,d,600,Bc,rfl,.inl rfl,hok,by omega,hdg,X2 _ _ hb,hcd,cne,cnz,B0,bB.mono,hd.up (by decide),by decide,by decide,λS3 q3 e3 ns' g' x3 hN' hch' hg' hnm' gnz' bg' h3=>?_⟩
  have h13:=x3 _ _ (x2 _ _ h1);have X3:=X2.trans x3;refine .inl ⟨_,_,_,_,true,h3,h13,B2 hc3 hN hN' hch hch' hg hg' hnm hnm' gnz gnz',?_⟩;have hb3:=X3 _ _ hb;refine⟨_,_,hb3,λq4 hq4=>?_⟩
  rw [ux];refine mi (S:=S3) hq4 hb3 (λp hp=>by obtain⟨i,j,ek,i0,j0,ij⟩:=sm p hp; exact⟨i,j,ek,i0,j0,by omega⟩) (λS4 x4 h4=>⟨_,h4,λz=>cne (List.map_eq_nil_iff.mp z),λm hm mx=>?_⟩) c [] none _ rfl (aK.new hq4) ak (by omega)
  have em:=dm m hm mx;subst em;have X4:=X3.trans x4;have hp4:=X4 _ _ hp;refine⟨(ls.map ii,some p),by simp only [aR]; rw [hp4],?_⟩
  refine aL (λr L S'=>aK S4 S'/\∃ (don am:List Ld) (l5:MS D),ls=don++am/\r=am.map ii/\L=[some (.ref a),some (.ref b),some (.ref p),some (.ref q1),some (.int (m9 d don:Nat)),l5,none,none,none,none,none]) (λr L S' h=>h.1 _ _ hp4) ?_ ?_ _ _ _ ⟨aK.refl _,[],ls,none,rfl,rfl,rfl⟩
  ·rintro dd r L S5 N5 ⟨x5,don,am,l5,ec,er,rfl⟩ hN5;cases am with
   | nil=>cases er
   | cons l am=>
    cases er;have dl:don.length<=2:=by have:=congrArg List.length ec; rw [LY,LQ] at this; omega
    have dd12:m9 d don<=12:=Mi sR (Mi (Nat.mul_le_mul d3 (Nat.pow_le_pow_right (by decide) dl)) (by decide))
    have bd:Bt 4 ((m9 d don:Nat):Int):=by unfold Bt; omega
    have fin:∀ (q6:MR) (o:DO),S5 q6=none->∀ v:Nat,v=(if cu l then 2 else 1)->N5 [some (.ref a),some (.ref b),some (.ref p),some (.ref q1),some (.int ((m9 d don:Nat)*(v:Int))),some (ii l),none,none,none,none,none] (put S5 q6 o):=λq6 o hq6 v hv=>hN5 _ _ ⟨x5.trans (aK.new hq6),don++[l],am,some (ii l),by rw [ec]; simp,rfl,by rw [o4,<- hv,Int.natCast_mul]⟩
    cases l with
    | shift x y=>exact⟨few,λq6 hq6=>⟨false,rfl,_,_,ak,rfl,iF (n:=2) bd (by decide),fin q6 _ hq6 1 rfl⟩⟩
    | grow x y b=>exact⟨few,λq6 hq6=>⟨false,rfl,_,_,ak,rfl,iF (n:=2) bd (by decide),fin q6 _ hq6 1 rfl⟩⟩
    | turn x y p q=>exact⟨few,λq6 hq6=>⟨false,rfl,_,_,ak,rfl,iF (n:=2) bd (by decide),fin q6 _ hq6 1 rfl⟩⟩
    | mirror x y p=>exact⟨few,λq6 hq6=>⟨false,rfl,_,_,ak,rfl,iF (n:=2) bd (by decide),fin q6 _ hq6 1 rfl⟩⟩
    | invert x y p=>exact⟨few,λq6 hq6=>⟨true,rfl,_,_,ak,rfl,iF (n:=2) bd (by decide),fin q6 _ hq6 2 rfl⟩⟩
  rintro L S5 ⟨x5,don,am,l5,ec,er,rfl⟩;cases am with
  | cons l am=>cases er
  | nil=>
   rw [L0] at ec;subst ec;have X5:=X4.trans x5;have h15:S5 q1=some (bH (fc (v0 g)) e1):=by rw [<- o5]; exact x5 _ _ (x4 _ _ h13)
   have lg:=hg.len dE;refine⟨_,_,h15,λq7 hq7=>?_⟩
   rw [ux];refine mi (S:=S5) hq7 h15 (λp hp=>by obtain⟨i,j,ek,i0,j0,ij⟩:=(kO hg).sm p hp; exact⟨i,j,ek,i0,j0,by omega⟩) (λS6 x6 h6=>⟨_,h6,λz=>qg hnm (List.map_eq_nil_iff.mp (List.map_eq_nil_iff.mp z)),λm hm mx=>?_⟩) (v0 g) [] none _ rfl (aK.new hq7) ak (by rw [LG]; omega)
   have hm1:m<=(m9 d ls:Nat):=by
    obtain⟨q,hq,e⟩:=LF.mp hm;obtain⟨i,j,ek,i0,j0,ij⟩:=(kO hg).sm q hq;have e:dg q.1=m:=e;rw [ek] at e;have e:i+j=m:=e;omega
   refine b_ (λz=>absurd z (by omega)) (λ_=>?_)
   have X6:=X5.trans x6;have hp6:=X6 _ _ hp;refine⟨_,hp6,λr1 hr1=>?_⟩
   rw [<- List.map_reverse];refine oY (f:=ii) (g:=λl=>ii (bk l)) (all:=ls.reverse) hr1 (λS' x=>x _ _ hp6) (λl S' k' hl' x h=>⟨l,rfl,(hok l (List.mem_reverse.mp hl')).1,(hok l (List.mem_reverse.mp hl')).2,h⟩) ls.reverse [] none (λ_ h=>h) (by rw [List.length_reverse]; show 0+ls.length<=100; omega) λS7 x7 h7=>?_
   have X7:=X6.trans x7;have S7a:on S7 a:=hS.ext X7;refine⟨a,rfl,S7a,λps S8 q8 hps hl8 d8 h8 n8=>⟨(ps.map λp=>BP (qo p.1) (qo p.2),some q8),by simp only [aR]; rw [h8],?_⟩⟩
   have nba:b≠a:=xo hS hb;have n1a:q1≠a:=xo (hS.ext x1) h1;have nra:r1≠a:=λz=>by
    obtain⟨_,_,e2,_⟩:=S7a;rw [z] at hr1;obtain⟨_,_,e3,_⟩:=hS.ext X6;rw [e3] at hr1;cases hr1
   have hb8:=d8.keep nba (X7 _ _ hb);have h18:S8 q1=some (bH (sZ g) e1):=d8.keep n1a (x7 _ _ (x6 _ _ (x5 _ _ (x4 _ _ h13))));have hr8:S8 r1=some (.lst ((ls.reverse.map bk).map ii)):=by
    have h7:S7 r1=some (.lst (ls.reverse.map λl=>ii (bk l))):=h7
    rw [Mk];exact d8.keep nra h7
   have D8:Dr a S S8:=Dr.pre X7 d8;obtain⟨t,t0,nv⟩:=hN.v hc3;have okb:∀ l∈ls.reverse.map bk,fZ l/\ig l:=λl hl'=>by
    obtain⟨m,hm,rfl⟩:=LF.mp hl';have:=hok m (List.mem_reverse.mp hm);exact⟨Ec this.1,EH this.1 this.2⟩
   have lb:(ls.reverse.map bk).length<=2:=by rw [LG,List.length_reverse]; exact hl
   refine aL (λr L S'=>aK S8 S'/\∃ (qs:List (Rat×Rat)) (l7 l8 l9 l10:MS D),r=(qs.map λp=>BP (qo p.1) (qo p.2))/\(∀ p∈qs,Sz 4 p.1/\Sz 4 p.2)/\L=[some (.ref a),some (.ref b),some (.ref p),some (.ref q1),some (.int (m9 d ls:Nat)),l5,some (.ref r1),l7,l8,l9,l10]) (λr L S' h=>h.1 _ _ h8) ?_ ?_ _ _ _ ⟨aK.refl _,ps,none,none,none,none,rfl,hps,rfl⟩
   ·rintro dd r L S9 N9 ⟨x9,qs,l7,l8,l9,l10,er,hqs,rfl⟩ hN9;cases qs with
    | nil=>cases er
    | cons z qs=>
     cases er;obtain⟨zx,zy⟩:=hqs z LL;have nx:∀ l8 l9 l10 S',aK S9 S'->N9 [some (.ref a),some (.ref b),some (.ref p),some (.ref q1),some (.int (m9 d ls:Nat)),l5,some (.ref r1),some (BP (qo z.1) (qo z.2)),l8,l9,l10] S':=λl8 l9 l10 S' x=>hN9 _ _ ⟨x9.trans x,qs,_,l8,l9,l10,rfl,λp hp=>hqs p (LM _ hp),rfl⟩
     refine⟨few,r1,ls.reverse.map bk,z.1,z.2,rfl,x9 _ _ hr8,okb,lb,zx,zy,λS10 x10=>nx _ _ _ S10 x10,λa' b' e3 za zb S10 x10=>?_⟩
     obtain⟨κ,k0,ev⟩:=hch.val z.1 z.2 a' b' e3;refine⟨few,?_⟩;dsimp only [jX];refine EM ((x9.trans x10) _ _ hb8) hc3 (by decide) (hd.up (by decide)) B0 (bB.mono) za zb ⟨few,?_⟩
     dsimp only [jX];refine Ek ((x9.trans x10) _ _ h18) hg dE (bg40 bg) zx zy (by decide) ?_
     have same:((vR c a' b').num == 0)=((vq g z.1 z.2).num == 0):=by
      rw [Bool.eq_iff_iff,beq_iff_eq,beq_iff_eq,MM,MM,ev,nv]
      constructor
      ·intro y;rw [y];grind
      ·intro y;rcases LR.mp y with y | y
       ·exact absurd y k0
       ·exact(LR.mp y).resolve_left t0
     refine⟨_,eq_int,_,eq_int,true,?_,nx _ _ _ S10 x10⟩
     show kW 8 (.bl ((vR c a' b').num == 0)) (.bl ((vq g z.1 z.2).num == 0))=some true
     rw [same];cases ((vq g z.1 z.2).num == 0) <;> rfl
   ·rintro L S9 ⟨x9,qs,l7,l8,l9,l10,er,hqs,rfl⟩;exact w S9 (D8.ext x9)
structure AC (c:Zr) (g:Zi) (x0 y0 p:Rat) (r:Rat×Rat×Rat):Prop where
 ex:∃ z:Rat×Rat,rq (z.1 - x0) (z.2 - y0)≠0/\Sz 4 z.1/\Sz 4 z.2/\r=(vR c (kN x0 y0 p z.1 z.2).1 (kN x0 y0 p z.1 z.2).2,vq g z.1 z.2,rq (z.1 - x0) (z.2 - y0))
 near:Sz 100000 r.1
 far:Sz 100000 r.2.1
def tL:MS (Rat×Rat×Rat)->D
 | none=>.non
 | some r=>ow r
theorem qu {S:DH} {p f:MR} {all:List (MS (Rat×Rat×Rat))} {k:DK} (hp:S p=none) (hf:S f=some (.lst (all.map tL))):∀ (am:List (MS (Rat×Rat×Rat))) (acc:List (Rat×Rat×Rat)) (l0:MS D) (S1:DH),aK S S1->S1 p=some (.lst (acc.map ow))->acc.length+am.length<=100->(∀ S2,aK S S2->S2 p=some (.lst ((acc++am.filterMap id).map ow))->k (.ref p) S2)->aX (fL (all.map tL,some f)) p (dU 0) (lT (nW (qG wb (cJ 0) (dC D.non))) (cJ 0)) k (am.map tL) (acc.map ow) [l0] S1
 | [],acc,l0,S1,x1,h1,_,w=>⟨x1 _ _ hf,w S1 x1 (by rw [List.filterMap_nil,L0]; exact h1)⟩
 | none::am,acc,l0,S1,x1,h1,hl,w=>by
  refine⟨x1 _ _ hf,?_⟩;exact qu hp hf am acc _ S1 x1 h1 (by rw [LQ] at hl; omega) w
 | some r::am,acc,l0,S1,x1,h1,hl,w=>by
  rw [LQ] at hl;refine⟨x1 _ _ hf,h1,by rw [LG]; exact sY (by omega),?_⟩
  have ea:acc.map ow++[tL (some r)]=(acc++[r]).map ow:=by rw [List.map_append]; rfl
  show aX _ _ _ _ _ _ (acc.map ow++[tL (some r)]) _ (put S1 p (.lst (acc.map ow++[tL (some r)])))
  rw [ea];refine qu hp hf am (acc++[r]) _ _ (x1.put hp) ak (by rw [LY]; show acc.length+1+am.length<=100; omega) λS2 x2 h2=>w S2 x2 ?_
  rw [h2,List.append_assoc]
  rfl
theorem xE {S:DH} {p f a b:MR} {pts:List (Rat×Rat)} {c:Zr} {g:Zi} {e1 e2:Nat} {x0 y0 pw:Rat} {Bc:Int} {k:DK} (hp:S p=none) (hf:S f=some (.lst (pts.map λz=>BP (qo z.1) (qo z.2)))) (ha:S a=some (bH (fc c) e1)) (hc:oo 3 c) (hd:Dn Bc 1000 c) (B0:0 < Bc) (bB:Bt 1000 Bc) (hb:S b=some (bH (sZ g) e2)) (hg:Tg 6 g) (bg:∀ p∈g,Bt 40000 p.2) (ok:fZ (.invert x0 y0 pw)) (sz:ig (.invert x0 y0 pw)):∀ (am:List (Rat×Rat)) (acc:List (MS (Rat×Rat×Rat))) (l0:MS D) (S1:DH),aK S S1->S1 p=some (.lst (acc.map tL))->(∀ r,some r∈acc->AC c g x0 y0 pw r)->acc.length+am.length<=6->(∀ z∈am,Sz 4 z.1/\Sz 4 z.2)->(∀ S2 (acc':List (MS (Rat×Rat×Rat))),aK S S2->S2 p=some (.lst (acc'.map tL))->(∀ r,some r∈acc'->AC c g x0 y0 pw r)->acc'.length<=6->k (.ref p) S2)->aX (fL (pts.map λz=>BP (qo z.1) (qo z.2),some f)) p (dU 0) (eQ (jS fK (cj (cJ 1) (cj (cJ 2) (cj (cJ 3) (cj (cJ 0) jX)))))) k (am.map λz=>BP (qo z.1) (qo z.2)) (acc.map tL) [l0,some (.ref a),some (ii (.invert x0 y0 pw)),some (.ref b)] S1
 | [],acc,l0,S1,x1,h1,hr,hl,_,w=>⟨x1 _ _ hf,w S1 acc x1 h1 hr (by have:acc.length+0<=6:=hl; omega)⟩
 | z::am,acc,l0,S1,x1,h1,hr,hl,hz,w=>by
  have hl:acc.length+(am.length+1)<=6:=hl;obtain⟨zx,zy⟩:=hz z LL;have nx:∀ (o:MS (Rat×Rat×Rat)) S2,aK S1 S2->(∀ r,o=some r->AC c g x0 y0 pw r)->S2 p=some (.lst (acc.map tL))/\(acc.map tL).length < sizeLine/\aX (fL (pts.map λz=>BP (qo z.1) (qo z.2),some f)) p (dU 0) (eQ (jS fK (cj (cJ 1) (cj (cJ 2) (cj (cJ 3) (cj (cJ 0) jX)))))) k (am.map λz=>BP (qo z.1) (qo z.2)) (acc.map tL++[tL o]) [some (BP (qo z.1) (qo z.2)),some (.ref a),some (ii (.invert x0 y0 pw)),some (.ref b)] (put S2 p (.lst (acc.map tL++[tL o]))):=λo S2 x2 ho=>by
   have ea:acc.map tL++[tL o]=(acc++[o]).map tL:=by rw [List.map_append]; rfl
   refine⟨x2 _ _ h1,by rw [LG]; exact sY (by omega),?_⟩
   rw [ea];refine xE hp hf ha hc hd B0 bB hb hg bg ok sz am (acc++[o]) _ _ ((x1.trans x2).put hp) ak (λr hr'=>?_) (by rw [LY]; show acc.length+1+am.length<=6; omega) (λy hy=>hz y (LM _ hy)) w
   rcases List.mem_append.mp hr' with h | h
   ·exact hr r h
   ·exact ho r (List.mem_singleton.mp h).symm
  refine⟨x1 _ _ hf,a,b,c,g,e1,e2,x0,y0,pw,z.1,z.2,Bc,rfl,x1 _ _ ha,hc,hd,B0,bB,x1 _ _ hb,hg,bg,ok,sz,zx,zy,λ_ S2 x2=>nx none S2 x2 (λr h=>(nomatch h)),λn S2 x2 z1 z2=>nx (some (vR c (kN x0 y0 pw z.1 z.2).1 (kN x0 y0 pw z.1 z.2).2,vq g z.1 z.2,rq (z.1 - x0) (z.2 - y0))) S2 x2 λr h=>?_⟩
  have h:=Ma h;subst h;exact⟨⟨z,n,zx,zy,rfl⟩,z1,z2⟩
def t8:cH:=λds S k=>∃ ns:List Int,ds=[.rl (List.map D.int ns)]/\ns.length<=63/\∀ S',k (.bl true) S'
theorem jf:au ["script","k","state","curve","lead","found","rows","most","many"] ["script"] (ap zY):=dX
theorem FR (Fn:FN K "law" zY f fd) (jv:bj P w K mg base "_law_state" 2 mW) (ju:bj P w K mg base "_law_curve" 37 mS) (jO:bj P w K mg base "_law_right" 40 mG) (jp:bj P w K mg base "_law_leads" 38 mX) (bz:bj P w K mg base "_law_nought" 36 fH) (av:bj P w K mg base "_law_fraction" 35 ca) (dw:bj P w K mg base "curve_led" 39 kh) (c_:bj P w K mg base "_law_points" 37 iK) (iS:bj P w K mg base "_law_shares" 38 fK) (fx:bj P w K mg base "_law_one_power" 36 i5) (fB:bj P w K mg base "_law_has_round" 38 iY) (aB:mg "range"=none) (eu:mg "max"=none) (AU:mg "min"=none) (jV:mg "len"=none) (kX:mg "sum"=none):
  aT P w K mg base c8 41 f fd ["script"] (dk K t8):=by
 refine Fn.okJ jf (λds S k h=>?_) (λcdv A outer s H E hr=>⟨_,(af (cV PassesOwn.never rfl rfl aB (aa (bp Ew rfl eu ku (aa ae (aa (bp IV rfl AU GD (aa (bp AA rfl jV tM (aG 0 ac)) (aa ae ac))) ac))) ac) (ar (i:=1) jf.nd) (af (ai (i:=2) jf.nd (dq jv hr (aG 0 (aG 1 ac)))) (af (ai (i:=3) jf.nd (dq ju hr (aG 2 (aa ae ac)))) (af (aE (sw (iu (dq jO hr (aG 2 (aG 3 (aa (dq jp hr (aG 2 (aa ae (aa ae ac)))) ac)))))) (aj (ao fN)) aF) (af (ai (i:=4) jf.nd (aq (aa bX (aa (dq av hr (aG 2 (aa ae ac))) (aa (dq av hr (aG 2 (aa ae ac))) (aa (dq bz hr (aG 2 (aa ae ac))) ac)))))) (af (ai (i:=5) jf.nd (dq dw hr (aa (f_ (aG 4 ac)) (aG 3 ac)))) (af (uo (iv:=6) jf.nd rfl (cB (N:=["point","curve","lead","found"]) (cap:=[none,some 3,some 4,some 5]) rfl rfl rfl rfl ⟨rfl,rfl,rfl,trivial⟩ rfl rfl ⟨⟨rfl,.inl rfl,.inl rfl⟩,⟨rfl,.inl rfl,.inl rfl⟩,⟨rfl,.inl rfl,.inl rfl⟩,trivial⟩) (dq c_ hr (aG 2 ac)) (λ_ _ _ _=>(ar (i:=0) (show List.Nodup (["point","curve","lead","found"]:List Str) from by decide +kernel))) (λ_ _ _ _=>(dq iS hr (aG 1 (aG 2 (aG 3 (aG 0 ac))))))) (af (ai (i:=7) jf.nd (bp tU rfl eu ku (aa (i7 rfl (cB (N:=["powers"]) (cap:=[none]) rfl rfl rfl rfl trivial rfl rfl trivial) (fJ (ah 3)) (λ_ _ _ _=>(ar (i:=0) (show List.Nodup (["powers"]:List Str) from by decide +kernel))) (λ_ _ _ _=>(bp sE rfl kX qe (aG 0 ac)))) ac))) (af (ai (i:=8) jf.nd (dq fx hr (aa (vC rfl (cB (N:=["row"]) (cap:=[none]) rfl rfl rfl rfl trivial rfl rfl trivial) (ah 6) (λ_ _ _ _=>(ar (i:=0) (show List.Nodup (["row"]:List Str) from by decide +kernel))) (λ_ _ _ _=>(ax oR (ah 0) fu (aA _))) (λ_ _ _ _=>(ah 0))) (aG 7 ac)))) (aj (aE (WJ.pt (o9 (ax GQ (ah 8) fu (aA _)) (oF (WJ.pt (oP (ax Cg (ah 8) ae (aA _)) (mC (iu (dq fB hr (aG 5 (aG 4 ac)))))))))) (aj (ao fN)) aF))))))))))) (aj (ao fN))),λds S k h=>?_⟩)
 ·obtain⟨_,rfl,_⟩:=h
  rfl
 ·obtain⟨ns,rfl,hl,w⟩:=h;have hb:∀ z:Int,0<=z->z<=63->-(2 ^ 62)<=z/\z < 2 ^ 62:=λz _ _=>by omega
  refine⟨hb _ (by split <;> (try split) <;> omega) (by rw [LG]; split <;> (try split) <;> omega),?_⟩
  refine ur (P:=λd=>∃ i:Int,d=.int i/\0<=i) (λL S'=>∃ r1 r2 r3 r4 r5 r6 r7 r8,L=[some (.rl (List.map D.int ns)),r1,r2,r3,r4,r5,r6,r7,r8]) (λ_ _ _=>trivial) ?_ (λL S' _=>w S') _ ?_ _ _ ⟨_,_,_,_,_,_,_,_,rfl⟩
  ·rintro d L S1 Nx ⟨i,rfl,hi⟩ ⟨r1,r2,r3,r4,r5,r6,r7,r8,rfl⟩ hN;refine⟨ns,i,rfl,hi,λp n0 b hp hnb=>?_⟩
   have hS:on (put S1 p (.lst [.int n0,.bl b])) p:=⟨n0,b,ak,hnb⟩;generalize put S1 p (.lst [.int n0,.bl b])=T1 at hS ⊢;refine⟨p,3,rfl,rfl,hS,λT2 q ep c d2 hc hq=>⟨p,2,2,rfl,by decide,by decide,by decide,d2.1,λls T3 pl hok hni l1 l2 d3 hpl npl=>?_⟩⟩
   have nqp:q≠p:=xo d2.1 hq;have hq3:=d3.keep nqp hq;refine⟨p,q,pl,c,ep,ls,rfl,d3.1,hq3,hc,hpl,hok,by omega,npl,λT4 d4=>?_⟩
   have hq4:=d4.keep nqp hq3;refine⟨p,2,rfl,by decide,by decide,d4.1,λx0 T5 hx0 d5=>⟨p,2,rfl,by decide,by decide,d5.1,λy0 T6 hy0 d6=>⟨p,3,rfl,by decide,by decide,d6.1,λpw T7 hpw p0 d7=>⟨few,few,λq2 hq2=>?_⟩⟩⟩⟩
   have hq7:=d7.keep nqp (d6.keep nqp (d5.keep nqp hq4));have S7:=d7.1.new (o:=.lst [.tup [.str "invert",fr x0,fr y0,fr pw]]) hq2
   have x7:=aK.new (o:=.lst [.tup [.str "invert",fr x0,fr y0,fr pw]]) hq2
   have hq8:=x7 _ _ hq7;have h2:put T7 q2 (.lst [.tup [.str "invert",fr x0,fr y0,fr pw]]) q2=some (.lst ([Ld.invert x0 y0 pw].map ii)):=ak
   generalize put T7 q2 (.lst [.tup [.str "invert",fr x0,fr y0,fr pw]])=T8 at S7 hq8 h2 ⊢
   obtain⟨⟨nd,hl9,sm,hz⟩,cne,cnz⟩:=hc;obtain⟨Bc,B0,bB,hd⟩:=Eg (w:=30) (m:=9) hz hl9;have hc3:oo 3 c:=⟨nd,sm⟩;obtain⟨d,d3',hcd,dm⟩:=hc3.deg cne;have lok:fZ (.invert x0 y0 pw):=p0;have lsz:ig (.invert x0 y0 pw):=⟨hx0.mono,hy0.mono,hpw.mono⟩
   refine⟨.ref q2,[.invert x0 y0 pw],q,c,ep,3,600,Bc,rfl,.inr ⟨q2,rfl,h2⟩,λl hl'=>by rw [List.mem_singleton.mp hl']; exact⟨lok,lsz⟩,by show 1<=6; decide,oS (by show 3*2 ^ 1<=12; decide),hq8,hc3,cne,cnz,B0,bB.mono,hd.up (by decide),by decide,by decide,λT9 q1 e1 nsv g x9 hNr hch hg hnm gnz bg h1=>?_⟩
   have hg:Tg 6 g:=hg;have bg:∀ p∈g,Bt 40000 p.2:=λp hp=>(bg p hp).mono (by show 600+9700*1<=40000; decide)
   have S9:=S7.ext x9;have n1p:q1≠p:=xo S9 h1;refine⟨p,rfl,S9,λps T10 q10 hps hl10 d10 h10 n10=>⟨(ps.map λp=>BP (qo p.1) (qo p.2),some q10),by simp only [aR]; rw [h10],λq11 hq11=>?_⟩⟩
   have hqT:T10 q=some (bH (fc c) ep):=d10.keep nqp (x9 _ _ hq8);have h1T:T10 q1=some (bH (sZ g) e1):=d10.keep n1p h1;refine xE (c:=c) (g:=g) (x0:=x0) (y0:=y0) (pw:=pw) hq11 h10 hqT hc3 (hd.up (by decide)) B0 (bB.mono) h1T hg bg lok lsz ps [] none _ (aK.new hq11) ak (λr h=>(nomatch h)) (by show 0+ps.length<=6; omega) hps λT11 rows x11 h11 hrows lr=>?_
   have hqT11:=x11 _ _ hqT;refine⟨_,_,hqT11,λq12 hq12=>?_⟩
   rw [ux];refine mi (S:=T11) hq12 hqT11 (λp hp=>by obtain⟨i,j,ek,i0,j0,ij⟩:=sm p hp; exact⟨i,j,ek,i0,j0,by omega⟩) (λT12 x12 h12=>⟨_,h12,λz=>cne (List.map_eq_nil_iff.mp z),λm hm mx=>?_⟩) c [] none _ rfl (aK.new hq12) ak (by omega)
   have em:=dm m hm mx;subst em;refine⟨(rows.map tL,some q11),by simp only [aR]; rw [x12 _ _ h11],λq13 hq13=>?_⟩
   refine qu hq13 (x12 _ _ h11) rows [] none _ (aK.new hq13) ak (by show 0+rows.length<=100; omega) λT13 x13 h13=>?_
   rw [List.nil_append] at h13;obtain⟨⟨κ,s,dd,c0,hdeg,sd,v⟩,no⟩:zd (.invert x0 y0 pw) nsv g:=by
    rcases hch.inv with ⟨z,_⟩ | ⟨ls',l,g1,el,q1,q2,_⟩
    ·cases z
    ·obtain⟨e1,e2⟩:=List.append_inj' (show []++[Ld.invert x0 y0 pw]=ls'++[l] from el) rfl
     subst e1;cases e2;rcases q1.inv with ⟨_,rfl⟩ | ⟨ls',l,g1,el,_⟩
     ·exact q2
     ·simp at el
   obtain⟨t,t0,nv⟩:=hNr.v hc3;have edd:(dd:Int)=(d:Int):=by
    obtain⟨⟨y,hy,ey⟩,hall⟩:=hdeg;have ky:∀ k,k∈c.map (·.1)↔k∈nsv.map (·.1):=λk=>by rw [hNr.keys]
    refine dm _ ?_ λx hx=>?_
    ·obtain⟨y',hy',e⟩:=LF.mp ((ky y.1).mpr (LF.mpr ⟨y,hy,rfl⟩));exact LF.mpr ⟨y',hy',by show dg y'.1=_; rw [show y'.1=y.1 from e,ey]⟩
    ·obtain⟨y',hy',rfl⟩:=LF.mp hx;obtain⟨y2,hy2,e⟩:=LF.mp ((ky y'.1).mp (LF.mpr ⟨y',hy',rfl⟩));have:=hall y2 hy2;rw [show y2.1=y'.1 from e] at this
     exact this
   have lf:(rows.filterMap id).length<=6:=Mi (List.length_filterMap_le _ _) lr;refine⟨q13,rows.filterMap id,(d:Int),s,κ*t,rfl,h13,lf,by omega,by omega,λr hr=>?_,λT14 m x14 ms=>?_⟩
   ·have hr':some r∈rows:=by
     obtain⟨o,ho,e⟩:=List.mem_filterMap.mp hr;have e:o=some r:=e;rw [<- e];exact ho
    obtain⟨⟨z,zn,zx,zy,rfl⟩,z1,z2⟩:=hrows r hr';have s1:=zx.sub hx0;have s2:=zy.sub hy0;have s3:=(s1.mul s1).add (s2.mul s2);refine⟨z1,z2,s3.mono,zn,?_⟩
    have ev:=v z.1 z.2 (kN x0 y0 pw z.1 z.2).1 (kN x0 y0 pw z.1 z.2).2 (show y8 (.invert x0 y0 pw) z.1 z.2=some (kN x0 y0 pw z.1 z.2) from if_neg zn)
    rw [nv] at ev
    show vq g z.1 z.2=κ*t*rq (z.1 - x0) (z.2 - y0) ^ s*vR c (kN x0 y0 pw z.1 z.2).1 (kN x0 y0 pw z.1 z.2).2
    have ev:vq g z.1 z.2=κ*rq (z.1 - x0) (z.2 - y0) ^ s*(t*vR c (kN x0 y0 pw z.1 z.2).1 (kN x0 y0 pw z.1 z.2).2):=ev;rw [ev];generalize vR c (kN x0 y0 pw z.1 z.2).1 (kN x0 y0 pw z.1 z.2).2=ω;grind
   ·have fin:∀ T' l,Nx [some (.rl (List.map D.int ns)),some (.int i),some (.ref p),some (.ref q),some (ii (.invert x0 y0 pw)),some (.ref q1),some (.ref q11),some (.int (d:Int)),l] T':=λT' l=>hN _ _ ⟨_,_,_,_,_,_,_,_,rfl⟩
    have h1E:T14 q1=some (bH (fc (v0 g)) e1):=by rw [<- o5]; exact x14 _ _ (x13 _ _ (x12 _ _ (x11 _ _ h1T)))
    refine b_ (λz=>?_) (λz=>fin _ _)
    refine⟨q1,v0 g,e1,x0,y0,pw,rfl,h1E,λz=>qg hnm (List.map_eq_nil_iff.mp z),(kO hg).up (by decide),⟨1,wc bg,by decide,Es.mono⟩,lsz.1,lsz.2.1,λT15 b x15 hb=>?_⟩
    have hb:b=false:=by
     cases b with
     | false=>rfl
     | true=>exact absurd (no x0 y0 pw rfl) (hb.mp rfl)
    subst hb;exact fin _ _
  ·intro d hd;obtain⟨z,_,rfl⟩:=LF.mp hd;exact⟨_,rfl,by omega⟩
theorem DW (ns:List Int) (h:ns.length<=63):t8 [.rl (List.map D.int ns)] (DN []) (λd _=>d=.bl true):=⟨ns,rfl,h,λ_=>rfl⟩
end My
namespace PySem.W.Fast
def tw12299447248773276799:=()
def tw7667368016580038869:=()
def tw14827281623230301107:=()
def tw2510040853943305091:=()
def tw17091610251492151856:=()
def tw16317713126616869768:=()
def tw1726549629981634273:=()
def tw1057341093356350575:=()
def tw15041653140101502801:=()
def tw18209679477474176526:=()
def tw16703253784121638237:=()
def tw12400790313128299771:=()
def tw15741976476097051088:=()
def tw13294016807038357921:=()
def tw17403828975131472165:=()
def tw2372462062143909204:=()
def tw1698113537822894149:=()
def tw13610439002027009489:=()
def tw12872786286968131557:=()
def tw7800010108118292591:=()
def tw12139709584715421502:=()
def tw4274700737661196151:=()
def tw17976553398578155166:=()
def tw3072971365937700376:=()
def tw6388630603144788589:=()
def tw8709429501172557682:=()
def tw16836743734423202889:=()
def tw16617161824843565474:=()
def tw9245608912470947393:=()
def tw6092984686381207071:=()
def tw16751497848948212971:=()
def tw2216654634080391046:=()
def tw9592198002609571119:=()
def tw1935427930962927926:=()
def tw17067651234279397827:=()
def tw13580412082486697056:=()
def tw14415540895919400463:=()
def tw1042056253492500419:=()
def tw2961762008021684544:=()
def tw12258636038895747431:=()
def tw2418900615319662947:=()
def tw4296399356621210278:=()
def tw16024589983771661341:=()
def tw3301315078634859802:=()
def tw15800742479415837593:=()
def tw8648922594889137354:=()
def tw15723239052906618740:=()
def tw15339932968664811573:=()
def tw352035333643049556:=()
def tw11045280684111621217:=()
def tw6336123172084363778:=()
def tw13513764752574448334:=()
def tw9383108148022845254:=()
def tw974444221262717078:=()
def tw1545406496096305036:=()
def tw5301024987446461914:=()
def tw5064810187414723826:=()
def tw14693496193078354344:=()
def tw6232900992653898821:=()
def tw8175183058567714393:=()
def tw5613396658067267382:=()
def tw11629511663113687590:=()
def tw4253681942333105417:=()
def tw3305139652557197645:=()
def tw2670907658993050375:=()
def tw1348834578847463845:=()
def tw6714865826252097303:=()
def tw3314630418154284984:=()
def tw17861310395815932112:=()
def tw12525438542330864244:=()
def tw553877607363784240:=()
def tw7876589253100658937:=()
def tw12714954108581104140:=()
def tw28971561957263196:=()
def tw4239809975609467959:=()
def tw16226484499602636146:=()
def tw17103369818532515653:=()
def tw6024446344289066099:=()
def tw10391652292863905134:=()
def tw2893635397145067362:=()
def tw1596345113113932834:=()
def tw14018326198298361588:=()
def tw4047773194911933944:=()
def tw3188842906776892198:=()
def tw17063278460313320526:=()
def tw402667851677652084:=()
def tw12789969448787566820:=()
def tw17319860299387109937:=()
def tw11826996000075815025:=()
def tw11701220868708939022:=()
def tw6601996740010554361:=()
def tw14765134766369306266:=()
def tw14537045571846832369:=()
def tw12873340780823568298:=()
def tw11187641741620040398:=()
def tw15004822648842625089:=()
def tw8288961011501260371:=()
def tw1892320001186882031:=()
def tw16857039606176071624:=()
def tw3850862622183849535:=()
def tw17851868600784541756:=()
def tw9747235723800517432:=()
def tw4214935749585119401:=()
def tw18263029952458140119:=()
def tw6655564992081132394:=()
def tw10668696113203198797:=()
def tw7765139389508061214:=()
def tw11396363330494139:=()
def tw15362521338359560015:=()
def tw1031907639603879375:=()
def tw10715352243383458199:=()
def tw12386631790671710575:=()
def tw9644351769382251927:=()
def tw11798168829443324252:=()
def tw11472186570884527261:=()
def tw14904217604775598371:=()
def tw13709678500316604940:=()
def tw17883864553273955577:=()
def tw9004221668568315184:=()
def tw14269169067620759919:=()
def tw10936137616192014337:=()
def tw5501967196129996689:=()
def tw10889638441428849646:=()
def tw8479595196123023156:=()
def tw11544343908715104546:=()
def tw682705296850507072:=()
def tw12491987139276261323:=()
def tw613997496627252923:=()
def tw10434823250976109854:=()
def tw11206087196339318738:=()
def tw16544307724885326330:=()
def tw16078373450898522467:=()
def tw3576848382595026697:=()
def tw3781334922170716468:=()
def tw17035153286647607255:=()
def tw9000576023981581556:=()
def tw3981350430976951600:=()
def tw15616107341718482839:=()
def tw2308531156690630163:=()
def tw10174000438329860701:=()
def tw12196467891192733736:=()
def tw5752638964823714732:=()
def tw269489876495643929:=()
def tw7837990772567191362:=()
def tw5464719525544318737:=()
def tw11147119334896628096:=()
def tw1797681246983622337:=()
def tw7919770505205628423:=()
def tw6990161412907825147:=()
def tw14180721884705835808:=()
end PySem.W.Fast
namespace My
open PySem PySem.Spec PyProof.Rows L2 DL HM
theorem GE {l:PySem.W.OpenLaw} {w:MW} {K:Fg} {h:MX} {mg:Str->MS MQ} {fa:MR} (X:K.In h) (G:h.Ns mainGlobals mg) (hfa:mg "law"=some (.ref fa))
  {f1 f2 f3 f4 f5 f6 f7 f8 f9 f10 f11 f12 f13 f14 f15 f16 f17 f18 f19 f20 f21 f22 f23 f24 f25 f26 f27 f28 f29 f30 f31 f32 f33 f34 f35 f36 f37 f38 f39 f40 f41 f42 f43 f44 f45 f46 f47 f48 f49 f50 f51 f52 f53 f54 f55 f56 f57 f58 f59 f60 f61 f62:MR} {cd1 cd2 cd3 cd4 cd5 cd6 cd7 cd8 cd9 cd10 cd11 cd12 cd13 cd14 cd15 cd16 cd17 cd18 cd19 cd20 cd21 cd22 cd23 cd24 cd25 cd26 cd27 cd28 cd29 cd30 cd31 cd32 cd33 cd34 cd35 cd36 cd37 cd38 cd39 cd40 cd41 cd42 cd43 cd44 cd45 cd46 cd47 cd48 cd49 cd50 cd51 cd52 cd53 cd54 cd55 cd56 cd57 cd58 cd59 cd60 cd61 cd62:MQ}
  {oW:MR} {yM:MS MR} {yg:MZ (MS MQ)} {AK:Nat} {p0_ORIGIN:MR} {od0_ORIGIN:MS MR} {sl0_ORIGIN:MZ (MS MQ)} {n0_ORIGIN:Nat} {t0_0_ORIGIN t1_0_ORIGIN:Tok} {p1_ORIGIN:MR} {od1_ORIGIN:MS MR} {sl1_ORIGIN:MZ (MS MQ)} {n1_ORIGIN:Nat} {t0_1_ORIGIN t1_1_ORIGIN:Tok}
  {pH:MR} {yp:MS MR} {yS:MZ (MS MQ)} {AX:Nat} {yQ yN:Tok}
  {AV:MR} {FF:MS MR} {Fd:MZ (MS MQ)} {Ju:Nat} {G2 GV:Tok}
  (d1:DI K "degree_of" jD f1 cd1)
  (d2:DI K "common_divisor" fv f2 cd2)
  (d3:DI K "ratio" sH f3 cd3)
  (d4:DI K "plus" wl f4 cd4)
  (d5:DI K "minus" tv f5 cd5)
  (d6:DI K "times" sS f6 cd6)
  (d7:DI K "over" wv f7 cd7)
  (d8:DI K "negative" lm f8 cd8)
  (d9:DI K "plain_way" kj f9 cd9)
  (d10:DI K "product_of_ways" eS f10 cd10)
  (d11:DI K "moved" sU f11 cd11)
  (d12:DI K "common_multiple" eK f12 cd12)
  (d13:DI K "common_bottom" gj f13 cd13)
  (d14:DI K "tops_over" j9 f14 cd14)
  (d15:DI K "normal_of_tops" fq f15 cd15)
  (d16:DI K "normal" qp f16 cd16)
  (d17:DI K "product_of_tops" eJ f17 cd17)
  (d18:DI K "sum_of_tops" iJ f18 cd18)
  (d19:DI K "without_nought_tops" dc f19 cd19)
  (d20:DI K "powers_up_to" hV f20 cd20)
  (d21:DI K "set_in" pX f21 cd21)
  (d22:DI K "over_round" jN f22 cd22)
  (d23:DI K "without_rounds" ft f23 cd23)
  (d24:DI K "turned_over" iI f24 cd24)
  (d25:DI K "wholes_over" iE f25 cd25)
  (d26:DI K "turned" oT f26 cd26)
  (d27:DI K "flat" wO f27 cd27)
  (d28:DI K "back" wo f28 cd28)
  (d29:DI K "tops_moved" jg f29 cd29)
  (d30:DI K "tops_inverted" fV f30 cd30)
  (d31:DI K "curve_led" j5 f31 cd31)
  (d32:DI K "_law_cell_at" hU f32 cd32)
  (d33:DI K "_law_state" js f33 cd33)
  (d34:DI K "_law_take" kJ f34 cd34)
  (d35:DI K "_law_divisor" gW f35 cd35)
  (d36:DI K "_law_ratio" jd f36 cd36)
  (d37:DI K "_law_times" jj f37 cd37)
  (d38:DI K "_law_plus" km f38 cd38)
  (d39:DI K "_law_minus" jA f39 cd39)
  (d40:DI K "_law_fraction" fY f40 cd40)
  (d41:DI K "_law_nought" iP f41 cd41)
  (d42:DI K "_law_clean" jh f42 cd42)
  (d43:DI K "_law_curve" jE f43 cd43)
  (d44:DI K "_law_lead" kB f44 cd44)
  (d45:DI K "_law_leads" jC f45 cd45)
  (d46:DI K "_law_add" lH f46 cd46)
  (d47:DI K "_law_less" kC f47 cd47)
  (d48:DI K "_law_multiply" fU f48 cd48)
  (d49:DI K "_law_inverse" gK f49 cd49)
  (d50:DI K "_law_led" lQ f50 cd50)
  (d51:DI K "_law_led_all" g9 f51 cd51)
  (d52:DI K "_law_value" jx f52 cd52)
  (d53:DI K "_law_is_normal" fw f53 cd53)
  (d54:DI K "_law_backwards" fE f54 cd54)
  (d55:DI K "_law_round" jK f55 cd55)
  (d56:DI K "_law_shares" iN f56 cd56)
  (d57:DI K "_law_one_power" fi f57 cd57)
  (d58:DI K "_law_has_round" fg f58 cd58)
  (d59:DI K "_law_pair_point" eV f59 cd59)
  (d60:DI K "_law_points" iR f60 cd60)
  (d61:DI K "_law_right" jk f61 cd61)
  (d62:DI K "law" zY f62 cd62)
  (nB:PySem.W.nsIn K mainGlobals "ORIGIN"=some (some (.ref oW))) (nc:K.lookup oW=some ⟨.type "tuple",yM,.seq #[.ref p0_ORIGIN,.ref p1_ORIGIN] AK,yg⟩) (lg0_ORIGIN:K.lookup p0_ORIGIN=some ⟨.type "tuple",od0_ORIGIN,.seq #[.int 0 t0_0_ORIGIN,.int 1 t1_0_ORIGIN] n0_ORIGIN,sl0_ORIGIN⟩) (lg1_ORIGIN:K.lookup p1_ORIGIN=some ⟨.type "tuple",od1_ORIGIN,.seq #[.int 0 t0_1_ORIGIN,.int 1 t1_1_ORIGIN] n1_ORIGIN,sl1_ORIGIN⟩)
  (nF:PySem.W.nsIn K mainGlobals "NOUGHT"=some (some (.ref pH))) (nS:K.lookup pH=some ⟨.type "tuple",yp,.seq #[.int 0 yQ,.int 1 yN] AX,yS⟩)
  (vD:PySem.W.nsIn K mainGlobals "ONE"=some (some (.ref AV))) (wn:K.lookup AV=some ⟨.type "tuple",FF,.seq #[.int 1 G2,.int 1 GV] Ju,Fd⟩)
  (hTr:l.prog.given.tree=none)
  (A7:PySem.W.nsIn K mainGlobals "abs"=some none) (By:PySem.W.nsIn K mainGlobals "max"=some none) (Af:PySem.W.nsIn K mainGlobals "len"=some none) (vE:PySem.W.nsIn K mainGlobals "list"=some none) (v_:PySem.W.nsIn K mainGlobals "dict"=some none) (tS:PySem.W.nsIn K mainGlobals "range"=some none) (Bh:PySem.W.nsIn K mainGlobals "any"=some none) (As:PySem.W.nsIn K mainGlobals "int"=some none) (tE:PySem.W.nsIn K mainGlobals "tuple"=some none) (jH:PySem.W.nsIn K mainGlobals "isinstance"=some none) (BK:PySem.W.nsIn K mainGlobals "set"=some none) (zX:PySem.W.nsIn K mainGlobals "sum"=some none) (lw:PySem.W.nsIn K mainGlobals "reversed"=some none) (Br:PySem.W.nsIn K mainGlobals "min"=some none):
  ∃ fd:FuncData,(∀ (s:MP) (v:MQ),BindsTo s fd ⟨[v],[]⟩ [("script",v)])/\∀ base:MX,K.In base->base.Ns mainGlobals mg->mr mg base->PySem.W.CodeAll [] base->aT l.prog w K mg base c8 41 fa fd ["script"] (dk K t8):=by
 have e:=hfa.symm.trans (PySem.W.mg_of X G d62.a);cases e;have oV:=Mp X G A7;have eu:=Mp X G By;have jV:=Mp X G Af;have vQ:=Mp X G vE;have fX:=Mp X G v_;have aB:=Mp X G tS;have zP:=Mp X G Bh;have qf:=Mp X G As;have fb:=Mp X G tE;have jI:=Mp X G jH;have zS:=Mp X G BK;have kX:=Mp X G zX;have lF:=Mp X G lw;have AU:=Mp X G Br;have m8:A9 K mg "ORIGIN" [[0,1],[0,1]]:=⟨oW,_,_,_,PySem.W.mg_of X G nB,nc,rfl,rfl,LV rfl,.cons lg0_ORIGIN rfl rfl (LV rfl) (.cons ⟨_,rfl⟩ (.cons ⟨_,rfl⟩ (.nil))) (.cons lg1_ORIGIN rfl rfl (LV rfl) (.cons ⟨_,rfl⟩ (.cons ⟨_,rfl⟩ (.nil))) (.nil))⟩
 have mF:yU K mg "NOUGHT" [0,1]:=⟨pH,_,_,_,PySem.W.mg_of X G nF,nS,rfl,rfl,LV rfl,.cons ⟨_,rfl⟩ (.cons ⟨_,rfl⟩ (.nil))⟩
 have rG:yU K mg "ONE" [1,1]:=⟨AV,_,_,_,PySem.W.mg_of X G vD,wn,rfl,rfl,LV rfl,.cons ⟨_,rfl⟩ (.cons ⟨_,rfl⟩ (.nil))⟩
 obtain⟨fd,Fn,hc,hb⟩:=d62.fn;refine⟨fd,hb,λbase _ _ hBl hCA=>?_⟩
 have zb:Bs l.prog w base:=.mk;have aY:=d2.own zb X G λ_ F _=>mJ F oV
 have dR:=d3.own zb X G λ_ F _=>BA F aY hBl hTr
 have iT:=d4.own zb X G λ_ F _=>C' F dR
 have jM:=d5.own zb X G λ_ F _=>zC F dR
 have cM:=d6.own zb X G λ_ F _=>zW F dR
 have lD:=d7.own zb X G λ_ F _=>DX F dR
 have h_:=d8.own zb X G λ_ F _=>uF F
 have j6:=d9.own zb X G λ_ F _=>sM F jM
 have eL:=d10.own zb X G λ_ F _=>lK F iT cM
 have oM:=d11.own zb X G λ_ F _=>Bx F iT cM
 have bZ:=d12.own zb X G λ_ F _=>lj F aY hBl hTr
 have fR:=d13.own zb X G λ_ F _=>nJ F bZ
 have eD:=d14.own zb X G λ_ F _=>sG F hBl hTr
 have cy:=d15.own zb X G λ_ F _=>mh F aY eu hBl hTr
 have pj:=d16.own zb X G λ_ F _=>yz F cy eD fR jV vQ
 have bF:=d17.own zb X G λ_ F _=>lq F
 have cO:=d18.own zb X G λ_ F _=>po F fX
 have cp:=d1.own zb X G λ_ F _=>qS F eu
 have a_:=d19.own zb X G λ_ F _=>jm F
 have cX:=d20.own zb X G λ_ F _=>om F aB
 have g_:=d21.own zb X G λ_ F _=>ye F cp cX cO bF a_ aB
 have je:=d22.own zb X G λ_ F _=>qQ F cp fX aB zP
 have fz:=d23.own zb X G λ_ F _=>lV F je
 have iC:=d24.own zb X G λ_ F _=>pE F cp cX cO bF fz a_ aB
 have cw:=d13.own zb X G λ_ F _=>mj F bZ
 have cQ:=d25.own zb X G λ_ F _=>o6 F
 have lS:=d26.own zb X G λ_ F _=>yA F iT cM jM
 have wF:=d27.own zb X G λ_ F _=>DU F eL oM lD lS cM j6 m8 mF rG
 have we:=d28.own zb X G λ_ F _=>C0 F h_ lD rG
 have jJ:=d29.own zb X G λ_ F _=>qP F wF we cw cQ g_
 have fW:=d30.own zb X G λ_ F _=>nQ F cw cQ g_ iC
 have dw:=d31.own zb X G λ_ F _=>sW F pj eD cy fW jJ
 have hZ:=d32.own zb X G λ_ F _=>oq F jV
 have jv:=d33.own zb X G λ_ F _=>qH F hZ
 have aH:=d34.own zb X G λ_ F _=>sj F
 have cY:=d35.own zb X G λ_ F _=>ot F oV
 have aC:=d36.own zb X G λ_ F _=>qF F cY hBl hTr
 have ay:=d37.own zb X G λ_ F _=>qW F aC
 have aQ:=d38.own zb X G λ_ F _=>sJ F aC
 have bL:=d39.own zb X G λ_ F _=>qL F aC
 have av:=d40.own zb X G λ_ F _=>nM F aC aH
 have bz:=d41.own zb X G λ_ F _=>pi F av
 have ji:=d42.own zb X G λ_ F _=>qM F fX
 have ju:=d43.own zb X G λ_ F _=>qX F aH av bz ji aB
 have kG:=d44.own zb X G λ_ F _=>tD F aH av bz
 have jp:=d45.own zb X G λ_ F _=>qB F aH kG aB qf
 have cf:=d46.own zb X G λ_ F _=>uq F aQ
 have ip:=d47.own zb X G λ_ F _=>sQ F bL
 have aM:=d48.own zb X G λ_ F _=>m_ F aQ ay
 have hE:=d49.own zb X G λ_ F _=>ol F ay bL aC
 have fy:=d50.own zb X G λ_ F _=>uN F cf aM aQ ay aC ip hE fb aB
 have ie:=d51.own zb X G λ_ F _=>oi F fy
 have bD:=d52.own zb X G λ_ F _=>qU F aM cf aB
 have fh:=d53.own zb X G λ_ F _=>mY F cY eu jI fX
 have fA:=d54.own zb X G λ_ F _=>md F aC
 have jr:=d55.own zb X G λ_ F _=>qK F bL aQ ay aB
 have iS:=d56.own zb X G λ_ F _=>qw F fy jr bD
 have fx:=d57.own zb X G λ_ F _=>mB F ay aC aB jV zS
 have fB:=d58.own zb X G λ_ F _=>mz F aQ bD aB eu kX
 have e_:=d59.own zb X G λ_ F _=>k_ F aH av aB fb
 have c_:=d60.own zb X G λ_ F _=>pL F e_ aB
 have jO:=d61.own zb X G λ_ F _=>qA F dw fh fA c_ ie bD fb eu kX qf lF
 exact FR Fn jv ju jO jp bz av dw c_ iS fx fB aB eu AU jV kX
theorem walk {l:PySem.W.OpenLaw} {q:MU} {loose:List Str} {XP:(Str->MS MQ)->MX->Prop} {YP:MW->MX->Prop} {d:DefRec} {K:Params->Fg} (himp:importsNone q=true) (hn:l.most=some 63) (hdf:d.params.defaults=[])
  (hY:∀ (w:MW) (h:MX),YP w h->(K w.params).In h)
  (hnK:∀ w:MW,PySem.W.noTabs (K w.params)=true) (hT:∀ (w:MW) (h:MX),YP w h->PySem.W.TabsAt [] h)
  (F:∀ (w:MW) (mg:Str->MS MQ) (fa:MR) (h:MX),(K w.params).In h->h.Ns mainGlobals mg->mg d.name=some (.ref fa)->
   ∃ fd:FuncData,(∀ (s:MP) (u:MQ),BindsTo s fd ⟨[u],[]⟩ [("script",u)])/\∀ base:MX,(K w.params).In base->base.Ns mainGlobals mg->mr mg base->PySem.W.CodeAll [] base->aT l.prog w (K w.params) mg base c8 41 fa fd ["script"] (dk (K w.params) t8)):
  PySem.W.WalkO q loose XP YP l.row.toRowW d [] (λf vs=>PySem.call f vs):=
 L2.AL (n:=63) (k:=41) (x:="script") (CX:=λ_=>c8) (sp:=λw=>dk (K w.params) t8) himp hn (by decide) hdf ⟨rfl,by decide,by decide⟩ hY hnK hT F
  (λw H a ns hl ho hS=>DL.CI (tq:=[]) ho hS (by simp) (DW ns hl)) λ_ _ _ _ _ z=>z
end My
open PySem PySem.W PyProof.Rows
theorem PySem.Challenge.cw_hingedraw_k73_curves_led_holds : PySem.Challenge.rw_hingedraw_k73_curves_led.Holds := by
 w_on; o_law; k_head; (case hw=>w_witness2)
 k_fill
 refine My.walk (l := PySem.Challenge.rw_hingedraw_k73_curves_led) ?imp rfl rfl (λw h Y => PySem.W.kIn_of Y) ?nK ?xs ?F
 case imp=>kernel_rfl
 case nK=>intro w; kernel_rfl
 case xs=>intro w h Y; exact λ_ h=>nomatch h
 case F=>
  intro w mg fa h KX G hmg;refine' My.GE KX G hmg ?d1 ?d2 ?d3 ?d4 ?d5 ?d6 ?d7 ?d8 ?d9 ?d10 ?d11 ?d12 ?d13 ?d14 ?d15 ?d16 ?d17 ?d18 ?d19 ?d20 ?d21 ?d22 ?d23 ?d24 ?d25 ?d26 ?d27 ?d28 ?d29 ?d30 ?d31 ?d32 ?d33 ?d34 ?d35 ?d36 ?d37 ?d38 ?d39 ?d40 ?d41 ?d42 ?d43 ?d44 ?d45 ?d46 ?d47 ?d48 ?d49 ?d50 ?d51 ?d52 ?d53 ?d54 ?d55 ?d56 ?d57 ?d58 ?d59 ?d60 ?d61 ?d62 ?nB ?nc ?lg0_ORIGIN ?lg1_ORIGIN ?nF ?nS ?vD ?wn ?hTr ?A7 ?By ?Af ?vE ?v_ ?tS ?Bh ?As ?tE ?jH ?BK ?zX ?lw ?Br
  case d1 | d2 | d3 | d4 | d5 | d6 | d7 | d8 | d9 | d10 | d11 | d12 | d13 | d14 | d15 | d16 | d17 | d18 | d19 | d20 | d21 | d22 | d23 | d24 | d25 | d26 | d27 | d28 | d29 | d30 | d31 | d32 | d33 | d34 | d35 | d36 | d37 | d38 | d39 | d40 | d41 | d42 | d43 | d44 | d45 | d46 | d47 | d48 | d49 | d50 | d51 | d52 | d53 | d54 | d55 | d56 | d57 | d58 | d59 | d60 | d61 | d62=>refine' ⟨?a,.mk ?l,?e,?k⟩; (case a=>k_is); (case l=>k_is); (case e=>k_is); (case k=>k_is)
  (case nB=>k_is)
  (case nc=>k_is)
  (case lg0_ORIGIN=>k_is)
  (case lg1_ORIGIN=>k_is)
  (case nF=>k_is)
  (case nS=>k_is)
  (case vD=>k_is)
  (case wn=>k_is)
  (case hTr=>exact rfl)
  (case A7=>k_is)
  (case By=>k_is)
  (case Af=>k_is)
  (case vE=>k_is)
  (case v_=>k_is)
  (case tS=>k_is)
  (case Bh=>k_is)
  (case As=>k_is)
  (case tE=>k_is)
  (case jH=>k_is)
  (case BK=>k_is)
  (case zX=>k_is)
  (case lw=>k_is)
  (case Br=>k_is)
