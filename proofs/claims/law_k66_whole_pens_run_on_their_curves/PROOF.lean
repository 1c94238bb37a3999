import PyProof.Rows.All
import Wide.All
import OpenK.AllK
import Wide.FinOn
import Lean
import PyProof.EqAt
import PyProof.EqKinds
import PyProof.TupleCall
import PySem.Challenge.RW_hingedraw_k66_whole_pens_run_on_their_cu
set_option compiler.extract_closed false
set_option genSizeOfSpec false
set_option Elab.async false
set_option linter.all false
set_option maxRecDepth 100000
set_option Elab.async false
set_option linter.all false
set_option maxRecDepth 100000
abbrev Zr:=List (List Int×Rat)
abbrev Zi:=List (List Int×Int)
theorem Zf {α β γ:Sort _} {f:α->β->γ}:∀ a b,f a b=f a b:=λ_ _=>rfl
section
open PySem PySem.Spec PyProof.Rows
abbrev gt:=@wpAny_bind
abbrev PZ:=@Heap.get?_push_of_some
abbrev P0:=@wpAny_pure
abbrev P1:=@Heap.get?_push_size
abbrev P2:=@Rat.intCast_mul
abbrev P3:=@Heap.lt_size
abbrev P4:=@Nat.le_refl
abbrev P5:=@List.mem_map
abbrev P6:=@List.length_map
abbrev P7:=@Bool.false_ne_true
abbrev P8:=@List.size_toArray
abbrev P9:=@List.mem_cons
abbrev P_:=@Nat.ne_of_lt
abbrev Qa:=@List.mem_cons_self
abbrev Qb:=@List.mem_cons_of_mem
abbrev Qc:=@Nat.lt_of_lt_of_le
abbrev Qd:=@List.mem_append_right
abbrev Qe:=@List.map_cons
abbrev Qf:=@List.length_cons
abbrev Qg:=@List.find?_cons
abbrev Qh:=@List.not_mem_nil
abbrev Qi:=@Nat.le_of_ble_eq_true
abbrev Qj:=@Rat.intCast_add
abbrev Qk:=@Prod.ext
abbrev Ql:=@List.length_append
abbrev Qm:=@Around.under_plainId
abbrev Qn:=@List.append_nil
abbrev Qo:=@Rat.mul_nonneg
abbrev Qp:=@wpAny_setField_rec
abbrev Qq:=@wpAny_holding
abbrev Qr:=@List.getElem?_eq_getElem
abbrev Qs:=@wpAny_newObj_type
abbrev Qt:=@List.getElem?_map
abbrev Qu:=@Rat.mul_pos
abbrev Qv:=@F.plain_max_loop
abbrev Qw:=@Heap.get?_update_other
abbrev Qx:=@Option.some.inj
abbrev Qy:=@wpAny_seqItems
abbrev Qz:=@codeAny_builtin
abbrev QA:=@List.getD_eq_getElem?_getD
abbrev QB:=@Rat.divInt_eq_div
abbrev QC:=@List.getElem?_eq_some_iff
abbrev QD:=@wpAny_mono
abbrev QE:=@wpAny_field
abbrev QF:=@Nat.le_trans
abbrev QG:=@Bool.and_eq_true
abbrev QH:=@List.map_map
abbrev QI:=@PySem.mem_of_lookup
abbrev QJ:=@Heap.get?_update_self
abbrev QK:=@List.nodup_cons
abbrev QL:=@Rat.intCast_inj
abbrev QM:=@PySem.W.mg_none_of
abbrev QN:=@wpAny_call_entry
abbrev QO:=@Option.map_eq_some_iff
abbrev QP:=@Int.fmod_nonneg_of_pos
abbrev QQ:=@List.drop_eq_getElem_cons
abbrev QR:=@wpAny_dictEntries
abbrev QS:=@Int.natAbs_dvd_natAbs
abbrev QT:=@decide_eq_false
abbrev QU:=@Nat.zero_le
abbrev QV:=@Nat.lt_irrefl
abbrev QW:=@Heap.size_push
abbrev QX:=@List.all_eq_true
abbrev QY:=@List.mem_range
abbrev QZ:=@Int.natAbs_mul
abbrev Q0:=@wpAny_tryCatch
abbrev Q1:=@wpAny_callSpecial?_slot
abbrev Q2:=@Int.toNat_natCast
abbrev Q3:=@decide_eq_true_eq
abbrev Q4:=@Array.length_toList
abbrev Q5:=@wpAny_letGo
abbrev Q6:=@List.getElem_mem
abbrev Q7:=@Int.fmod_lt_of_pos
abbrev Q8:=@List.getElem?_toArray
abbrev Q9:=@Bool.false_eq_true
abbrev Q_:=@Option.isSome_iff_exists
abbrev Ra:=@List.length_nil
abbrev Rb:=@Rat.num_eq_zero
abbrev Rc:=@List.length_eq_zero_iff
abbrev Re:=@Heap.SameBut.update
end
section
open PySem PySem.Spec
abbrev Rf:=Shared
abbrev Rg:=Value
abbrev Rh:=Addr
abbrev Ri:=Option
abbrev Rj:=Expr
abbrev Rk:=Program
abbrev Rm:=Around
abbrev Rn:=World
abbrev Ro:=Heap
abbrev Rp:=Stmt
abbrev Rq:=Array
abbrev Rr:=Bool
abbrev Rs:=String
abbrev Ru:=DictEntry
abbrev Rv:=Obj
end
namespace L2
open PySem PySem.Spec PyProof.Rows
abbrev eG:=Sum Int Str
def vw:eG->Rg->Rr
 | .inl k,v=>Value.isInt k v
 | .inr x,v=>Value.isStrOf x v
def Ol (w:Rn):eG->Int
 | .inl k=>hashInt k
 | .inr x=>hashStr w x
theorem cV:∀ {k:eG} {v:Rg},vw k v=true->(∃ i t,k=Sum.inl i/\v=Value.int i t)\/(∃ x t,k=Sum.inr x/\v=Value.str x t)
 | .inl i,v,h=>by
  obtain⟨t,e⟩:=Value.isInt_shape (k:=i) (v:=v) h;exact .inl ⟨i,t,rfl,e⟩
 | .inr x,v,h=>by
  obtain⟨t,e⟩:=Value.isStrOf_shape (x:=x) (v:=v) h;exact .inr ⟨x,t,rfl,e⟩
theorem BI (i:Int) (t:Tok):vw (.inl i) (.int i t)=true:=by simp [vw,Value.isInt]
theorem BG (x:Str) (t:Tok):vw (.inr x) (.str x t)=true:=by simp [vw,Value.isStrOf]
theorem Ld (a b:Int):decide ((Sum.inl a:eG)=Sum.inl b)=(a == b):=by
 by_cases e:a=b
 ·subst e; simp
 ·have h:¬ (Sum.inl a:eG)=Sum.inl b:=λq=>e (Sum.inl.inj q)
  rw [QT h];exact(beq_eq_false_iff_ne.mpr e).symm
theorem Kq (a b:Str):decide ((Sum.inr a:eG)=Sum.inr b)=decide (a=b):=by
 by_cases e:a=b
 ·subst e; simp
 ·have h:¬ (Sum.inr a:eG)=Sum.inr b:=λq=>e (Sum.inr.inj q)
  rw [QT h,QT e]
theorem Kr (a:Int) (b:Str):decide ((Sum.inl a:eG)=Sum.inr b)=false:=QT (λq=>nomatch q)
theorem JT (a:Str) (b:Int):decide ((Sum.inr a:eG)=Sum.inl b)=false:=QT (λq=>nomatch q)
def e_ (prog:Rk) (w:Rn):PySem.KeyKind prog w eG where
 is:=vw
 hash:=Ol w
 inj:=λv a b ha hb=>by
  rcases cV ha with ⟨i,t,rfl,rfl⟩ | ⟨x,t,rfl,rfl⟩
  ·rcases cV hb with ⟨j,u,rfl,e⟩ | ⟨y,u,rfl,e⟩
   ·injection e with e1 _; rw [e1]
   ·exact nomatch e
  ·rcases cV hb with ⟨j,u,rfl,e⟩ | ⟨y,u,rfl,e⟩
   ·exact nomatch e
   ·injection e with e1 _; rw [e1]
 byValue:=λk v h=>by
  rcases cV h with ⟨i,t,rfl,rfl⟩ | ⟨x,t,rfl,rfl⟩ <;> rfl
 pyHash:=λhv h=>by
  rcases cV hv with ⟨i,t,rfl,rfl⟩ | ⟨x,t,rfl,rfl⟩
  ·exact wpAny_pyHash_int h
  ·exact wpAny_pyHash_str h
 eqBool:=λhu hv h=>by
  rcases cV hu with ⟨i,t,rfl,rfl⟩ | ⟨x,t,rfl,rfl⟩
  ·rcases cV hv with ⟨j,u,rfl,rfl⟩ | ⟨y,u,rfl,rfl⟩
   ·rw [Ld] at h; exact wpAny_eqBool_int h
   ·rw [Kr] at h; exact SeqAt.EqAt.int_str i t y u _ _ _ _ h
  ·rcases cV hv with ⟨j,u,rfl,rfl⟩ | ⟨y,u,rfl,rfl⟩
   ·rw [JT] at h; exact SeqAt.EqAt.str_int x t j u _ _ _ _ h
   ·rw [Kq] at h; exact wpAny_eqBool_str h
 «strs»:=λk x t v h=>by
  rcases cV h with ⟨i,u,rfl,e⟩ | ⟨y,u,rfl,e⟩
  ·exact nomatch e
  ·injection e with e1 _
   subst e1;cases v <;> rfl
theorem yw (prog:Rk) (w:Rn) (i:Int) (t:Tok):(e_ prog w).is (.inl i) (.int i t)=true:=BI i t
theorem yv (prog:Rk) (w:Rn) (x:Str) (t:Tok):(e_ prog w).is (.inr x) (.str x t)=true:=BG x t
inductive V where
 | non | bl (b:Rr) | int (i:Int) | str (x:Str) | byt (b:Rq UInt8) | flt (b:UInt64) | ref (a:Rh) | ty (n:Rs)
 deriving DecidableEq
def aP:V->Rg->Prop
 | .non,u=>u=Value.none
 | .bl b,u=>u=Value.bool b
 | .int i,u=>∃ t,u=Value.int i t
 | .str x,u=>∃ t,u=Value.str x t
 | .byt b,u=>∃ t,u=Value.bytes b t
 | .flt b,u=>∃ t,u=Value.float b t
 | .ref a,u=>u=Value.ref a
 | .ty n,u=>u=Value.type n
abbrev bf:List V->List Rg->Prop:=Paired aP
theorem bf.length {xs:List V} {us:List Rg} (r:bf xs us):xs.length=us.length:=Paired.length r
theorem bf.get:∀ {xs:List V} {us:List Rg} {i:Nat} {x:V},bf xs us->xs[i]?=some x->∃ u,us[i]?=some u/\aP x u
 | _,_,_,_,.nil,e=>by simp at e
 | _,_,0,_,.cons r _,e=>by simp at e; subst e; exact⟨_,rfl,r⟩
 | _,_,i+1,x,.cons _ t,e=>by
  obtain⟨u,h1,h2⟩:=bf.get (i:=i) (x:=x) t (by simpa using e)
  exact⟨u,by simpa using h1,h2⟩
theorem bf.set {x:V} {u:Rg} (r:aP x u):∀ {xs:List V} {us:List Rg} (i:Nat),bf xs us->bf (xs.set i x) (us.set i u)
 | _,_,_,.nil=>.nil
 | _,_,0,.cons _ t=>.cons r t
 | _,_,i+1,.cons q t=>.cons q (bf.set r i t)
theorem bf.append:∀ {xs ys:List V} {us ws:List Rg},bf xs us->bf ys ws->bf (xs++ys) (us++ws)
 | _,_,_,_,.nil,s=>s
 | _,_,_,_,.cons r t,s=>.cons r (bf.append t s)
theorem bf.take:∀ {xs:List V} {us:List Rg} (n:Nat),bf xs us->bf (xs.take n) (us.take n)
 | _,_,0,_=>.nil
 | _,_,_+1,.nil=>.nil
 | _,_,n+1,.cons r t=>.cons r (bf.take n t)
theorem bf.drop:∀ {xs:List V} {us:List Rg} (n:Nat),bf xs us->bf (xs.drop n) (us.drop n)
 | _,_,0,r=>r
 | _,_,_+1,.nil=>.nil
 | _,_,n+1,.cons _ t=>bf.drop n t
def ul:Ri V->Ri Rg->Prop
 | some v,some u=>aP v u
 | none,none=>True
 | _,_=>False
def KV {κ:Type}:List (κ×V)->List (κ×Rg)->Prop:=Paired fun(p:κ×V) (q:κ×Rg)=>p.1=q.1/\aP p.2 q.2
def kV:eG->V
 | .inl i=>.int i
 | .inr x=>.str x
inductive HO where
 | lst (xs:List V)
 | tup (xs:List V)
 | dK (kvs:List (eG×V)) | dT (kvs:List (List eG×V))
 | set (S:Int->Rr) (n:Nat)
 | ins (C dx:Rh) (fs:List (Str×V))
 | own (x:Rh)
 | xd (fs:List (Str×V))
 | met (f x:Rh)
 | rng (lo hi:Int)
 | frz (o:Rv) (u:HO)
 | tbl (ps:Rq Rg)
 | ext (φ:Ro->Prop)
abbrev Hp:=Rh->Ri HO
def bS (H:Hp) (a:Rh) (o:HO):Hp:=λb=>if b=a then some o else H b
theorem br {H:Hp} {a:Rh} {o:HO}:bS H a o a=some o:=by unfold bS; rw [if_pos rfl]
theorem aF {H:Hp} {a b:Rh} {o:HO} (h:b≠a):bS H a o b=H b:=by unfold bS; rw [if_neg h]
theorem M9 {H:Hp} {a b:Rh} {o u:HO} (h:H a=some o) (h':H b=some u) (d:o≠u):a≠b:=by
 intro e; subst e; rw [h] at h'; exact d (Qx h')
theorem a9 {H:Hp} {a b:Rh} {o:HO} (h:H a=some o) (h':H b=none):a≠b:=by
 intro e; subst e; rw [h] at h'; cases h'
section
variable (P:Rk) (w:Rn)
def dY (H:Hp) (h:Ro) (a:Rh):HO->Prop
 | .lst xs=>xs.length<=sizeLine/\∃ (its:List Rg) (n:Nat),bf xs its/\h.get? a=some {cls:=.type "list",data:=.seq its.toArray n}
 | .tup xs=>xs.length<=sizeLine/\∃ its:List Rg,bf xs its/\IsTup h a its.toArray
 | .dK kvs=>kvs.length<=sizeLine/\(a == sysModules)=false/\∃ vs,KV kvs vs/\h.DictOf (e_ P w) a vs
 | .dT kvs=>kvs.length<=sizeLine/\(a == sysModules)=false/\∃ xs:List (List eG×Rh×Rg),
   Paired (λ(p:List eG×V) (q:List eG×Rh×Rg)=>p.1=q.1/\H q.2.1=some (.tup (p.1.map kV))/\aP p.2 q.2.2) kvs xs/\
   ∃ o es ep,h.get? a=some o/\o.ExactDict/\o.data=.dict es ep/\es.toList=xs.map (entryOfKey (tupleKind (e_ P w)))/\(xs.map (·.1)).Nodup
 | .set S n=>h.SetOf (intKind P w) a S n
 | .ins C dx fs=>H dx=some (.own a)/\fs.length<=1000/\dx≠a/\h.get? a=some (PySem.W.instObj C dx)/\
   ∃ mA,h.Ns1 dx mA/\(∀ f,ul (fs.lookup f) (mA f))/\PySem.Within mA (fs.map (·.1))
 | .own _=>∃ o,h.get? a=some o
 | .xd fs=>∃ mA,h.Ns1 a mA/\∀ f,ul (fs.lookup f) (mA f)
 | .rng lo hi=>∃ t u v,h.get? a=some {cls:=.type "range",data:=.fields #[.int lo t,.int hi u,.int 1 v]}
 | .frz o u=>h.get? a=some o/\dY H h a u
 | .tbl ps=>h.get? a=some {cls:=.none,data:=.fields ps}
 | .met f x=>h.get? a=some (PySem.W.methodObj (.ref f) (.ref x))
 | .ext φ=>φ h/\(∃ o,h.get? a=some o)/\∀ h1 h2:Ro,φ h1->(∀ o,h1.get? a=some o->h2.get? a=some o)->φ h2
def mL (H:Hp) (h:Ro):Prop:=∀ a o,H a=some o->dY P w H h a o
end
section
variable {P:Rk} {w:Rn} {H H':Hp} {h h':Ro} {a:Rh} {o:HO}
theorem dY.lt (x:dY P w H h a o):a < h.objs.size:=by
 cases o with
 | lst xs=>obtain⟨_,_,_,_,e⟩:=x; exact P3 e
 | tup xs=>obtain⟨_,_,_,p⟩:=x; exact p.lt
 | dK kvs=>obtain⟨_,_,_,_,o,_,_,e,_⟩:=x; exact P3 e
 | dT kvs=>obtain⟨_,_,_,_,o,_,_,e,_⟩:=x; exact P3 e
 | set S n=>obtain⟨o,_,_,_,e,_⟩:=x; exact P3 e
 | ins C dx fs=>obtain⟨_,_,_,e,_⟩:=x; exact P3 e
 | own y=>obtain⟨_,e⟩:=x; exact P3 e
 | xd fs=>obtain⟨_,⟨_,_,_,e,_⟩,_⟩:=x; exact P3 e
 | rng lo hi=>obtain⟨_,_,_,e⟩:=x; exact P3 e
 | frz ob u=>obtain⟨e,_⟩:=x; exact P3 e
 | tbl ps=>exact P3 (show h.get? a=some _ from x)
 | met f y=>exact P3 (show h.get? a=some _ from x)
 | ext φ=>obtain⟨_,⟨_,e⟩,_⟩:=x; exact P3 e
theorem Paired.mapP {α β:Type} {F G:α->β->Prop}:∀ {l₁:List α} {l₂:List β},Paired F l₁ l₂->(∀ a b,F a b->G a b)->Paired G l₁ l₂
 | _,_,.nil,_=>.nil
 | _,_,.cons r t,f=>.cons (f _ _ r) (Paired.mapP t f)
theorem dY.stay (x:dY P w H h a o) (k:∀ b u,(b=a\/H b=some (.own a))->h.get? b=some u->h'.get? b=some u)
  (ho:∀ b,H b=some (.own a)->H' b=some (.own a)) (ht:∀ b xs,H b=some (.tup xs)->H' b=some (.tup xs)):dY P w H' h' a o:=by
 induction o with
 | lst xs=>obtain⟨z,its,n,r,e⟩:=x; exact⟨z,its,n,r,k _ _ (.inl rfl) e⟩
 | tup xs=>obtain⟨z,its,r,ob,e,c⟩:=x; exact⟨z,its,r,ob,k _ _ (.inl rfl) e,c⟩
 | dK kvs=>obtain⟨z,y,vs,r,ob,es,ep,e,c⟩:=x; exact⟨z,y,vs,r,ob,es,ep,k _ _ (.inl rfl) e,c⟩
 | dT kvs=>
  obtain⟨z,y,xs,r,ob,es,ep,e,c⟩:=x;exact⟨z,y,xs,Paired.mapP r λp q z=>⟨z.1,ht _ _ z.2.1,z.2.2⟩,ob,es,ep,k _ _ (.inl rfl) e,c⟩
 | set S n=>obtain⟨ob,es,ep,t,e,c⟩:=x; exact⟨ob,es,ep,t,k _ _ (.inl rfl) e,c⟩
 | ins C dx fs=>
  obtain⟨d,z,ne,e,mA,⟨od,es,ep,e2,c⟩,r⟩:=x;exact⟨ho _ d,z,ne,k _ _ (.inl rfl) e,mA,⟨od,es,ep,k _ _ (.inr d) e2,c⟩,r⟩
 | own y=>obtain⟨ob,e⟩:=x; exact⟨ob,k _ _ (.inl rfl) e⟩
 | xd fs=>obtain⟨mA,⟨od,es,ep,e,c⟩,r⟩:=x; exact⟨mA,⟨od,es,ep,k _ _ (.inl rfl) e,c⟩,r⟩
 | rng lo hi=>obtain⟨t,u,v,e⟩:=x; exact⟨t,u,v,k _ _ (.inl rfl) e⟩
 | frz ob u ih=>obtain⟨e,q⟩:=x; exact⟨k _ _ (.inl rfl) e,ih q⟩
 | tbl ps=>
  have e:h.get? a=some {cls:=.none,data:=.fields ps}:=x
  show h'.get? a=some {cls:=.none,data:=.fields ps}
  exact k a _ (.inl rfl) e
 | met f y=>
  have e:h.get? a=some (PySem.W.methodObj (.ref f) (.ref y)):=x
  show h'.get? a=some (PySem.W.methodObj (.ref f) (.ref y))
  exact k a _ (.inl rfl) e
 | ext φ=>obtain⟨p,⟨o,e⟩,st⟩:=x; exact⟨st _ _ p λo q=>k _ _ (.inl rfl) q,⟨o,k _ _ (.inl rfl) e⟩,st⟩
theorem mL.lt (x:mL P w H h) (e:H a=some o):a < h.objs.size:=(x a o e).lt
theorem mL.fresh (x:mL P w H h) (e:h.objs.size<=a):H a=none:=by
 cases q:H a with
 | none=>rfl
 | some u=>exact absurd (Qc (x.lt q) e) (QV _)
theorem mL.kept (x:mL P w H h) (k:∀ b u,h.get? b=some u->h'.get? b=some u):mL P w H h':=λa o e=>
 (x a o e).stay (λb u _ q=>k b u q) (λ_ q=>q) λ_ _ q=>q
theorem mL.laid (x:mL P w H h) (k:∀ b u,h.get? b=some u->h'.get? b=some u) (hp:h.objs.size<=a) (new:dY P w (bS H a o) h' a o):mL P w (bS H a o) h':=λb u e=>by
 have hn:=x.fresh hp
 by_cases hb:b=a
 ·subst hb; rw [br] at e; cases e; exact new
 ·rw [aF hb] at e;exact(x b u e).stay (λc v _ q=>k c v q) (λc q=>by rw [aF (a9 q hn)]; exact q) λc xs q=>by rw [aF (a9 q hn)]; exact q
end
def Rd (H:Hp) (a:Rh) (u:HO):Prop:=H a=some u\/∃ o,H a=some (.frz o u)
theorem Rd.ok {P:Rk} {w:Rn} {H:Hp} {h:Ro} {a:Rh} {u:HO} (r:Rd H a u) (x:mL P w H h):dY P w H h a u:=by
 rcases r with r | ⟨o,r⟩
 ·exact x a u r
 ·obtain⟨_,q⟩:=x a _ r;exact q
def LF:Ri HO->Prop
 | some (.lst _)=>True
 | some (.dK _)=>True
 | some (.dT _)=>True
 | some (.set _ _)=>True
 | some (.ins _ _ _)=>True
 | some (.ext _)=>True
 | _=>False
section
variable {P:Rk} {w:Rn} {H:Hp} {h h':Ro} {x e:Rh} {o':HO}
theorem mL.write (ok:mL P w H h) (mu:LF (H x)) (he:e=x\/H e=some (.own x)) (k:∀ b u,b≠e->h.get? b=some u->h'.get? b=some u) (heo:∃ u,h'.get? e=some u)
  (new:dY P w (bS H x o') h' x o'):mL P w (bS H x o') h':=λb u q=>by
 have nown:∀ c y,H c=some (.own y)->c≠x:=λc y r z=>by subst z; rw [r] at mu; exact mu
 have ntup:∀ c xs,H c=some (.tup xs)->c≠x:=λc xs r z=>by subst z; rw [r] at mu; exact mu
 by_cases hb:b=x
 ·subst hb; rw [br] at q; cases q; exact new
 ·rw [aF hb] at q
  by_cases hbe:b=e
  ·have q':H b=some (.own x):=by
    rcases he with z | z
    ·exact absurd (hbe.trans z) hb
    ·rw [hbe]; exact z
   rw [q] at q'; cases q'
   obtain⟨v,hv⟩:=heo;exact⟨v,by rw [hbe]; exact hv⟩
  ·refine(ok b u q).stay (λc v hc r=>k c v ?_ r) (λc r=>by rw [aF (nown c b r)]; exact r) λc xs r=>by rw [aF (ntup c xs r)]; exact r
   rcases hc with rfl | hc
   ·exact hbe
   ·rintro rfl;rcases he with z | z
    ·exact nown c b hc z
    ·rw [hc] at z; cases z; exact hb rfl
end
structure Un (fs ex:List Rh) (H H':Hp) (h h':Ro):Prop where
 keep:∀ b o,h.get? b=some o->H b=none->b∉fs->b∉ex->h'.get? b=some o
 slot:∀ b o,h.get? b=some o->H b=none->b∈fs->b∉ex->∃ sl,h'.get? b=some {o with slots:=sl}
 free:∀ b o,h.get? b=some o->H b=none->b∉ex->H' b=none
 there:∀ b o,h.get? b=some o->b∉ex->∃ o',h'.get? b=some o'
 tups:∀ b xs,H b=some (.tup xs)->H' b=some (.tup xs)
 frzs:∀ b o u,H b=some (.frz o u)->H' b=some (.frz o u)
 tbls:∀ b ps,H b=some (.tbl ps)->∃ more,H' b=some (.tbl (ps++more))
section
variable {fs fs' ex ex':List Rh} {H H1 H2:Hp} {h h1 h2 h':Ro} {a x e:Rh} {o:HO}
theorem Un.any (u:Un fs ex H H1 h h1) {b:Rh} {ob:Rv} (q:h.get? b=some ob) (n:H b=none) (hx:b∉ex):∃ sl,h1.get? b=some {ob with slots:=sl}:=by
 by_cases hb:b∈fs
 ·exact u.slot b ob q n hb hx
 ·exact⟨ob.slots,u.keep b ob q n hb hx⟩
theorem Un.trans (a:Un fs ex H H1 h h1) (b:Un fs ex H1 H2 h1 h2):Un fs ex H H2 h h2 where
 keep:=λc ob q n hc hx=>b.keep c ob (a.keep c ob q n hc hx) (a.free c ob q n hx) hc hx
 slot:=λc ob q n hc hx=>by
  obtain⟨sl,e1⟩:=a.slot c ob q n hc hx;obtain⟨sl',e2⟩:=b.slot c _ e1 (a.free c ob q n hx) hc hx;exact⟨sl',e2⟩
 free:=λc ob q n hx=>by
  obtain⟨o',e1⟩:=a.there c ob q hx;exact b.free c o' e1 (a.free c ob q n hx) hx
 there:=λc ob q hx=>by
  obtain⟨o',e1⟩:=a.there c ob q hx;exact b.there c o' e1 hx
 tups:=λc xs q=>b.tups c xs (a.tups c xs q)
 frzs:=λc ob xs q=>b.frzs c ob xs (a.frzs c ob xs q)
 tbls:=λc ps q=>by
  obtain⟨m1,e1⟩:=a.tbls c ps q;obtain⟨m2,e2⟩:=b.tbls c _ e1;exact⟨m1++m2,by rw [e2,Array.append_assoc]⟩
theorem Un.kept (k:∀ b u,h.get? b=some u->h'.get? b=some u):Un fs ex H H h h':=
 ⟨λb ob q _ _ _=>k b ob q,λb ob q _ _ _=>⟨ob.slots,k b ob q⟩,λ_ _ _ n _=>n,λb ob q _=>⟨ob,k b ob q⟩,λ_ _ q=>q,λ_ _ _ q=>q,λ_ ps q=>⟨#[],by rw [q]; simp⟩⟩
theorem Un.refl:Un fs ex H H h h:=Un.kept λ_ _ q=>q
theorem Un.laid (k:∀ b u,h.get? b=some u->h'.get? b=some u) (hp:h.objs.size<=a) (hn:H a=none):Un fs ex H (bS H a o) h h' where
 keep:=λb u q _ _ _=>k b u q
 slot:=λb u q _ _ _=>⟨u.slots,k b u q⟩
 free:=λb u q n _=>by rw [aF (P_ (Qc (P3 q) hp))]; exact n
 there:=λb u q _=>⟨u,k b u q⟩
 tups:=λb xs q=>by rw [aF (a9 q hn)]; exact q
 frzs:=λb u xs q=>by rw [aF (a9 q hn)]; exact q
 tbls:=λb ps q=>⟨#[],by rw [aF (a9 q hn),q]; simp⟩
theorem Un.write (mu:LF (H x)) (he:e=x\/H e=some (.own x)) (k:∀ b u,b≠e->h.get? b=some u->h'.get? b=some u) (heo:∃ u,h'.get? e=some u):Un fs ex H (bS H x o) h h':=by
 have hx:∀ b,H b=none->b≠x:=λb n z=>by subst z; rw [n] at mu; exact mu
 have hb:∀ b,H b=none->b≠e:=λb n z=>by
  subst z;rcases he with r | r
  ·exact hx b n r
  ·rw [n] at r; cases r
 have hm:∀ b u,H b=some u->¬ LF (some u)->b≠x:=λb u q nm z=>by subst z; rw [q] at mu; exact nm mu
 refine⟨λb u q n _ _=>k b u (hb b n) q,λb u q n _ _=>⟨u.slots,k b u (hb b n) q⟩,λb u q n _=>by rw [aF (hx b n)]; exact n,λb u q _=>?_,
  λb xs q=>by rw [aF (hm b _ q λz=>z)]; exact q,λb u xs q=>by rw [aF (hm b _ q λz=>z)]; exact q,λb ps q=>⟨#[],by rw [aF (hm b _ q λz=>z),q]; simp⟩⟩
 by_cases hbe:b=e
 ·subst hbe; exact heo
 ·exact⟨u,k b u hbe q⟩
end
def NF (h:Ro) (H:Hp):List Rh:=(List.range h.objs.size).filter λa=>(H a).isSome
def vZ (h:Ro) (H:Hp):Ro:=PySem.W.hideAll h (NF h H)
theorem CF (h:Ro) (H:Hp):(vZ h H).objs.size=h.objs.size:=PySem.W.hideAll_size _ _
theorem FF {h:Ro} {H:Hp} {b:Rh} {o:Rv} (e:h.get? b=some o) (n:H b=none):(vZ h H).get? b=some o:=
 PySem.W.hideAll_get _ e λhm=>by
  have q:(H b).isSome=true:=(List.mem_filter.mp hm).2;rw [n] at q; simp at q
theorem Hg {h:Ro} {H:Hp} {b:Rh} {o:Rv} (e:(vZ h H).get? b=some o):h.get? b=some o/\H b=none:=by
 have e':h.get? b=some o:=PySem.W.of_hideAll (NF h H) e;refine⟨e',?_⟩;cases q:H b with
 | none=>rfl
 | some x=>
  have hm:b∈NF h H:=List.mem_filter.mpr ⟨QY.mpr (P3 e'),by simp [q]⟩
  have z:(vZ h H).get? b=none:=PySem.W.hideAll_none (NF h H) hm;rw [z] at e; cases e
def Hd (g h:Ro) (L:Rh):List (Rh×Rv):=(List.range h.objs.size).filterMap λa=>if a=L\/(g.get? a).isSome=true then none else(h.get? a).map λo=>(a,o)
def av (g h:Ro) (L d:Rh):List (Rh×Rv):=(Hd g h L).filter λp=>decide (p.1≠d)
structure Mod (K:PySem.W.Frag) (mg:Str->Ri Rg) (base:Ro):Prop where
 kin:K.In base
 glob:base.Ns mainGlobals mg
 blt:∃ mb,base.Ns builtinsNs mb/\∀ x:Str,x≠"__name__"->mb x=bootBuiltins x
 nolimit:base.NoLimit
structure Cx where
 prog:Rk
 w:Rn
 K:PySem.W.Frag
 mg:Str->Ri Rg
 base:Ro
 A:Rm
 N:List Str
 s₀:Rf
 H₀:Hp
 env:Env
 outer:List Env
 stack:List Env
 ex:List Rh
 fn:Str->Rr
 calm:Rr
 pn:List (Rh×Rv)
 xe:Rg->Rf->Prop
def ic (l:List Env):List Rh:=l.filterMap (·.frame)
abbrev Cx.fs (X:Cx):List Rh:=ic X.outer
def Af (sc:Scope) (x:Str):Prop:=sc.names.lookup x=some .local\/sc.names.lookup x=some .cell\/sc.names.lookup x=some .free
def Gh (sc:Scope) (x:Str):Prop:=sc.names.lookup x=some .local\/sc.names.lookup x=some .cell
def Og (env:Env) (h:Ro) (m:Str->Ri Rg) (x:Str) (u:Rg):Prop:=
 (env.kindOf x=some .local/\m x=some u)\/((env.kindOf x=some .cell\/env.kindOf x=some .free)/\∃ c,env.cells.lookup x=some c/\h.IsCell c (some u))
structure Cx.Ok (X:Cx):Prop where
 mod:Mod X.K X.mg X.base
 kind:X.env.scope.kind=.function
 glob:X.env.globals=mainGlobals
 blt:X.env.builtins=builtinsNs
 above:X.s₀.heap.objs.size<=X.env.locals
 inj:∀ x y c,X.env.cells.lookup x=some c->X.env.cells.lookup y=some c->x=y
 has:∀ x,(X.env.kindOf x=some .cell\/X.env.kindOf x=some .free)->∃ c,X.env.cells.lookup x=some c
 cab:∀ x c,X.fn x=true->X.env.cells.lookup x=some c->X.s₀.heap.objs.size<=c
 hd:X.calm=true->X.A.handled=none
 frames:X.A.frames=some X.stack
 stk:X.stack=X.outer\/(X.stack=X.env::X.outer/\X.env.frame=some X.env.locals)
 exf:∀ b∈X.ex,b≠X.env.locals/\∀ x c,X.env.cells.lookup x=some c->c≠b
 bs:∀ b o,X.base.get? b=some o->X.s₀.heap.get? b=some o/\X.H₀ b=none
 bsz:X.base.objs.size<=X.s₀.heap.objs.size
 noex:∀ b o,X.base.get? b=some o->b∉X.ex
 exfs:∀ b∈X.ex,b∉X.fs
 funs:X.s₀.heap.FunFrames X.base X.outer
 frf:∀ b∈X.fs,X.H₀ b=none
structure aC (X:Cx) (Rw:List (Rh×Rv)) (σ:List (Ri V)) (H:Hp) (s:Rf):Prop where
 ok:X.Ok
 os:s.os=X.s₀.os
 bare:AllBare s.gens
 base:Un X.fs X.ex X.H₀ H X.s₀.heap s.heap
 loc:∃ m,s.heap.Ns X.env.locals m/\∀ (i:Nat) (x:Str) (v:V),X.N[i]?=some x->σ[i]?=some (some v)->Af X.env.scope x->∃ u,aP v u/\Og X.env s.heap m x u
 cell:∀ x c,X.env.cells.lookup x=some c->∃ v,s.heap.IsCell c v
 free:H X.env.locals=none
 freeC:∀ x c,X.env.cells.lookup x=some c->H c=none
 pin:∀ p∈X.pn++Rw,s.heap.get? p.1=some p.2/\H p.1=none/\p.1≠X.env.locals/\p.1∉X.fs/\∀ v,p.2.data≠.cell v
 hok:mL X.prog X.w H s.heap
 len:σ.length=X.N.length
section
variable {X:Cx} {Rw:List (Rh×Rv)} {σ:List (Ri V)} {H H':Hp} {s:Rf} {h':Ro}
theorem Cx.Ok.nofr (ok:X.Ok) {b:Rh} {o:Rv} (e:X.base.get? b=some o):b∉X.fs:=λhb=>by
 have:=(ok.funs.mem hb).1;rw [e] at this; cases this
theorem aC.bs (I:aC X Rw σ H s):∀ b o,X.base.get? b=some o->s.heap.get? b=some o/\H b=none:=λb o e=>
 ⟨I.base.keep b o (I.ok.bs b o e).1 (I.ok.bs b o e).2 (I.ok.nofr e) (I.ok.noex b o e),I.base.free b o (I.ok.bs b o e).1 (I.ok.bs b o e).2 (I.ok.noex b o e)⟩
theorem aC.bk (I:aC X Rw σ H s):∀ b o,X.base.get? b=some o->s.heap.get? b=some o:=λb o e=>(I.bs b o e).1
theorem aC.mod (I:aC X Rw σ H s):Mod X.K X.mg X.base:=I.ok.mod
theorem aC.kIn (I:aC X Rw σ H s):X.K.In s.heap:=I.ok.mod.kin.keeps I.bk
theorem aC.lt (I:aC X Rw σ H s):X.env.locals < s.heap.objs.size:=let ⟨_,hn,_⟩:=I.loc; hn.lt
theorem aC.sz (I:aC X Rw σ H s):X.s₀.heap.objs.size<=s.heap.objs.size:=QF I.ok.above (Nat.le_of_lt I.lt)
theorem aC.nofs (I:aC X Rw σ H s) {a:Rh} (h:s.heap.objs.size<=a):a∉X.fs:=λhb=>by
 obtain⟨_,o,ho,_⟩:=I.ok.funs.mem hb;exact absurd (Qc (P3 ho) (QF I.sz h)) (QV _)
theorem aC.cne (I:aC X Rw σ H s):∀ x c,X.env.cells.lookup x=some c->c≠X.env.locals:=λx c e z=>by
 obtain⟨v,o,ho,hd⟩:=I.cell x c e;obtain⟨m,⟨o',es,ep,ho',hd',_⟩,_⟩:=I.loc;rw [z,ho'] at ho; cases ho; rw [hd'] at hd; cases hd
theorem aC.funs (I:aC X Rw σ H s):s.heap.FunFrames X.base X.outer:=by
 have all:∀ (l:List Env),(∀ b∈ic l,b∈X.fs)->X.s₀.heap.FunFrames X.base l->s.heap.FunFrames X.base l:=by
  intro l
  induction l with
  | nil=>intro _ _; trivial
  | cons env r ih=>
   intro hs hl;obtain⟨hk,⟨L,o,hf,hn,ho,hd⟩,hr⟩:=hl;have hL:L∈X.fs:=hs L (by unfold ic; rw [List.filterMap_cons,hf]; exact Qa)
   obtain⟨sl,e⟩:=I.base.slot L o ho (I.ok.frf L hL) hL λz=>I.ok.exfs L z hL
   exact⟨hk,⟨L,_,hf,hn,e,hd⟩,ih (λb hb=>hs b (by unfold ic; rw [List.filterMap_cons,hf]; exact Qb _ hb)) hr⟩
 exact all X.outer (λ_ hb=>hb) I.ok.funs
theorem aC.stack (I:aC X Rw σ H s):s.heap.FunFrames X.base X.stack:=by
 rcases I.ok.stk with e | ⟨e,hf⟩
 ·rw [e]; exact I.funs
 ·rw [e];obtain⟨m,hn,_⟩:=I.loc;refine .cons (by rw [I.ok.kind]; decide) hf hn ?_ I.funs
  exact Heap.get?_none_of_le (QF I.ok.bsz I.ok.above)
theorem aC.stkSub (I:aC X Rw σ H s):∀ b∈ic X.stack,b∈X.env.locals::X.fs:=λb hb=>by
 rcases I.ok.stk with e | ⟨e,hf⟩
 ·rw [e] at hb; exact Qb _ hb
 ·rw [e] at hb;unfold ic at hb;rw [List.filterMap_cons,hf] at hb;exact hb
theorem aC.stkFree (I:aC X Rw σ H s):∀ b∈ic X.stack,H b=none:=λb hb=>by
 rcases P9.mp (I.stkSub b hb) with e | hb
 ·rw [e]; exact I.free
 ·obtain⟨_,o,ho,_⟩:=I.ok.funs.mem hb;exact I.base.free b o ho (I.ok.frf b hb) λz=>I.ok.exfs b z hb
theorem aC.step {g':Rq GenState} {t':Nat} {d':Drawn} {ch:List Rh} (I:aC X Rw σ H s)
  (hch:∀ b∈ch,(b∈X.ex\/X.s₀.heap.objs.size<=b)/\b≠X.env.locals/\(∀ x c,X.env.cells.lookup x=some c->c≠b)/\∀ p∈X.pn++Rw,p.1≠b)
  (keep:∀ b o,b≠X.env.locals->b∉X.fs->b∉ch->s.heap.get? b=some o->H b=none->h'.get? b=some o)
  (slot:∀ b o,b≠X.env.locals->b∈X.fs->b∉ch->s.heap.get? b=some o->H b=none->∃ sl,h'.get? b=some {o with slots:=sl}) (free:∀ b o,b∉ch->s.heap.get? b=some o->H b=none->H' b=none)
  (there:∀ b o,b∉ch->s.heap.get? b=some o->∃ o',h'.get? b=some o')
  (tups:∀ b xs,H b=some (.tup xs)->H' b=some (.tup xs)) (frzs:∀ b o u,H b=some (.frz o u)->H' b=some (.frz o u)) (tbls:∀ b ps,H b=some (.tbl ps)->∃ more,H' b=some (.tbl (ps++more)))
  (ns:∀ m,s.heap.Ns X.env.locals m->h'.Ns X.env.locals m) (hok:mL X.prog X.w H' h') (hg:AllBare g'):
  aC X Rw σ H' {s with heap:=h',gens:=g',drawn:=d',toks:=t'}:=by
 have neL:∀ b o,X.s₀.heap.get? b=some o->b≠X.env.locals:=λb o e=>P_ (Qc (P3 e) I.ok.above)
 have neC:∀ b o,X.s₀.heap.get? b=some o->b∉X.ex->b∉ch:=λb o e hx hb=>by
  rcases(hch b hb).1 with z | z
  ·exact hx z
  ·exact absurd (Qc (P3 e) z) (QV _)
 have cellK:∀ x c,X.env.cells.lookup x=some c->∀ v,s.heap.IsCell c v->h'.IsCell c v:=λx c e v ⟨o,ho,hd⟩=>by
  have nch:c∉ch:=λz=>(hch c z).2.2.1 x c e rfl
  by_cases hc:c∈X.fs
  ·obtain⟨sl,q⟩:=slot c o (I.cne x c e) hc nch ho (I.freeC x c e);exact⟨_,q,hd⟩
  ·exact⟨o,keep c o (I.cne x c e) hc nch ho (I.freeC x c e),hd⟩
 refine⟨I.ok,I.os,hg,⟨λb o e n hb hx=>?_,λb o e n hb hx=>?_,λb o e n hx=>?_,λb o e hx=>?_,λb xs e=>tups b xs (I.base.tups b xs e),λb o xs e=>frzs b o xs (I.base.frzs b o xs e),λb ps e=>?_⟩,?_,λx c e=>?_,?_,λx c e=>?_,λp hp=>?_,hok,I.len⟩
 ·exact keep b o (neL b o e) hb (neC b o e hx) (I.base.keep b o e n hb hx) (I.base.free b o e n hx)
 ·obtain⟨sl,e1⟩:=I.base.slot b o e n hb hx;obtain⟨sl',e2⟩:=slot b _ (neL b o e) hb (neC b o e hx) e1 (I.base.free b o e n hx);exact⟨sl',e2⟩
 ·obtain⟨o',e1⟩:=I.base.there b o e hx;exact free b o' (neC b o e hx) e1 (I.base.free b o e n hx)
 ·obtain⟨o',e1⟩:=I.base.there b o e hx;exact there b o' (neC b o e hx) e1
 ·obtain⟨m1,e1⟩:=I.base.tbls b ps e;obtain⟨m2,e2⟩:=tbls b _ e1;exact⟨m1++m2,by rw [e2,Array.append_assoc]⟩
 ·obtain⟨m,hn,hl⟩:=I.loc;refine⟨m,ns m hn,λi x v e1 e2 e3=>?_⟩
  obtain⟨u,r,l⟩:=hl i x v e1 e2 e3;refine⟨u,r,?_⟩;rcases l with l | ⟨k,c,e,z⟩
  ·exact .inl l
  ·exact .inr ⟨k,c,e,cellK x c e _ z⟩
 ·obtain⟨v,z⟩:=I.cell x c e;exact⟨v,cellK x c e v z⟩
 ·obtain⟨m,⟨o,_,_,ho,_⟩,_⟩:=I.loc;exact free _ o (λz=>(hch _ z).2.1 rfl) ho I.free
 ·obtain⟨v,o,ho,hd⟩:=I.cell x c e;exact free c o (λz=>(hch c z).2.2.1 x c e rfl) ho (I.freeC x c e)
 ·obtain⟨e,n,ne,nf,d⟩:=I.pin p hp;have nch:p.1∉ch:=λz=>(hch p.1 z).2.2.2 p hp rfl
  exact⟨keep p.1 p.2 ne nf nch e n,free p.1 p.2 nch e n,ne,nf,d⟩
theorem aC.un {t':Nat} (I:aC X Rw σ H s) (u:Un X.fs [] H H' s.heap h') (hok:mL X.prog X.w H' h'):aC X Rw σ H' {s with heap:=h',toks:=t'}:=by
 obtain⟨m,⟨o,es,ep,ho,r⟩,_⟩:=id I.loc;obtain⟨sl,hL⟩:=u.any ho I.free (by simp)
 exact I.step (g':=s.gens) (d':=s.drawn) (ch:=[]) (λ_ z=>nomatch z) (λb o _ hb _ e n=>u.keep b o e n hb (by simp)) (λb o _ hb _ e n=>u.slot b o e n hb (by simp)) (λb o _ e n=>u.free b o e n (by simp)) (λb o _ e=>u.there b o e (by simp)) u.tups u.frzs u.tbls (λm' hm=>by
  obtain⟨o',es',ep',ho',r'⟩:=hm;rw [ho] at ho'; cases ho'
  exact⟨_,es',ep',hL,r'⟩) hok I.bare
theorem aC.call {g':Rq GenState} {t':Nat} {d':Drawn} {ch:List Rh} (I:aC X Rw σ H s) (u:Un (ic X.stack) ch H H' s.heap h') (hok:mL X.prog X.w H' h') (hg:AllBare g')
  (hch:∀ b∈ch,(b∈X.ex\/X.s₀.heap.objs.size<=b)/\b≠X.env.locals/\(∀ x c,X.env.cells.lookup x=some c->c≠b)/\∀ p∈X.pn++Rw,p.1≠b):
  aC X Rw σ H' {s with heap:=h',gens:=g',drawn:=d',toks:=t'}:=by
 obtain⟨m,⟨o,es,ep,ho,r⟩,_⟩:=id I.loc;obtain⟨sl,hL⟩:=u.any ho I.free λz=>(hch _ z).2.1 rfl
 exact I.step (ch:=ch) hch (λb o hL hb hc e n=>u.keep b o e n (λz=>(P9.mp (I.stkSub b z)).elim hL hb) hc) (λb o _ _ hc e n=>u.any e n hc) (λb o hc e n=>u.free b o e n hc) (λb o hc e=>u.there b o e hc) u.tups u.frzs u.tbls (λm' hm=>by
  obtain⟨o',es',ep',ho',r'⟩:=hm;rw [ho] at ho'; cases ho'
  exact⟨_,es',ep',hL,r'⟩) hok hg
theorem aC.turned {t':Nat} {it:Rh} (I:aC X Rw σ H s) (k:∀ b o,b≠it->s.heap.get? b=some o->h'.get? b=some o) (hn:H it=none) (hL:it≠X.env.locals)
  (h1:it∈X.ex\/X.s₀.heap.objs.size<=it) (h2:∀ x c,X.env.cells.lookup x=some c->c≠it) (h3:∀ p∈X.pn++Rw,p.1≠it):aC X Rw σ H {s with heap:=h',toks:=t'}:=by
 have nit:∀ b u,H b=some u->b≠it:=λb u e z=>by rw [z,hn] at e; cases e
 refine I.step (g':=s.gens) (d':=s.drawn) (ch:=[it]) (λb hb=>?_) (λb o _ _ hc e _=>k b o (λz=>hc (by simp [z])) e) (λb o _ _ hc e _=>⟨o.slots,k b o (λz=>hc (by simp [z])) e⟩) (λ_ _ _ _ n=>n)
  (λb o hc e=>⟨o,k b o (λz=>hc (by simp [z])) e⟩) (λ_ _ e=>e) (λ_ _ _ e=>e) (λb ps e=>⟨#[],by rw [e]; simp⟩) (λm hm=>?_) (λb u e=>?_) I.bare
 ·have e:b=it:=by simpa using hb
  subst e;exact⟨h1,hL,h2,h3⟩
 ·obtain⟨o,es,ep,ho,r⟩:=hm;exact⟨o,es,ep,k _ o (Ne.symm hL) ho,r⟩
 ·refine(I.hok b u e).stay (λc v hc q=>k c v ?_ q) (λ_ q=>q) λ_ _ q=>q
  rcases hc with z | z
  ·rw [z]; exact nit b u e
  ·exact nit c _ z
theorem aC.tok (I:aC X Rw σ H s) (t:Nat):aC X Rw σ H {s with toks:=t}:=I.un (h':=s.heap) (t':=t) Un.refl I.hok
theorem aC.kept {t':Nat} (I:aC X Rw σ H s) (k:∀ b u,s.heap.get? b=some u->h'.get? b=some u):aC X Rw σ H {s with heap:=h',toks:=t'}:=I.un (Un.kept k) (I.hok.kept k)
theorem aC.laid {a:Rh} {o:HO} {t':Nat} (I:aC X Rw σ H s) (k:∀ b u,s.heap.get? b=some u->h'.get? b=some u) (hp:s.heap.objs.size<=a) (new:dY X.prog X.w (bS H a o) h' a o):
  aC X Rw σ (bS H a o) {s with heap:=h',toks:=t'}:=I.un (Un.laid k hp (I.hok.fresh hp)) (I.hok.laid k hp new)
theorem aC.write {x e:Rh} {o:HO} {t':Nat} (I:aC X Rw σ H s) (mu:LF (H x)) (he:e=x\/H e=some (.own x)) (k:∀ b u,b≠e->s.heap.get? b=some u->h'.get? b=some u) (heo:∃ u,h'.get? e=some u)
  (new:dY X.prog X.w (bS H x o) h' x o):aC X Rw σ (bS H x o) {s with heap:=h',toks:=t'}:=I.un (Un.write mu he k heo) (I.hok.write mu he k heo new)
theorem aC.pins_of {pins':List (Rh×Rv)} (I:aC X Rw σ H s) (h:∀ p∈pins',s.heap.get? p.1=some p.2/\H p.1=none/\p.1≠X.env.locals/\p.1∉X.fs/\∀ v,p.2.data≠.cell v):aC X pins' σ H s:=
 ⟨I.ok,I.os,I.bare,I.base,I.loc,I.cell,I.free,I.freeC,λp hp=>(List.mem_append.mp hp).elim (λz=>I.pin p (List.mem_append_left _ z)) (h p),I.hok,I.len⟩
theorem yR {N:List Str} (hN:N.Nodup) {i j:Nat} {x:Str} (a:N[i]?=some x) (b:N[j]?=some x):i=j:=by
 obtain⟨h1,e1⟩:=QC.mp a;obtain⟨h2,e2⟩:=QC.mp b;exact(List.getElem_inj hN).mp (e1.trans e2.symm)
theorem CJ {M:Model} {A:Rm} {E:Rg->Rf->Prop} {i:Nat} {x:Str} {v:V} {u:Rg} {Q:Unit->Rf->Prop} (I:aC X Rw σ H s) (hN:X.N.Nodup) (hi:X.N[i]?=some x) (hx:Gh X.env.scope x) (r:aP v u)
  (h:∀ s',aC X Rw (σ.set i (some v)) H s'->(∃ a,Heap.SameBut a s.heap s'.heap/\(a=X.env.locals\/X.env.cells.lookup x=some a))->Q () s') (hf:X.fn x=true\/X.env.scope.names.lookup x=some .local:=by first | exact .inl rfl | exact .inr rfl | assumption):wpAny M A (storeName X.env x u) Q E s:=by
 obtain⟨m,hn,hl⟩:=id I.loc;have hcls:(X.env.scope.kind == .class || (X.env.scope.kind == .module && X.env.locals != X.env.globals))=false:=by rw [I.ok.kind]; rfl
 have hiσ:i < σ.length:=by rw [I.len]; exact(QC.mp hi).1
 have cne:=I.cne;have tracked:∀ {a:Rh} {h':Ro},(∃ o,s.heap.get? a=some o/\H a=none)->Heap.SameBut a s.heap h'->mL X.prog X.w H h':=λ{a h'} ha hs b ob e=>by
  obtain⟨_,_,hfree⟩:=ha;refine(I.hok b ob e).stay (λc w' hc q=>(hs.2 c ?_).trans q) (λ_ q=>q) λ_ _ q=>q
  rintro rfl;rcases hc with rfl | hc
  ·rw [hfree] at e; cases e
  ·rw [hfree] at hc; cases hc
 rcases hx with hk | hk
 ·refine wpAny_storeName_local hk hn (λh' hn' hs=>?_) hcls
  obtain⟨oL,_,_,hoL,_⟩:=id hn;refine h _ ⟨I.ok,I.os,I.bare,⟨λb o e n hb hx=>?_,λb o e n hb hx=>?_,I.base.free,λb o e hx=>?_,I.base.tups,I.base.frzs,I.base.tbls⟩,⟨_,hn',λj y v' e1 e2 e3=>?_⟩,λy c e=>?_,I.free,I.freeC,λp hp=>?_,tracked ⟨oL,hoL,I.free⟩ hs,by simpa using I.len⟩ ⟨_,hs,.inl rfl⟩
  ·exact(hs.2 b (P_ (Qc (P3 e) I.ok.above))).trans (I.base.keep b o e n hb hx)
  ·obtain⟨sl,e1⟩:=I.base.slot b o e n hb hx;exact⟨sl,(hs.2 b (P_ (Qc (P3 e) I.ok.above))).trans e1⟩
  ·obtain⟨o',e1⟩:=I.base.there b o e hx;exact⟨o',(hs.2 b (P_ (Qc (P3 e) I.ok.above))).trans e1⟩
  ·by_cases hj:j=i
   ·subst hj;rw [hi] at e1; cases e1
    rw [List.getElem?_set_self hiσ] at e2;cases e2;exact⟨u,r,.inl ⟨hk,by simp⟩⟩
   ·rw [List.getElem?_set_ne (Ne.symm hj)] at e2;obtain⟨u',r',q⟩:=hl j y v' e1 e2 e3;refine⟨u',r',?_⟩;rcases q with ⟨k,e⟩ | ⟨k,c,e,z⟩
    ·refine .inl ⟨k,?_⟩;have:y≠x:=λe=>hj (yR hN e1 (e▸hi))
     simp [this,e]
    ·exact .inr ⟨k,c,e,z.sameBut hs (cne y c e)⟩
  ·obtain⟨w',z⟩:=I.cell y c e;exact⟨w',z.sameBut hs (cne y c e)⟩
  ·obtain⟨e,n,ne,nf,d⟩:=I.pin p hp;exact⟨(hs.2 p.1 ne).trans e,n,ne,nf,d⟩
 ·have hfn:X.fn x=true:=by
   rcases hf with z | z
   ·exact z
   ·rw [z] at hk; cases hk
  obtain⟨c,hc⟩:=I.ok.has x (.inl hk);obtain⟨w',z⟩:=I.cell x c hc;refine wpAny_storeName_cell I.ok.kind hk hc z (λh' hc' hs=>?_)
  obtain⟨oc,hoc,hocd⟩:=id z;refine h {s with heap:=h'} ⟨I.ok,I.os,I.bare,⟨λb o e n hb hx=>?_,λb o e n hb hx=>?_,I.base.free,λb o e hx=>?_,I.base.tups,I.base.frzs,I.base.tbls⟩,⟨m,hn.sameBut hs (Ne.symm (cne x c hc)),λj y v' e1 e2 e3=>?_⟩,λy c' e=>?_,I.free,I.freeC,λp hp=>?_,tracked ⟨oc,hoc,I.freeC x c hc⟩ hs,by simpa using I.len⟩ ⟨c,hs,.inr hc⟩
  ·exact(hs.2 b (P_ (Qc (P3 e) (I.ok.cab x c hfn hc)))).trans (I.base.keep b o e n hb hx)
  ·obtain⟨sl,e1⟩:=I.base.slot b o e n hb hx;exact⟨sl,(hs.2 b (P_ (Qc (P3 e) (I.ok.cab x c hfn hc)))).trans e1⟩
  ·obtain⟨o',e1⟩:=I.base.there b o e hx;exact⟨o',(hs.2 b (P_ (Qc (P3 e) (I.ok.cab x c hfn hc)))).trans e1⟩
  ·by_cases hj:j=i
   ·subst hj;rw [hi] at e1; cases e1
    rw [List.getElem?_set_self hiσ] at e2;cases e2;exact⟨u,r,.inr ⟨.inl hk,c,hc,hc'⟩⟩
   ·rw [List.getElem?_set_ne (Ne.symm hj)] at e2;obtain⟨u',r',q⟩:=hl j y v' e1 e2 e3;refine⟨u',r',?_⟩;rcases q with q | ⟨k,c',e,z'⟩
    ·exact .inl q
    ·refine .inr ⟨k,c',e,z'.sameBut hs ?_⟩;rintro rfl;exact hj (yR hN e1 (I.ok.inj _ _ _ e hc▸hi))
  ·by_cases hcc:c'=c
   ·subst hcc; exact⟨_,hc'⟩
   ·obtain⟨w2,z2⟩:=I.cell y c' e;exact⟨w2,z2.sameBut hs hcc⟩
  ·obtain⟨e,n,ne,nf,d⟩:=I.pin p hp;refine⟨(hs.2 p.1 ?_).trans e,n,ne,nf,d⟩;intro q;rw [q,hoc] at e;have q':oc=p.2:=Qx e;exact d w' (by rw [<- q']; exact hocd)
theorem jY {M:Model} {A:Rm} {E:Rg->Rf->Prop} {i:Nat} {x:Str} {v:V} {u:Rg} {Q:Unit->Rf->Prop} (I:aC X Rw σ H s) (hN:X.N.Nodup) (hi:X.N[i]?=some x) (hx:Gh X.env.scope x) (r:aP v u)
  (h:∀ s',aC X Rw (σ.set i (some v)) H s'->Q () s') (hf:X.fn x=true\/X.env.scope.names.lookup x=some .local:=by first | exact .inl rfl | exact .inr rfl | assumption):wpAny M A (storeName X.env x u) Q E s:=
 CJ I hN hi hx r (λs' I' _=>h s' I') hf
theorem aC.call' {s':Rf} {ch:List Rh} (I:aC X Rw σ H s) (ho:s'.os=s.os) (u:Un (ic X.stack) ch H H' s.heap s'.heap) (hok:mL X.prog X.w H' s'.heap) (hg:AllBare s'.gens)
  (hch:∀ b∈ch,(b∈X.ex\/X.s₀.heap.objs.size<=b)/\b≠X.env.locals/\(∀ x c,X.env.cells.lookup x=some c->c≠b)/\∀ p∈X.pn++Rw,p.1≠b):aC X Rw σ H' s':=by
 obtain⟨h',g',d',t',o'⟩:=s';have e:o'=s.os:=ho;subst e;exact I.call (g':=g') (t':=t') (d':=d') u hok hg hch
end
abbrev XK:=Rg->Ri Rh->Hp->Prop
abbrev St:=List (Ri V)
abbrev VK:=V->Hp->Prop
abbrev TE:=St->Hp->VK->Prop
abbrev TT:=St->Hp->(Rr->Hp->Prop)->Prop
abbrev TA:=St->Hp->(List V->Hp->Prop)->Prop
structure s9 where
 nx:St->Hp->Prop
 rt:VK
 bk:St->Hp->Prop:=λ_ _=>False
 ct:St->Hp->Prop:=λ_ _=>False
abbrev TS:=s9->St->Hp->Prop
def EP (X:Cx) (Rw:List (Rh×Rv)) (σ:St) (Q:VK) (u:Rg) (s':Rf):Prop:=∃ v H',aC X Rw σ H' s'/\aP v u/\Q v H'
def TP (X:Cx) (Rw:List (Rh×Rv)) (σ:St) (Q:Rr->Hp->Prop) (b:Rr) (s':Rf):Prop:=∃ H',aC X Rw σ H' s'/\Q b H'
def AP (X:Cx) (Rw:List (Rh×Rv)) (σ:St) (Q:List V->Hp->Prop) (us:List Rg) (s':Rf):Prop:=∃ vs H',aC X Rw σ H' s'/\bf vs us/\Q vs H'
def SP (X:Cx) (Rw:List (Rh×Rv)) (D:s9) (f:Flow) (s':Rf):Prop:=
 match f with
 | .next=>∃ σ' H',aC X Rw σ' H' s'/\D.nx σ' H'
 | .brk=>∃ σ' H',aC X Rw σ' H' s'/\D.bk σ' H'
 | .cont=>∃ σ' H',aC X Rw σ' H' s'/\D.ct σ' H'
 | .ret u=>∃ v σ' H',aC X Rw σ' H' s'/\aP v u/\D.rt v H'
def PE (X:Cx) (e:Rj) (t:TE):Prop:=
 ∀ (Rw:List (Rh×Rv)) (s:Rf) (σ:St) (H:Hp) (Q:VK),aC X Rw σ H s->t σ H Q->wpAny (model X.prog X.w) X.A (eval e X.env) (EP X Rw σ Q) X.xe s
def PT (X:Cx) (e:Rj) (t:TT):Prop:=
 ∀ (Rw:List (Rh×Rv)) (s:Rf) (σ:St) (H:Hp) (Q:Rr->Hp->Prop),aC X Rw σ H s->t σ H Q->wpAny (model X.prog X.w) X.A (isTrue e X.env (eval e X.env)) (TP X Rw σ Q) X.xe s
def PW (X:Cx) (e:Rj) (t:TT):Prop:=
 ∀ (whole:Sem Rg) (Rw:List (Rh×Rv)) (s:Rf) (σ:St) (H:Hp) (Q:Rr->Hp->Prop),aC X Rw σ H s->t σ H Q->wpAny (model X.prog X.w) X.A (isTrue e X.env whole) (TP X Rw σ Q) X.xe s
theorem PW.pt {X:Cx} {e:Rj} {t:TT} (h:PW X e t):PT X e t:=h _
def PA (X:Cx) (es:List Rj) (t:TA):Prop:=
 ∀ (pos:Pos) (Rw:List (Rh×Rv)) (s:Rf) (σ:St) (H:Hp) (Q:List V->Hp->Prop),aC X Rw σ H s->t σ H Q->wpAny (model X.prog X.w) X.A (spliced (backTo pos (starEach es X.env))) (AP X Rw σ Q) X.xe s
def PS (X:Cx) (st:Rp) (t:TS):Prop:=
 ∀ (Rw:List (Rh×Rv)) (s:Rf) (σ:St) (H:Hp) (D:s9),aC X Rw σ H s->t D σ H->wpAny (model X.prog X.w) X.A (exec st X.env) (SP X Rw D) X.xe s
def ub (X:Cx) (st:List Rp) (t:TS):Prop:=
 ∀ (Rw:List (Rh×Rv)) (s:Rf) (σ:St) (H:Hp) (D:s9),aC X Rw σ H s->t D σ H->wpAny (model X.prog X.w) X.A (execs st X.env) (SP X Rw D) X.xe s
theorem cu {α:Type} {t:Sem α} {Q Q':α->Rf->Prop} {M:Model} {A:Rm} {E:Rg->Rf->Prop} {s:Rf} (h:wpAny M A t Q E s) (hQ:∀ a s,Q a s->Q' a s):wpAny M A t Q' E s:=QD h hQ λ_ _ x=>x
section
variable {X:Cx}
def OF (i:Nat):TE:=fun σ H Q=>∃ v,σ[i]?=some (some v)/\Q v H
def tC (v:V):TE:=λ_ H Q=>Q v H
theorem KH {i:Nat} {x:Str} {pos:Pos} (hN:X.N[i]?=some x) (hv:Af X.env.scope x) (hd:(x == ("__debug__":Str))=false:=by decide) (hcd:(x == ("__classdict__":Str))=false:=by decide):PE X (.Name x pos) (OF i):=by
 intro Rw s σ H Q I h;obtain⟨v,e,h⟩:=h;obtain⟨m,hn,hl⟩:=I.loc;obtain⟨u,r,l⟩:=hl i x v hN e hv;have fin:EP X Rw σ Q u s:=⟨v,H,I,r,h⟩;rcases l with ⟨hk,hm⟩ | ⟨hk,c,hc,hcell⟩
 ·exact wpAny_Name (wpAny_loadName_local I.ok.kind hk hn hm fin) hd
 ·rcases hk with hk | hk
  ·exact wpAny_Name (wpAny_loadName_cell I.ok.kind hk hc hcell fin) hd
  ·exact wpAny_Name (wpAny_loadName_free I.ok.kind hk hc hcell fin hcd) hd
theorem K7 {i j pos}:PE X (.Constant (.int i) j pos) (tC (.int i)):=λ_ _ _ H _ I h=>wpAny_Constant_int ⟨.int i,H,I.tok _,⟨_,rfl⟩,h⟩
theorem Lx {b j pos}:PE X (.Constant (.bool b) j pos) (tC (.bl b)):=λ_ _ _ H _ I h=>Constant_bool ⟨.bl b,H,I,rfl,h⟩
theorem JF {j pos}:PE X (.Constant .none j pos) (tC .non):=λ_ _ _ H _ I h=>Constant_none ⟨.non,H,I,rfl,h⟩
theorem KU {x j pos}:PE X (.Constant (.str x) j pos) (tC (.str x)):=λ_ _ _ H _ I h=>Calls.Constant_str ⟨.str x,H,I.tok _,⟨_,rfl⟩,h⟩
def Gl (X:Cx) (x:Str):Prop:=X.env.kindOf x=some .globalImplicit
theorem jr {E:Rg->Rf->Prop} {Rw:List (Rh×Rv)} {s:Rf} {σ:St} {H:Hp} {x:Str} {u:Rg} {pos:Pos} {Q:Rg->Rf->Prop} (I:aC X Rw σ H s) (hg:Gl X x) (hm:X.mg x=some u) (h:Q u s)
  (hd:(x == ("__debug__":Str))=false:=by decide):wpAny (model X.prog X.w) X.A (eval (.Name x pos) X.env) Q E s:=
 Calls.Name_function_global I.ok.kind hg (Calls.loadGlobal_global (by rw [I.ok.glob]; exact I.mod.glob.keeps I.bk) hm h) hd
theorem pL {E:Rg->Rf->Prop} {Rw:List (Rh×Rv)} {s:Rf} {σ:St} {H:Hp} {x:Str} {u:Rg} {pos:Pos} {Q:Rg->Rf->Prop} (I:aC X Rw σ H s) (hg:Gl X x) (hm:X.mg x=none) (hv:bootBuiltins x=some u) (h:Q u s)
  (hn:x≠"__name__":=by decide) (hd:(x == ("__debug__":Str))=false:=by decide):wpAny (model X.prog X.w) X.A (eval (.Name x pos) X.env) Q E s:=by
 obtain⟨mb,h1,h2⟩:=I.mod.blt;exact Calls.Name_function_global I.ok.kind hg (Calls.loadGlobal_builtin (by rw [I.ok.glob]; exact I.mod.glob.keeps I.bk) hm (by rw [I.ok.blt]; exact h1.keeps I.bk) ((h2 x hn).trans hv) h) hd
theorem Ho {x:Str} {v:V} {u:Rg} {pos:Pos} (hg:Gl X x) (hm:X.mg x=some u) (r:aP v u) (hd:(x == ("__debug__":Str))=false:=by decide):PE X (.Name x pos) (tC v):=
 λ_ _ _ H _ I h=>jr I hg hm ⟨v,H,I,r,h⟩ hd
variable {a b:Rj} {ta tb:TE} {pos:Pos}
def tB (t:TE):TT:=fun σ H Q=>t σ H λx H1=>∃ c,x=.bl c/\Q c H1
theorem JE {e:Rj} {t:TE} (h:PE X e t) (he:∀ whole,isTrue e X.env whole=(do let v <- whole; standAt e.pos; holding [v] (truthy v)):=by intro _; rfl):PT X e (tB t):=by
 intro Rw s σ H Q I hw;refine isTrue_plain (cu (h Rw s σ H _ I hw) λv s1 ⟨x,H1,I1,r1,q1⟩=>?_) (he _)
 obtain⟨d,rfl,q⟩:=q1;cases r1;exact wpAny_truthy_bool ⟨H1,I1,q⟩
variable {tA tB':TT} {av:List Rj}
def NX (t u:TT):TT:=fun σ H Q=>t σ H λc H1=>if c=true then u σ H1 Q else Q false H1
def PM (t u:TT):TT:=fun σ H Q=>t σ H λc H1=>if c=true then Q true H1 else u σ H1 Q
def OD (t:TT):TT:=fun σ H Q=>t σ H λc H1=>Q (!c) H1
theorem Hm (ha:PT X a tA):PW X (.BoolOp .And [a] pos) tA:=by
 intro wh Rw s σ H Q I h;refine isTrue_and (cu (ha Rw s σ H Q I h) λc s1 e=>?_)
 cases c with
 | true=>exact isTrue_and_nil e
 | false=>exact e
theorem Jg (ha:PT X a tA):PW X (.BoolOp .Or [a] pos) tA:=by
 intro wh Rw s σ H Q I h;refine isTrue_or (cu (ha Rw s σ H Q I h) λc s1 e=>?_)
 cases c with
 | false=>exact isTrue_or_nil e
 | true=>exact e
theorem JO (ha:PT X a tA) (hb:PW X (.BoolOp .And (b::av) pos) tB'):PW X (.BoolOp .And (a::b::av) pos) (NX tA tB'):=by
 intro wh Rw s σ H Q I h;refine isTrue_and (cu (ha Rw s σ H _ I h) λc s1 z9=>?_)
 obtain⟨H1,I1,q1⟩:=z9;cases c with
 | true=>exact hb wh Rw s1 σ H1 Q I1 q1
 | false=>exact⟨H1,I1,q1⟩
theorem NC (ha:PT X a tA) (hb:PW X (.BoolOp .Or (b::av) pos) tB'):PW X (.BoolOp .Or (a::b::av) pos) (PM tA tB'):=by
 intro wh Rw s σ H Q I h;refine isTrue_or (cu (ha Rw s σ H _ I h) λc s1 z9=>?_)
 obtain⟨H1,I1,q1⟩:=z9;cases c with
 | true=>exact⟨H1,I1,q1⟩
 | false=>exact hb wh Rw s1 σ H1 Q I1 q1
theorem Kj (ha:PT X a tA):PT X (.UnaryOp .Not a pos) (OD tA):=by
 intro Rw s σ H Q I h;exact isTrue_not (ha Rw s σ H (λc H1=>Q (!c) H1) I h)
def NA (ta tb:TE):TE:=fun σ H Q=>ta σ H λx H1=>∃ c,x=.bl c/\if c=true then tb σ H1 Q else Q (.bl false) H1
theorem Kn {op} {t:TE} (h:PE X a t):PE X (.BoolOp op [a] pos) t:=λRw s σ H Q I hw=>BoolOp_one (h Rw s σ H Q I hw)
theorem J' (ha:PE X a ta) (hb:PE X (.BoolOp .And (b::av) pos) tb):PE X (.BoolOp .And (a::b::av) pos) (NA ta tb):=by
 intro Rw s σ H Q I h;refine BoolOp_and (cu (ha Rw s σ H _ I h) λv s1 z9=>?_)
 obtain⟨x,H1,I1,r1,q1⟩:=z9;obtain⟨c,rfl,q1⟩:=q1;cases r1;refine wpAny_truthy_bool ?_;cases c with
 | true=>exact hb Rw s1 σ H1 Q I1 q1
 | false=>exact⟨.bl false,H1,I1,rfl,q1⟩
def Po (t:TT) (ta tb:TE):TE:=fun σ H Q=>t σ H λc H1=>if c=true then ta σ H1 Q else tb σ H1 Q
theorem E6 {c:Rj} (hc:PT X c tA) (ha:PE X a ta) (hb:PE X b tb):PE X (.IfExp c a b pos) (Po tA ta tb):=by
 intro Rw s σ H Q I h;refine wpAny_IfExp (cu (hc Rw s σ H _ I h) λd s1 z9=>?_)
 obtain⟨H1,I1,q1⟩:=z9;cases d with
 | true=>exact ha Rw s1 σ H1 Q I1 q1
 | false=>exact hb Rw s1 σ H1 Q I1 q1
end
def jv (K:PySem.W.Frag) (H:Hp) (a:Rh) (xs:List V):Prop:=
 Rd H a (.lst xs)\/
  ∃ (o:Rv) (its:Rq Rg) (n:Nat),K.lookup a=some o/\o.cls=.type "list"/\o.dict=none/\o.data=.seq its n/\its.size<=sizeLine/\bf xs its.toList
def lU (K:PySem.W.Frag) (H:Hp) (a:Rh) (xs:List V):Prop:=
 Rd H a (.tup xs)\/
  ∃ (o:Rv) (its:Rq Rg) (n:Nat),K.lookup a=some o/\o.cls=.type "tuple"/\o.data=.seq its n/\its.size<=sizeLine/\bf xs its.toList
def OI:Rg->Ri V
 | .none=>some .non
 | .bool b=>some (.bl b)
 | .int i _=>some (.int i)
 | .str x _=>some (.str x)
 | .bytes b _=>some (.byt b)
 | .float b _=>some (.flt b)
 | .ref a=>some (.ref a)
 | .type n=>some (.ty n)
 | _=>none
theorem aP.abs {x:V} {u:Rg} (r:aP x u):OI u=some x:=by
 cases x with
 | non=>cases r; rfl
 | bl _=>cases r; rfl
 | int _=>obtain⟨t,rfl⟩:=r; rfl
 | str _=>obtain⟨t,rfl⟩:=r; rfl
 | byt _=>obtain⟨t,rfl⟩:=r; rfl
 | flt _=>obtain⟨t,rfl⟩:=r; rfl
 | ref _=>cases r; rfl
 | ty _=>cases r; rfl
theorem aP.inj {x y:V} {u:Rg} (r:aP x u) (q:aP y u):x=y:=Qx (r.abs.symm.trans q.abs)
theorem bf.inj:∀ {xs ys:List V} {us:List Rg},bf xs us->bf ys us->xs=ys
 | _,_,_,.nil,.nil=>rfl
 | _,_,_,.cons r t,.cons r' t'=>by rw [r.inj r',bf.inj t t']
section
variable {X:Cx} {Rw:List (Rh×Rv)} {σ:St} {H:Hp} {s:Rf} {a:Rh} {xs ys:List V}
theorem jv.of {K:PySem.W.Frag} (h:H a=some (.lst xs)):jv K H a xs:=.inl (.inl h)
theorem lU.of {K:PySem.W.Frag} (h:H a=some (.tup xs)):lU K H a xs:=.inl (.inl h)
theorem aC.list (I:aC X Rw σ H s) (h:jv X.K H a xs):∃ its:List Rg,bf xs its/\PlainL s.heap a its.toArray/\xs.length<=sizeLine:=by
 rcases h with h | ⟨o,its,n,hk,hc,hd,hs,hz,r⟩
 ·obtain⟨z,its,n,r,e⟩:=h.ok I.hok;exact⟨its,r,⟨_,n,e,rfl,rfl,rfl⟩,z⟩
 ·refine⟨its.toList,r,⟨o,n,I.kIn a o hk,hc,hd,by simpa using hs⟩,?_⟩
  have e:=r.length;simp only [Q4] at e;omega
theorem aC.tuple (I:aC X Rw σ H s) (h:lU X.K H a xs):∃ its:List Rg,bf xs its/\IsTup s.heap a its.toArray/\xs.length<=sizeLine:=by
 rcases h with h | ⟨o,its,n,hk,hc,hs,hz,r⟩
 ·obtain⟨z,its,r,p⟩:=h.ok I.hok;exact⟨its,r,p,z⟩
 ·refine⟨its.toList,r,⟨o,I.kIn a o hk,hc,n,by simpa using hs⟩,?_⟩
  have e:=r.length;simp only [Q4] at e;omega
theorem aC.list_inj (I:aC X Rw σ H s) (h:jv X.K H a xs) (h':jv X.K H a ys):xs=ys:=by
 obtain⟨its,r,⟨o,n,e,_,_,d⟩,_⟩:=I.list h;obtain⟨its',r',⟨o',n',e',_,_,d'⟩,_⟩:=I.list h';rw [e] at e'; cases e'
 rw [d] at d';injection d' with d1 _
 have:its=its':=by simpa using congrArg Array.toList d1
 subst this;exact r.inj r'
theorem aC.tuple_inj (I:aC X Rw σ H s) (h:lU X.K H a xs) (h':lU X.K H a ys):xs=ys:=by
 obtain⟨its,r,⟨o,e,_,n,d⟩,_⟩:=I.tuple h;obtain⟨its',r',⟨o',e',_,n',d'⟩,_⟩:=I.tuple h';rw [e] at e'; cases e'
 rw [d] at d';injection d' with d1 _
 have:its=its':=by simpa using congrArg Array.toList d1
 subst this;exact r.inj r'
end
abbrev Cx.wish (X:Cx) (E:Rg->Rf->Prop):Cx:={X with xe:=E}
abbrev Cx.nox (X:Cx):Cx:=X.wish λ_ _=>False
theorem Cx.Ok.wish {X:Cx} (ok:X.Ok) (E:Rg->Rf->Prop):(X.wish E).Ok:=
 ⟨ok.mod,ok.kind,ok.glob,ok.blt,ok.above,ok.inj,ok.has,ok.cab,ok.hd,ok.frames,ok.stk,ok.exf,ok.bs,ok.bsz,ok.noex,ok.exfs,ok.funs,ok.frf⟩
theorem Cx.Ok.unwish {X:Cx} {E:Rg->Rf->Prop} (ok:(X.wish E).Ok):X.Ok:=
 ⟨ok.mod,ok.kind,ok.glob,ok.blt,ok.above,ok.inj,ok.has,ok.cab,ok.hd,ok.frames,ok.stk,ok.exf,ok.bs,ok.bsz,ok.noex,ok.exfs,ok.funs,ok.frf⟩
section
variable {X:Cx} {Rw:List (Rh×Rv)} {σ:St} {H:Hp} {s:Rf} {E:Rg->Rf->Prop}
theorem aC.wish (I:aC X Rw σ H s) (E:Rg->Rf->Prop):aC (X.wish E) Rw σ H s:=⟨I.ok.wish E,I.os,I.bare,I.base,I.loc,I.cell,I.free,I.freeC,I.pin,I.hok,I.len⟩
theorem aC.unwish (I:aC (X.wish E) Rw σ H s):aC X Rw σ H s:=⟨I.ok.unwish,I.os,I.bare,I.base,I.loc,I.cell,I.free,I.freeC,I.pin,I.hok,I.len⟩
theorem SP.unwish {D:s9} {f:Flow} {s':Rf} (h:SP (X.wish E) Rw D f s'):SP X Rw D f s':=by
 cases f with
 | next=>obtain⟨σ',H',I,q⟩:=h; exact⟨σ',H',I.unwish,q⟩
 | brk=>obtain⟨σ',H',I,q⟩:=h; exact⟨σ',H',I.unwish,q⟩
 | cont=>obtain⟨σ',H',I,q⟩:=h; exact⟨σ',H',I.unwish,q⟩
 | ret u=>obtain⟨v,σ',H',I,r,q⟩:=h; exact⟨v,σ',H',I.unwish,r,q⟩
theorem ub.nox {st:List Rp} {t:TS} (h:ub X.nox st t):ub X st t:=λRw s σ H D I hw=>
 QD (h Rw s σ H D (I.wish _) hw) (λ_ _ q=>q.unwish) λ_ _ z=>False.elim z
end
section
variable {X:Cx} {st:Rp} {av:List Rp} {t u:TS} {e:Rj} {te:TE} {pos:Pos}
def L_:TS:=λD σ H=>D.nx σ H
def Mf (t u:TS):TS:=λD σ H=>t {D with nx:=u D} σ H
theorem Hc:ub X [] L_:=λ_ _ σ H _ I h=>wpAny_execs_nil ⟨σ,H,I,h⟩
theorem Fu (h1:PS X st t) (h2:ub X av u):ub X (st::av) (Mf t u):=by
 intro Rw s σ H D I h;refine wpAny_execs_cons (cu (h1 Rw s σ H {D with nx:=u D} I h) λf s1 q=>?_)
 cases f with
 | next=>
  obtain⟨σ',H',I',q⟩:=q;exact h2 Rw s1 σ' H' D I' q
 | ret v=>exact q
 | brk=>exact q
 | cont=>exact q
theorem GW (h1:PS X st t):ub X [st] t:=by
 intro Rw s σ H D I h;refine wpAny_execs_cons (cu (h1 Rw s σ H D I h) λf s1 q=>?_)
 cases f with
 | next=>exact wpAny_execs_nil q
 | ret v=>exact q
 | brk=>exact q
 | cont=>exact q
theorem aC.quiet {Rw:List (Rh×Rv)} {σ:St} {H:Hp} {s:Rf} (I:aC X Rw σ H s):interactive X.env=false:=by simp [interactive,I.ok.kind]
def L8 (te:TE):TS:=λD σ H=>te σ H λ_ H1=>D.nx σ H1
theorem Gz (he:PE X e te) (hs:swapsWith e none pos.line X.env=pure false:=by rfl):PS X (.Expr e pos) (L8 te):=by
 intro Rw s σ H D I h;exact wpAny_Expr_any (cu (he Rw s σ H _ I h) λv s1 z9=>by obtain⟨x,H1,I1,r1,q1⟩:=z9; exact⟨σ,H1,I1,q1⟩) I.quiet hs
def OB (te:TE):TS:=λD σ H=>te σ H D.rt
theorem K9 (he:PE X e te):PS X (.Return (some e) pos) (OB te):=by
 intro Rw s σ H D I h;exact wpAny_Return_some (cu (he Rw s σ H _ I h) λv s1 z9=>by obtain⟨x,H1,I1,r1,q1⟩:=z9; exact⟨x,σ,H1,I1,r1,q1⟩)
def Od (c:TT) (t u:TS):TS:=λD σ H=>c σ H λb H1=>if b=true then t D σ H1 else u D σ H1
theorem Lr {c:Rj} {a b:List Rp} {tc:TT} (hc:PT X c tc) (ha:ub X a t) (hb:ub X b u):PS X (.If c a b pos) (Od tc t u):=by
 intro Rw s σ H D I h;refine wpAny_If (cu (hc Rw s σ H _ I h) λd s1 z9=>?_)
 obtain⟨H1,I1,q1⟩:=z9;cases d with
 | true=>exact ha Rw s1 σ H1 D I1 q1
 | false=>exact hb Rw s1 σ H1 D I1 q1
def K3:TS:=λ_ _ _=>False
theorem El:PS X st K3:=λ_ _ _ _ _ _ h=>h.elim
end
abbrev TG:=V->St->Hp->(St->Hp->Prop)->Prop
abbrev C6:=List V->St->Hp->(St->Hp->Prop)->Prop
def PG (X:Cx) (target:Rj) (t:TG):Prop:=
 ∀ (Rw:List (Rh×Rv)) (s:Rf) (σ:St) (H:Hp) (v:V) (u:Rg) (Q:St->Hp->Prop),aC X Rw σ H s->aP v u->t v σ H Q->
  wpAny (model X.prog X.w) X.A (assign target X.env u) (λ_ s'=>∃ σ' H',aC X Rw σ' H' s'/\Q σ' H') X.xe s
def EB (X:Cx) (ts:List Rj) (t:C6):Prop:=
 ∀ (Rw:List (Rh×Rv)) (s:Rf) (σ:St) (H:Hp) (vs:List V) (us:List Rg) (Q:St->Hp->Prop),aC X Rw σ H s->bf vs us->t vs σ H Q->
  wpAny (model X.prog X.w) X.A (assignInOrder ((assignEach ts X.env).map (·.2)) us) (λ_ s'=>∃ σ' H',aC X Rw σ' H' s'/\Q σ' H') X.xe s
abbrev FC:=V->V->V->Hp->(Hp->Prop)->Prop
def Gn (X:Cx) (t:FC):Prop:=
 ∀ (Rw:List (Rh×Rv)) (s:Rf) (σ:St) (H:Hp) (o i v:V) (ov iv u:Rg) (Q:Hp->Prop),aC X Rw σ H s->aP o ov->aP i iv->aP v u->t o i v H Q->
  wpAny (model X.prog X.w) X.A (setItem ov iv u) (λ_ s'=>∃ H',aC X Rw σ H' s'/\Q H') X.xe s
section
variable {X:Cx} {pos:Pos}
def Iy (i:Nat):TG:=λv σ H Q=>Q (σ.set i (some v)) H
theorem Ha {i:Nat} {x:Str} (hN:X.N.Nodup) (hi:X.N[i]?=some x) (hx:Gh X.env.scope x) (hf:X.fn x=true\/X.env.scope.names.lookup x=some .local:=by first | exact .inl rfl | exact .inr rfl | assumption):PG X (.Name x pos) (Iy i):=by
 intro Rw s σ H v u Q I r h;exact wpAny_assign_Name (jY I hN hi hx r (λs' I'=>⟨_,H,I',h⟩) hf)
def Oj:C6:=λvs σ H Q=>vs=[]/\Q σ H
def Ma (t:TG) (u:C6):C6:=λvs σ H Q=>∃ v r,vs=v::r/\t v σ H fun σ' H'=>u r σ' H' Q
theorem GO:EB X [] Oj:=by
 intro Rw s σ H vs us Q I r h;obtain⟨e,h⟩:=h;subst e;cases r;exact assignInOrder_nil ⟨σ,H,I,h⟩
theorem Ga {e:Rj} {es:List Rj} {t:TG} {u:C6} (h1:PG X e t) (h2:EB X es u)
  (hs:(assignEach (e::es) X.env).map (·.2)=assign e X.env::(assignEach es X.env).map (·.2):=by rfl):EB X (e::es) (Ma t u):=by
 intro Rw s σ H vs us Q I r h;obtain⟨v,vr,e1,h⟩:=h;subst e1;cases r with
 | cons r rr=>
  rw [hs];refine assignInOrder_cons (cu (h1 Rw s σ H _ _ _ I r h) λ_ s1 z9=>?_)
  obtain⟨σ1,H1,I1,q1⟩:=z9;exact h2 Rw s1 σ1 H1 _ _ Q I1 rr q1
def NQ (K:PySem.W.Frag) (n:Nat) (t:C6):TG:=λv σ H Q=>∃ a xs,v=.ref a/\lU K H a xs/\xs.length=n/\t xs σ H Q
theorem Ka {es:List Rj} {k:Nat} {t:C6} {n:Nat} (hc:X.calm=true) (h:EB X es t)
  (hn:(assignEach es X.env).length=n:=by rfl) (hst:(assignEach es X.env).findIdx? (·.1)=none:=by rfl):PG X (.Tuple es k pos) (NQ X.K n t):=by
 intro Rw s σ H v u Q I r hw;obtain⟨a,xs,e1,hq,hl,hw⟩:=hw;subst e1;cases r;obtain⟨its,rv,ht,hz⟩:=I.tuple hq;refine assign_Tuple_tuple (I.ok.hd hc) ht (by simp [hn,<- hl,rv.length]) hst λh' hx=>?_
 have I1:aC X Rw σ H {s with heap:=h'}:=I.kept (t':=s.toks) λb o e=>hx b o (P_ (P3 e)) e
 exact h Rw _ σ H xs _ Q I1 (by simpa using rv) hw
def Oo (to ti:TE) (t:FC):TG:=λv σ H Q=>to σ H λo H1=>ti σ H1 λi H2=>t o i v H2 λH3=>Q σ H3
theorem ze {o i:Rj} {to ti:TE} {t:FC} (ho:PE X o to) (hi:PE X i ti) (hs:Gn X t)
  (ha:∀ v,assign (.Subscript o i pos) X.env v=(do
   let ov <- holding [v] (eval o X.env)
   let iv <- holding [v,ov] (eval i X.env)
   standAt pos
   holding [v,ov,iv] (setItem ov iv v)
   release [v,ov,iv] []):=by intro _; rfl):PG X (.Subscript o i pos) (Oo to ti t):=by
 intro Rw s σ H v u Q I r h;rw [ha];refine gt (Qq (cu (ho Rw s σ H _ I h) λov s1 z9=>?_))
 obtain⟨x,H1,I1,r1,q1⟩:=z9;refine gt (Qq (cu (hi Rw s1 σ H1 _ I1 q1) λiv s2 z9=>?_))
 obtain⟨y,H2,I2,r2,q2⟩:=z9;refine gt (wpAny_standAt (gt (Qq (cu (hs Rw s2 σ H2 x y v ov iv u _ I2 r1 r2 r q2) λ_ s3 z9=>?_))))
 obtain⟨H3,I3,q3⟩:=z9;exact wpAny_release ⟨σ,H3,I3,q3⟩
def Lw (te:TE) (g:TG):TS:=λD σ H=>te σ H λx H1=>g x σ H1 D.nx
theorem La {tg e:Rj} {te:TE} {g:TG} (he:PE X e te) (hg:PG X tg g) (hs:swapsWithSole [tg] e pos.line X.env=pure false:=by rfl) (hw:swappedStores [tg] e X.env=pure none:=by rfl)
  (h1:(assignEach [tg] X.env).map (·.2)=[assign tg X.env]:=by rfl):PS X (.Assign [tg] e pos) (Lw te g):=by
 intro Rw s σ H D I h;refine wpAny_Assign_stores (cu (he Rw s σ H _ I h) λv s1 ⟨x,H1,I1,r1,q1⟩=>?_) hs hw
 rw [h1];exact cu (hg Rw s1 σ H1 x v _ I1 r1 q1) λ_ s2 q=>q
theorem KZ {i:Nat} {x:Str} {e:Rj} {te:TE} {pos':Pos} (hN:X.N.Nodup) (hi:X.N[i]?=some x) (hx:Gh X.env.scope x) (he:PE X e te) (hs:swapsWith e (some (.Name x pos')) pos.line X.env=pure false:=by rfl) (hf:X.fn x=true\/X.env.scope.names.lookup x=some .local:=by first | exact .inl rfl | exact .inr rfl | assumption):
  PS X (.Assign [.Name x pos'] e pos) (Lw te (Iy i)):=by
 intro Rw s σ H D I h;refine wpAny_Assign_Name (cu (he Rw s σ H _ I h) λv s1 ⟨y,H1,I1,r1,q1⟩=>?_) hs
 exact jY I1 hN hi hx r1 (λs2 I2=>⟨_,H1,I2,q1⟩) hf
def N8 (i j:Nat) (ta:TA):TS:=λD σ H=>ta σ H λvs H1=>∃ v w,vs=[v,w]/\D.nx ((σ.set i (some v)).set j (some w)) H1
theorem Kl {i j:Nat} {x y:Str} {a b:Rj} {ta:TA} {px py pt:Pos} {kt k2 pt2} (hc:X.calm=true) (hN:X.N.Nodup) (hi:X.N[i]?=some x) (hj:X.N[j]?=some y) (hij:i≠j)
  (hx:X.env.scope.names.lookup x=some .local) (hy:X.env.scope.names.lookup y=some .local) (ha:PA X [a,b] ta)
  (hw:swappedStores [.Tuple [.Name x px,.Name y py] kt pt] (.Tuple [a,b] k2 pt2) X.env=pure (some [x,y]))
  (hs:swapsWithSole [.Tuple [.Name x px,.Name y py] kt pt] (.Tuple [a,b] k2 pt2) pos.line X.env=pure false:=by rfl):
  PS X (.Assign [.Tuple [.Name x px,.Name y py] kt pt] (.Tuple [a,b] k2 pt2) pos) (N8 i j ta):=by
 intro Rw s σ H D I h;rw [exec_Assign_arm];refine gt (wpAny_standAt ?_);rw [hs];refine gt (P0 ?_);rw [if_neg (by decide)]
 refine gt (Tuple_ (cu (ha _ Rw s σ H _ I h) λus s1 z9=>?_))
 obtain⟨vs,H1,I1,r1,q1⟩:=z9;obtain⟨v,w,e1,q1⟩:=q1;subst e1;obtain⟨u1,u2,rfl,rv,rw'⟩:∃ u1 u2,us=[u1,u2]/\aP v u1/\aP w u2:=by
  cases r1 with
  | cons p q=>
   cases q with
   | cons p' q'=>
    cases q';exact⟨_,_,rfl,p,p'⟩
 refine Qs ?_ (by show 2<=sizeLine; decide)
 have I2:aC X Rw σ H1 {s1 with heap:=s1.heap.push {cls:=.type "tuple",data:=.seq [u1,u2].toArray}}:=I1.kept (t':=s1.toks) λb o e=>PZ _ e
 rw [hw];refine gt (P0 ?_)
 show wpAny (model X.prog X.w) X.A (do rule "assign.swapped-stores"; let items <- unpackItems (.ref s1.heap.objs.size) 2 none; assignInOrder [λv=>bindName X.env y v,λv=>bindName X.env x v] items.reverse; pure Flow.next) _ _ _
 refine gt (wpAny_rule (gt (unpackItems_tuple (items:=#[u1,u2]) (I.ok.hd hc) (IsTup.new s1.heap _) λh' hx'=>?_)))
 have I3:=I2.kept (h':=h') (t':=s1.toks) λb o e=>hx' b o (P_ (P3 e)) e
 show wpAny _ _ (assignInOrder [λv=>bindName X.env y v,λv=>bindName X.env x v] [u2,u1] >>= λ_=>pure Flow.next) _ _ _
 refine gt (assignInOrder_cons (wpAny_bindName (jY I3 hN hj (.inl hy) rw' (λs2 I4=>?_) (.inr hy))))
 refine assignInOrder_cons (wpAny_bindName (jY I4 hN hi (.inl hx) rv (λs3 I5=>assignInOrder_nil (P0 ?_)) (.inr hx)))
 rw [List.set_comm _ _ (Ne.symm hij)] at I5;exact⟨_,H1,I5,q1⟩
def Kw (c:TT) (tb:TS):TS:=λD σ H=>∃ W:Nat->St->Hp->Prop,(∃ m,W m σ H)/\∀ m σ H,W m σ H->
 c σ H λb H1=>if b=true then ∃ N:St->Hp->Prop,(∀ σ' H',N σ' H'->∃ m',m' < m/\W m' σ' H')/\tb {D with nx:=N,ct:=N,bk:=D.nx} σ H1 else D.nx σ H1
theorem EQ {c:Rj} {body:List Rp} {tc:TT} {tb:TS} (hp:PassesOwn (model X.prog X.w) X.A X.env X.xe) (hc:PT X c tc) (hb:ub X body tb):PS X (.While c body [] pos) (Kw tc tb):=by
 intro Rw s σ H D I h;obtain⟨W,⟨m0,w0⟩,turn⟩:=h;refine wpAny_While (codeAny_whileLoop (λn s'=>∃ σ' H',aC X Rw σ' H' s'/\W n σ' H') ?_ m0 ⟨σ,H,I,w0⟩)
 rintro n s1 ⟨σ1,H1,I1,w1⟩;refine wpAny_passesOwn hp (cu (hc Rw s1 σ1 H1 _ I1 (turn n σ1 H1 w1)) λb s2 z9=>?_)
 obtain⟨H2,I2,q2⟩:=z9;cases b with
 | true=>
  obtain⟨N,hN,q2⟩:=q2;rw [if_pos rfl];refine wpAny_passesOwn hp (cu (hb Rw s2 σ1 H2 _ I2 q2) λf s3 q3=>?_)
  cases f with
  | next=>
   obtain⟨σ3,H3,I3,n3⟩:=q3;obtain⟨m',hm,w3⟩:=hN σ3 H3 n3;exact⟨m',hm,σ3,H3,I3,w3⟩
  | cont=>
   obtain⟨σ3,H3,I3,n3⟩:=q3;obtain⟨m',hm,w3⟩:=hN σ3 H3 n3;exact⟨m',hm,σ3,H3,I3,w3⟩
  | brk=>exact q3
  | ret v=>exact q3
 | false=>
  rw [if_neg P7];exact wpAny_execs_nil ⟨σ1,H2,I2,q2⟩
end
structure It where
 go:Nat->Hp->Prop
 yld:Nat->Hp->V->Hp->Prop
 stop:Nat->Hp->Prop
def qY (X:Cx) (Rw:List (Rh×Rv)) (H:Hp) (b:Rh):Prop:=
 H b=none/\b≠X.env.locals/\b∉X.fs/\(b∈X.ex\/X.s₀.heap.objs.size<=b)/\(∀ x c,X.env.cells.lookup x=some c->c≠b)/\∀ p∈X.pn++Rw,p.1≠b
theorem aC.fpOk {X:Cx} {Rw:List (Rh×Rv)} {σ:St} {H H':Hp} {s:Rf} {b:Rh} (I:aC X Rw σ H s) (hb:s.heap.objs.size<=b) (hn:H' b=none):qY X Rw H' b:=by
 refine⟨hn,Nat.ne_of_gt (Qc I.lt hb),I.nofs hb,.inr (QF I.sz hb),λx c e z=>?_,λp hp z=>?_⟩
 ·obtain⟨v,q⟩:=I.cell x c e;exact absurd (Qc q.lt (by rw [z]; exact hb)) (QV _)
 ·exact absurd (Qc (P3 (I.pin p hp).1) (by rw [z]; exact hb)) (QV _)
structure xH (P:Rk) (w:Rn) (K:PySem.W.Frag) (tg:Rj) (J:It) (fp:List Rh) (it:Rh) (tn:Nat->Ro->Prop):Prop where
 mem:it∈fp
 obj:∀ i h,tn i h->∀ b∈fp,∃ o,h.get? b=some o/\∀ v,o.data≠.cell v
 keep:∀ i h h',tn i h->(∀ b∈fp,∀ o,h.get? b=some o->h'.get? b=some o)->tn i h'
 item:∀ (X:Cx),X.prog=P->X.w=w->X.K=K->X.calm=true->∀ (i:Nat) (Rw:List (Rh×Rv)) (s:Rf) (σ:St) (H:Hp) (E:Rg->Rf->Prop),aC X Rw σ H s->(∀ b∈fp,qY X Rw H b)->tn i s.heap->J.go i H->
  wpAny (model P w) X.A (pyNext (.ref it)) (λr s1=>∃ u,r=some u/\
   wpAny (model P w) X.A (letOwnedTupleGo tg (.ref it) u) (λ_ s2=>∃ x H',aC X Rw σ H' s2/\aP x u/\J.yld i H x H'/\tn (i+1) s2.heap/\∀ b∈fp,H' b=none) E s1) E s
 done:∀ (X:Cx),X.prog=P->X.w=w->X.K=K->X.calm=true->∀ (i:Nat) (Rw:List (Rh×Rv)) (s:Rf) (σ:St) (H:Hp) (E:Rg->Rf->Prop),aC X Rw σ H s->(∀ b∈fp,qY X Rw H b)->tn i s.heap->J.stop i H->
  wpAny (model P w) X.A (pyNext (.ref it)) (λr s1=>r=none/\aC X Rw σ H s1) E s
 self:∀ (A:Rm) (i:Nat) (s:Rf) (Q:Rg->Rf->Prop) (E:Rg->Rf->Prop),tn i s.heap->Q (.ref it) s->wpAny (model P w) A (pyIter (.ref it)) Q E s
abbrev TI:=St->Hp->(It->Hp->Prop)->Prop
def O0 (X:Cx) (Rw:List (Rh×Rv)) (σ:St) (tg:Rj) (R:It->Hp->Prop) (itv:Rg) (s2:Rf):Prop:=
 ∃ (it:Rh) (fp:List Rh) (tn:Nat->Ro->Prop) (J:It) (H':Hp),itv=.ref it/\aC X Rw σ H' s2/\xH X.prog X.w X.K tg J fp it tn/\tn 0 s2.heap/\(∀ b∈fp,qY X Rw H' b)/\R J H'
def PI (X:Cx) (tg iter:Rj) (wi:TI):Prop:=
 ∀ (Rw:List (Rh×Rv)) (s:Rf) (σ:St) (H:Hp) (R:It->Hp->Prop),aC X Rw σ H s->wi σ H R->
  wpAny (model X.prog X.w) X.A (eval iter X.env) (λv s1=>wpAny (model X.prog X.w) X.A (pyIter v) (O0 X Rw σ tg R) X.xe s1) X.xe s
theorem AM {M:Model} {A:Rm} {E:Rg->Rf->Prop} {s:Rf} {tg:Rj} {it:Rh} {u:Rg} {o:Rv} {n:Rs} {vs:Rq Rg} {Q:Unit->Rf->Prop} (ho:s.heap.get? it=some o) (hc:o.cls=.type n) (hd:o.data=.fields vs)
  (hn:["enumerate","zip","dict_itemiterator","dict_reverseitemiterator","odict_iterator","itertools.zip_longest","itertools.pairwise"].contains n=false) (hQ:Q () s):wpAny M A (letOwnedTupleGo tg (.ref it) u) Q E s:=by
 unfold letOwnedTupleGo;cases tg <;> first
  | exact P0 hQ
  | (cases u <;> first
    | exact P0 hQ
    | (refine gt (wpAny_load ho ?_)
       rw [hc,hd]
       show wpAny M A (if (["enumerate","zip","dict_itemiterator","dict_reverseitemiterator","odict_iterator","itertools.zip_longest","itertools.pairwise"].contains n && vs[0]? == some (rawInt _))=true then _ else _) Q E s
       rw [if_neg (by intro h; rw [hn,Bool.false_and] at h; cases h)]
       exact P0 hQ))
def M_ (K:PySem.W.Frag) (a:Rh):It:=
 ⟨λi H=>∃ xs x,jv K H a xs/\xs[i]?=some x,λi H x H'=>H'=H/\∀ xs,jv K H a xs->xs[i]?=some x,λi H=>∃ xs,jv K H a xs/\xs.length<=i⟩
def MA (K:PySem.W.Frag) (a:Rh):It:=
 ⟨λi H=>∃ xs x,lU K H a xs/\xs[i]?=some x,λi H x H'=>H'=H/\∀ xs,lU K H a xs->xs[i]?=some x,λi H=>∃ xs,lU K H a xs/\xs.length<=i⟩
def N9 (lo:Int) (n:Nat):It:=⟨λi _=>i < n,λi H x H'=>H'=H/\x=.int (lo+i),λi _=>n<=i⟩
theorem Bw {P:Rk} {w:Rn} {K:PySem.W.Frag} {tg:Rj} (a it:Rh):xH P w K tg (M_ K a) [it] it (λi h=>h.IsListIter it a i) where
 mem:=by simp
 obj:=λi h st b hb=>by
  have e:b=it:=by simpa using hb
  subst e;obtain⟨o,e,c,d⟩:=st;exact⟨o,e,λv z=>by rw [d] at z; cases z⟩
 keep:=λi h h' st k=>st.at λo e=>k it (by simp) o e
 item:=by
  intro X hP hw hK hc i Rw s σ H E I hf st hg;subst hP hw hK;obtain⟨xs,x,hq,hx⟩:=hg;obtain⟨its,rv,p,hz⟩:=I.list hq;obtain⟨u,hu,ru⟩:=rv.get hx;obtain⟨f0,f1,f2,f3,f4,f5⟩:=hf it (by simp)
  refine wpAny_pyNext_list_item st p.isList (x:=u) (by simpa using hu) λh' st' sb=>?_
  have I1:aC X Rw σ H {s with heap:=h'}:=I.turned (t':=s.toks) (λb o hb e=>(sb.2 b hb).trans e) f0 f1 f3 f4 f5
  obtain⟨o,e,c,d⟩:=id st';exact⟨u,rfl,AM (s:={s with heap:=h'}) e c d (by decide) ⟨x,H,I1,ru,⟨rfl,λys hy=>by rw [I.list_inj hy hq]; exact hx⟩,st',λb hb=>(hf b hb).1⟩⟩
 done:=by
  intro X hP hw hK hc i Rw s σ H E I hf st hg;subst hP hw hK;obtain⟨xs,hq,hx⟩:=hg;obtain⟨its,rv,p,hz⟩:=I.list hq;obtain⟨f0,f1,f2,f3,f4,f5⟩:=hf it (by simp)
  have hl:=rv.length;exact wpAny_pyNext_list_end (I.ok.hd hc) st p.isList (by simp; omega) λh' eb=>⟨rfl,I.turned (t':=s.toks) (λb o hb e=>eb b o hb e) f0 f1 f3 f4 f5⟩
 self:=λ_ _ _ _ _ st h=>wpAny_pyIter_listiter st h
theorem yW {P:Rk} {w:Rn} {K:PySem.W.Frag} {tg:Rj} (a it:Rh):xH P w K tg (MA K a) [it] it (λi h=>h.IsTupleIter it a i) where
 mem:=by simp
 obj:=λi h st b hb=>by
  have e:b=it:=by simpa using hb
  subst e;obtain⟨o,e,c,d⟩:=st;exact⟨o,e,λv z=>by rw [d] at z; cases z⟩
 keep:=λi h h' st k=>st.at λo e=>k it (by simp) o e
 item:=by
  intro X hP hw hK hc i Rw s σ H E I hf st hg;subst hP hw hK;obtain⟨xs,x,hq,hx⟩:=hg;obtain⟨its,rv,p,hz⟩:=I.tuple hq;obtain⟨u,hu,ru⟩:=rv.get hx;obtain⟨f0,f1,f2,f3,f4,f5⟩:=hf it (by simp)
  refine wpAny_pyNext_tuple_item st (show s.heap.IsTuple a its.toArray from p) (x:=u) (by simpa using hu) λh' st' sb=>?_
  have I1:aC X Rw σ H {s with heap:=h'}:=I.turned (t':=s.toks) (λb o hb e=>(sb.2 b hb).trans e) f0 f1 f3 f4 f5
  obtain⟨o,e,c,d⟩:=id st';exact⟨u,rfl,AM (s:={s with heap:=h'}) e c d (by decide) ⟨x,H,I1,ru,⟨rfl,λys hy=>by rw [I.tuple_inj hy hq]; exact hx⟩,st',λb hb=>(hf b hb).1⟩⟩
 done:=by
  intro X hP hw hK hc i Rw s σ H E I hf st hg;subst hP hw hK;obtain⟨xs,hq,hx⟩:=hg;obtain⟨its,rv,p,hz⟩:=I.tuple hq;obtain⟨f0,f1,f2,f3,f4,f5⟩:=hf it (by simp)
  have hl:=rv.length;exact wpAny_pyNext_tuple_end (I.ok.hd hc) st (show s.heap.IsTuple a its.toArray from p) (by simp; omega) λh' eb=>⟨rfl,I.turned (t':=s.toks) (λb o hb e=>eb b o hb e) f0 f1 f3 f4 f5⟩
 self:=λ_ _ _ _ _ st h=>wpAny_pyIter_tupleiter st h
theorem zp {P:Rk} {w:Rn} {K:PySem.W.Frag} {tg:Rj} (it:Rh) (lo:Int) (n:Nat):xH P w K tg (N9 lo n) [it] it (λi h=>IsRangeIter h it (lo+(i:Nat)*1) ((n:Int) - (i:Nat)) 1) where
 mem:=by simp
 obj:=λi h st b hb=>by
  have e:b=it:=by simpa using hb
  subst e;exact⟨_,st,λv z=>by
   have z':Data.fields _=Data.cell v:=z;cases z'⟩
 keep:=λi h h' st k=>k it (by simp) _ st
 item:=by
  intro X hP hw hK hc i Rw s σ H E I hf st hg;subst hP hw hK;obtain⟨f0,f1,f2,f3,f4,f5⟩:=hf it (by simp)
  have W:=Walks.range (prog:=X.prog) (w:=X.w) (I.ok.hd hc) it lo 1 n;refine W.item i s _ _ hg st λv h' tk hv st' kk=>?_
  obtain⟨t,rfl⟩:=hv;have I1:aC X Rw σ H {s with heap:=h',toks:=tk}:=I.turned (λb o hb e=>kk b o (by simpa using hb) e) f0 f1 f3 f4 f5
  refine⟨_,rfl,AM (s:={s with heap:=h',toks:=tk}) (n:="range_iterator") st' rfl rfl (by decide) ⟨.int (lo+i),H,I1,⟨t,?_⟩,⟨rfl,rfl⟩,st',λb hb=>(hf b hb).1⟩⟩
  rw [Int.mul_one]
 done:=by
  intro X hP hw hK hc i Rw s σ H E I hf st hg;subst hP hw hK;obtain⟨f0,f1,f2,f3,f4,f5⟩:=hf it (by simp)
  exact wpAny_pyNext_range_end (I.ok.hd hc) st (by have:n<=i:=hg; omega) λh' eb=>⟨rfl,I.turned (t':=s.toks) (λb o hb e=>eb b o hb e) f0 f1 f3 f4 f5⟩
 self:=λ_ _ _ _ _ st h=>wpAny_pyIter_rangeiter st h
section
variable {X:Cx} {tg:Rj}
theorem Fy {Rw:List (Rh×Rv)} {σ:St} {H:Hp} {s:Rf} {R:It->Hp->Prop} {E:Rg->Rf->Prop} {lo hi:Int} {t u v:Tok} {tk:Nat} (I:aC X Rw σ H s) (h1:-(2 ^ 62)<=lo) (h2:lo < 2 ^ 62) (h3:-(2 ^ 62)<=hi) (h4:hi < 2 ^ 62)
  (q:R (N9 lo (hi - lo).toNat) H):wpAny (model X.prog X.w) X.A (pyIter (.ref s.heap.objs.size)) (O0 X Rw σ tg R) E {s with heap:=s.heap.push {cls:=.type "range",data:=.fields #[.int lo t,.int hi u,.int 1 v]},toks:=tk}:=by
 refine wpAny_pyIter_range (IsRange.new ..) (small_one h1 h2 h3 h4) ?_;have I1:aC X Rw σ H {s with heap:=s.heap.push {cls:=.type "range",data:=.fields #[.int lo t,.int hi u,.int 1 v]},toks:=tk}:=I.kept λb o e=>PZ _ e
 refine⟨(s.heap.push {cls:=.type "range",data:=.fields #[.int lo t,.int hi u,.int 1 v]}).objs.size,[(s.heap.push {cls:=.type "range",data:=.fields #[.int lo t,.int hi u,.int 1 v]}).objs.size],_,_,H,rfl,
  I1.kept (t':=tk) λb o e=>PZ _ e,zp _ lo (hi - lo).toNat,?_,λb hb=>?_,q⟩
 ·have e1:lo+((0:Nat):Int)*1=lo:=by simp
  have e2:(((hi - lo).toNat:Nat):Int) - ((0:Nat):Int)=Builtin.Range.rangeSize lo hi 1:=by rw [rangeSize_one]; split <;> omega
  show IsRangeIter _ _ (lo+((0:Nat):Int)*1) ((((hi - lo).toNat:Nat):Int) - ((0:Nat):Int)) 1
  rw [e1,e2];exact P1 _ rfl
 ·have e:b=(s.heap.push {cls:=.type "range",data:=.fields #[.int lo t,.int hi u,.int 1 v]}).objs.size:=by simpa using hb
  subst e;exact I1.fpOk (P4 _) (I1.hok.fresh (P4 _))
def Nr (ta:TA):TI:=fun σ H R=>ta σ H λvs H1=>∃ j:Int,vs=[.int j]/\-(2 ^ 62)<=j/\j < 2 ^ 62/\R (N9 0 j.toNat) H1
theorem CG {a:Rj} {ta:TA} {p pos:Pos} (hg:Gl X "range") (hm:X.mg "range"=none) (ha:PA X [a] ta) (hs:starEach [a] X.env=[(false,eval a X.env)]:=by rfl):PI X tg (.Call (.Name "range" p) [a] [] pos) (Nr ta):=by
 intro Rw s σ H R I h;refine Call_ (pL I hg hm boot_range (PyProof.Rows.callWith_type1 (cu (ha pos Rw s σ H _ I h) λus s1 ⟨vs,H1,I1,r1,q1⟩=>?_) hs rfl))
 obtain⟨j,e,q1,q2,q⟩:=q1;subst e;cases r1 with
 | cons r rr=>
  cases rr;obtain⟨t,rfl⟩:=r;exact call_range_1 (Fy I1 (by omega) (by omega) q1 q2 (by simpa using q))
def NY (wi:TI) (g:TG) (tb:TS):TS:=λD σ H=>wi σ H λJ H1=>∃ W:Nat->Nat->St->Hp->Prop,(∃ m,W 0 m σ H1)/\∀ i m σ H,W i m σ H->
 (J.stop i H/\D.nx σ H)\/(J.go i H/\∃ N:St->Hp->Prop,(∀ σ' H',N σ' H'->∃ m',m' < m/\W (i+1) m' σ' H')/\∀ x H',J.yld i H x H'->g x σ H' fun σ2 H2=>tb {D with nx:=N,ct:=N,bk:=D.nx} σ2 H2)
def sG (fp:List Rh) (h:Ro):List (Rh×Rv):=fp.filterMap λb=>(h.get? b).map λo=>(b,o)
theorem gT {fp:List Rh} {h:Ro} {b:Rh} {o:Rv} (hb:b∈fp) (e:h.get? b=some o):(b,o)∈sG fp h:=List.mem_filterMap.mpr ⟨b,hb,by rw [e]; rfl⟩
theorem CL {fp:List Rh} {h:Ro} {p:Rh×Rv} (hp:p∈sG fp h):p.1∈fp/\h.get? p.1=some p.2:=by
 obtain⟨b,hb,e⟩:=List.mem_filterMap.mp hp;cases q:h.get? b with
 | none=>rw [q] at e; cases e
 | some o=>
  rw [q] at e;have e':(b,o)=p:=Qx e;subst e';exact⟨hb,q⟩
theorem aC.pinned {Rw:List (Rh×Rv)} {σ:St} {H:Hp} {s:Rf} {fp:List Rh} (I:aC X Rw σ H s) (hf:∀ b∈fp,qY X Rw H b) (ho:∀ b∈fp,∃ o,s.heap.get? b=some o/\∀ v,o.data≠.cell v):aC X (Rw++sG fp s.heap) σ H s:=
 I.pins_of λp hp=>(List.mem_append.mp hp).elim (λz=>I.pin p (Qd _ z)) λz=>by
  obtain⟨hb,e⟩:=CL z;obtain⟨f0,f1,f2,_⟩:=hf p.1 hb;obtain⟨o,e',d⟩:=ho p.1 hb;rw [e] at e'; cases e'
  exact⟨e,f0,f1,f2,d⟩
theorem aC.unpinned {Rw pl:List (Rh×Rv)} {σ:St} {H:Hp} {s:Rf} (I:aC X (Rw++pl) σ H s):aC X Rw σ H s:=I.pins_of λp hp=>I.pin p (Qd _ (List.mem_append_left _ hp))
theorem tK {iter:Rj} {body:List Rp} {wi:TI} {g:TG} {tb:TS} {pos:Pos} (hp:PassesOwn (model X.prog X.w) X.A X.env X.xe) (hc:X.calm=true) (hi:PI X tg iter wi) (hg:PG X tg g) (hb:ub X body tb)
  (hs:∀ x,foldedSetIterable iter X.env x=pure x:=by intro _; rfl):PS X (.For tg iter body [] pos) (NY wi g tb):=by
 intro Rw s σ H D I h;refine wpAny_For (cu (hi Rw s σ H _ I h) λv s1 h1=>cu h1 λitv s2 h2=>?_) hs
 obtain⟨it,fp,tn,J,H2,e,I2,T,st2,f2,W,⟨m0,w0⟩,turn⟩:=h2;subst e;have stat:∀ {H':Hp},(∀ b∈fp,H' b=none)->∀ b∈fp,qY X Rw H' b:=λhn b hb=>⟨hn b hb,(f2 b hb).2⟩
 refine codeAny_forLoop_any (λn s'=>∃ i σ' H',aC X Rw σ' H' s'/\tn i s'.heap/\(∀ b∈fp,H' b=none)/\W i n σ' H') ?_ m0 ⟨0,σ,H2,I2,st2,λb hb=>(f2 b hb).1,w0⟩
 rintro n s3 ⟨i,σ3,H3,I3,st3,fr3,w3⟩;rcases turn i n σ3 H3 w3 with ⟨stop,qn⟩ | ⟨go,N,hN,step⟩
 ·refine wpAny_passesOwn hp (cu (T.done X rfl rfl rfl hc i Rw s3 σ3 H3 X.xe I3 (stat fr3) st3 stop) λr s4 z9=>?_)
  obtain⟨hr,I4⟩:=z9;subst hr;exact wpAny_execs_nil ⟨σ3,H3,I4,qn⟩
 ·refine wpAny_passesOwn hp (cu (T.item X rfl rfl rfl hc i Rw s3 σ3 H3 X.xe I3 (stat fr3) st3 go) λr s4 z9=>?_)
  obtain⟨u,hr,h4⟩:=z9;subst hr;refine wpAny_passesOwn hp (cu h4 λ_ s5 z9=>?_)
  obtain⟨x,H5,I5,r5,y5,st5,fr5⟩:=z9;have I5':=I5.pinned (stat fr5) (T.obj _ _ st5);refine wpAny_passesOwn hp (cu (hg _ s5 σ3 H5 x u _ I5' r5 (step x H5 y5)) λ_ s6 z9=>?_)
  obtain⟨σ6,H6,I6,q6⟩:=z9;refine wpAny_passesOwn hp (cu (hb _ s6 σ6 H6 _ I6 q6) λf s7 q7=>?_)
  have again:∀ {σ7:St} {H7:Hp},aC X (Rw++sG fp s5.heap) σ7 H7 s7->N σ7 H7->∃ m,m < n/\∃ i σ' H',aC X Rw σ' H' s7/\tn i s7.heap/\(∀ b∈fp,H' b=none)/\W i m σ' H':=λ{σ7 H7} I7 n7=>by
   obtain⟨m',hm,w7⟩:=hN σ7 H7 n7;refine⟨m',hm,i+1,σ7,H7,I7.unpinned,T.keep _ _ _ st5 λb hb o e=>(I7.pin (b,o) (Qd _ (Qd _ (gT hb e)))).1,λb hb=>?_,w7⟩
   obtain⟨o,e,d⟩:=T.obj _ _ st5 b hb;exact(I7.pin (b,o) (Qd _ (Qd _ (gT hb e)))).2.1
  cases f with
  | next=>obtain⟨σ7,H7,I7,n7⟩:=q7; exact again I7 n7
  | cont=>obtain⟨σ7,H7,I7,n7⟩:=q7; exact again I7 n7
  | brk=>obtain⟨σ7,H7,I7,q7⟩:=q7; exact⟨σ7,H7,I7.unpinned,q7⟩
  | ret v=>obtain⟨x7,σ7,H7,I7,r7,q7⟩:=q7; exact⟨x7,σ7,H7,I7.unpinned,r7,q7⟩
end
abbrev R2:=V->V->Hp->VK->Prop
def jf (X:Cx) (f:Rg->Rg->Sem Rg) (r:R2):Prop:=
 ∀ (Rw:List (Rh×Rv)) (s:Rf) (σ:St) (H:Hp) (x y:V) (v u:Rg) (Q:VK),aC X Rw σ H s->aP x v->aP y u->r x y H Q->
  wpAny (model X.prog X.w) X.A (f v u) (EP X Rw σ Q) X.xe s
def Mj (X:Cx) (f:Rg->Sem Rg) (r:V->Hp->VK->Prop):Prop:=
 ∀ (Rw:List (Rh×Rv)) (s:Rf) (σ:St) (H:Hp) (x:V) (v:Rg) (Q:VK),aC X Rw σ H s->aP x v->r x H Q->
  wpAny (model X.prog X.w) X.A (f v) (EP X Rw σ Q) X.xe s
def dw (X:Cx) (f:Rg) (r:List V->Hp->VK->Prop):Prop:=
 ∀ (Rw:List (Rh×Rv)) (s:Rf) (σ:St) (H:Hp) (xs:List V) (us:List Rg) (Q:VK),aC X Rw σ H s->bf xs us->r xs H Q->
  wpAny (model X.prog X.w) X.A (call f us) (EP X Rw σ Q) X.xe s
def Mi (r:R2) (ta tb:TE):TE:=fun σ H Q=>ta σ H λx H1=>tb σ H1 λy H2=>r x y H2 Q
def Pp (r:V->Hp->VK->Prop) (ta:TE):TE:=fun σ H Q=>ta σ H λx H1=>r x H1 Q
def rI (C:Int->Int->Prop) (g:Int->Int->V):R2:=λx y H Q=>∃ i j,x=.int i/\y=.int j/\C i j/\Q (g i j) H
def Ix (g:Int->Int->V):R2:=λx y H Q=>∃ i j,x=.int i/\y=.int j/\Q (g i j) H
def rU (g:Int->V):V->Hp->VK->Prop:=λx H Q=>∃ i,x=.int i/\Q (g i) H
section
variable {X:Cx} {a b c:Rj} {ta tb tc:TE} {pos:Pos}
theorem KD (ha:PE X a ta) (hb:PE X b tb) {Rw:List (Rh×Rv)} {s:Rf} {σ:St} {H:Hp} {R:V->V->Hp->Prop} (I:aC X Rw σ H s)
  (h:ta σ H λx H1=>tb σ H1 λy H2=>R x y H2) {Q:Rg->Rf->Prop} {f:Rg->Rg->Sem Rg}
  (hf:∀ v u s2 x y H2,aC X Rw σ H2 s2->aP x v->aP y u->R x y H2->wpAny (model X.prog X.w) X.A (f v u) Q X.xe s2):
  wpAny (model X.prog X.w) X.A (eval a X.env) (λv s₁=>wpAny (model X.prog X.w) X.A (eval b X.env) (λu s₂=>wpAny (model X.prog X.w) X.A (f v u) Q X.xe s₂) X.xe s₁) X.xe s:=by
 refine cu (ha Rw s σ H _ I h) λv s1 z9=>?_
 obtain⟨x,H1,I1,r1,q1⟩:=z9;refine cu (hb Rw s1 σ H1 _ I1 q1) λu s2 z9=>?_
 obtain⟨y,H2,I2,r2,q2⟩:=z9;exact hf v u s2 x y H2 I2 r1 r2 q2
theorem M7 {op:Operator} {r:R2} (ho:jf X (binaryOp op) r) (ha:PE X a ta) (hb:PE X b tb):PE X (.BinOp a op b pos) (Mi r ta tb):=by
 intro Rw s σ H Q I h;exact wpAny_BinOp (KD ha hb I h λv u s2 x y H2 I2 rx ry q=>ho Rw s2 σ H2 x y v u Q I2 rx ry q)
theorem LV {op:UnaryOp} {r:V->Hp->VK->Prop} (ho:Mj X (unaryOp op) r) (ha:PE X a ta):PE X (.UnaryOp op a pos) (Pp r ta):=by
 intro Rw s σ H Q I h;exact UnaryOp_ (cu (ha Rw s σ H _ I h) λv s1 z9=>by obtain⟨x,H1,I1,r1,q1⟩:=z9; exact ho Rw s1 σ H1 x v Q I1 r1 q1)
theorem M5 {f:Rg->Rg->Sem Rg} {C:Int->Int->Prop} {g:Int->Int->Int}
  (rule:∀ (i j:Int) (t u:Tok) (s:Rf) (Q:Rg->Rf->Prop) (E:Rg->Rf->Prop),C i j->Q (.int (g i j) s.toks) {s with toks:=s.toks+1}->wpAny (model X.prog X.w) X.A (f (.int i t) (.int j u)) Q E s):
  jf X f (rI C λi j=>.int (g i j)):=by
 intro Rw s σ H x y v u Q I rx ry h;obtain⟨i,j,rfl,rfl,hc,q⟩:=h;obtain⟨t,rfl⟩:=rx;obtain⟨t',rfl⟩:=ry;exact rule i j t t' s _ _ hc ⟨.int (g i j),H,I.tok _,⟨_,rfl⟩,q⟩
theorem Ly {f:Rg->Rg->Sem Rg} {g:Int->Int->Int}
  (rule:∀ (i j:Int) (t u:Tok) (s:Rf) (Q:Rg->Rf->Prop) (E:Rg->Rf->Prop),Q (.int (g i j) s.toks) {s with toks:=s.toks+1}->wpAny (model X.prog X.w) X.A (f (.int i t) (.int j u)) Q E s):
  jf X f (Ix λi j=>.int (g i j)):=by
 intro Rw s σ H x y v u Q I rx ry h;obtain⟨i,j,rfl,rfl,q⟩:=h;obtain⟨t,rfl⟩:=rx;obtain⟨t',rfl⟩:=ry;exact rule i j t t' s _ _ ⟨.int (g i j),H,I.tok _,⟨_,rfl⟩,q⟩
theorem J9 {f:Rg->Rg->Sem Rg} {g:Int->Int->Rr}
  (rule:∀ (i j:Int) (t u:Tok) (s:Rf) (Q:Rg->Rf->Prop) (E:Rg->Rf->Prop),Q (.bool (g i j)) s->wpAny (model X.prog X.w) X.A (f (.int i t) (.int j u)) Q E s):
  jf X f (Ix λi j=>.bl (g i j)):=by
 intro Rw s σ H x y v u Q I rx ry h;obtain⟨i,j,rfl,rfl,q⟩:=h;obtain⟨t,rfl⟩:=rx;obtain⟨t',rfl⟩:=ry;exact rule i j t t' s _ _ ⟨.bl (g i j),H,I,rfl,q⟩
def CM (i j:Int):Prop:=0<=j/\j<=1000000/\i.natAbs < 2 ^ 64
theorem Jv:jf X (binaryOp .Add) (Ix λi j=>.int (i+j)):=Ly λ_ _ _ _ _ _ _ q=>add_int q
theorem Jk:jf X (binaryOp .Sub) (Ix λi j=>.int (i - j)):=Ly λ_ _ _ _ _ _ _ q=>sub_int q
theorem GM:jf X (binaryOp .Mod) (rI (λ_ j=>j≠0) λi j=>.int (i.fmod j)):=M5 λ_ _ _ _ _ _ _ hc q=>mod_int' hc q
theorem KQ:jf X (binaryOp .Pow) (rI CM λi j=>.int (i ^ j.toNat)):=M5 λ_ _ _ _ _ _ _ hc q=>pow_int_small hc.1 hc.2.1 hc.2.2 q
theorem Kt:jf X (binaryOp .LShift) (rI CM λi j=>.int (i*2 ^ j.toNat)):=M5 λ_ _ _ _ _ _ _ hc q=>lshift_int_small hc.1 hc.2.1 hc.2.2 q
theorem PB {f:Rg->Sem Rg} {g:Int->Int}
  (rule:∀ (i:Int) (t:Tok) (s:Rf) (Q:Rg->Rf->Prop) (E:Rg->Rf->Prop),Q (.int (g i) s.toks) {s with toks:=s.toks+1}->wpAny (model X.prog X.w) X.A (f (.int i t)) Q E s):
  Mj X f (rU λi=>.int (g i)):=by
 intro Rw s σ H x v Q I rx h;obtain⟨i,rfl,q⟩:=h;obtain⟨t,rfl⟩:=rx;exact rule i t s _ _ ⟨.int (g i),H,I.tok _,⟨_,rfl⟩,q⟩
theorem Je:Mj X (unaryOp .USub) (rU λi=>.int (-i)):=PB λ_ _ _ _ _ q=>neg_int q
end
def KY:V->V->Rr
 | .non,.non=>true | .non,.int _=>true | .int _,.non=>true | .non,.bl _=>true | .bl _,.non=>true | .non,.str _=>true | .str _,.non=>true
 | .int _,.int _=>true | .bl _,.bl _=>true | .str _,.str _=>true | .byt _,.byt _=>true
 | .int _,.str _=>true | .str _,.int _=>true | .bl _,.str _=>true | .str _,.bl _=>true
 | _,_=>false
def PQ:R2:=λx y H Q=>KY x y=true/\Q (.bl (decide (x=y))) H
def PD:R2:=λx y H Q=>KY x y=true/\Q (.bl (!decide (x=y))) H
theorem Ao {i j:Int}:decide (V.int i=V.int j)=(i == j):=by
 rw [Bool.eq_iff_iff];simp
theorem Er {i j:Rr}:decide (V.bl i=V.bl j)=(i == j):=by
 rw [Bool.eq_iff_iff];simp
theorem Bl {i j:Str}:decide (V.str i=V.str j)=(i == j):=by
 rw [Bool.eq_iff_iff];simp
theorem AO {i j:Rq UInt8}:decide (V.byt i=V.byt j)=(i.toList == j.toList):=by
 rw [Bool.eq_iff_iff];cases i;cases j;simp
section
variable {X:Cx} {a b c:Rj} {ta tb tc:TE} {pos:Pos}
theorem bw {Rw:List (Rh×Rv)} {σ:St} {H:Hp} {s:Rf} {Q:VK} {k k':Rr} (I:aC X Rw σ H s) (q:Q (.bl k) H) (e:k=k'):EP X Rw σ Q (.bool k') s:=by
 subst e;exact⟨.bl k,H,I,rfl,q⟩
theorem Ml:jf X (compareOp .Eq) PQ:=by
 intro Rw s σ H x y v u Q I rx ry h;obtain⟨hs,q⟩:=h;cases x with
 | non=>
  cases rx;cases y with
  | non=>cases ry; exact PySem.EqNone.eq_none_none (bw I q (by simp))
  | bl j=>cases ry; exact PySem.EqNone.eq_none_bool (bw I q (by simp))
  | int j=>obtain⟨t',rfl⟩:=ry; exact PySem.EqNone.eq_none_int (bw I q (by simp))
  | str j=>obtain⟨t',rfl⟩:=ry; exact PySem.EqNone.eq_none_str (bw I q (by simp))
  | _=>exact absurd (show false=true from hs) P7
 | bl i=>
  cases rx;cases y with
  | non=>cases ry; exact PySem.EqNone.eq_bool_none (bw I q (by simp))
  | bl j=>cases ry; exact eq_bool (bw I q Er)
  | str j=>obtain⟨t',rfl⟩:=ry; exact PySem.EqMixed.eq_bool_str (bw I q (by simp))
  | _=>exact absurd (show false=true from hs) P7
 | int i=>
  obtain⟨t,rfl⟩:=rx;cases y with
  | non=>cases ry; exact PySem.EqNone.eq_int_none (bw I q (by simp))
  | int j=>obtain⟨t',rfl⟩:=ry; exact eq_int (bw I q Ao)
  | str j=>obtain⟨t',rfl⟩:=ry; exact PySem.EqMixed.eq_int_str (bw I q (by simp))
  | _=>exact absurd (show false=true from hs) P7
 | str i=>
  obtain⟨t,rfl⟩:=rx;cases y with
  | non=>cases ry; exact PySem.EqNone.eq_str_none (bw I q (by simp))
  | bl j=>cases ry; exact PySem.EqMixed.eq_str_bool (bw I q (by simp))
  | int j=>obtain⟨t',rfl⟩:=ry; exact PySem.EqMixed.eq_str_int (bw I q (by simp))
  | str j=>obtain⟨t',rfl⟩:=ry; exact eq_str (bw I q Bl)
  | _=>exact absurd (show false=true from hs) P7
 | byt i=>
  obtain⟨t,rfl⟩:=rx;cases y with
  | byt j=>obtain⟨t',rfl⟩:=ry; exact PySem.W.eq_bytes (bw I q AO)
  | _=>exact absurd (show false=true from hs) P7
 | _=>cases y <;> exact absurd (show false=true from hs) P7
theorem Nv:jf X (compareOp .NotEq) PD:=by
 intro Rw s σ H x y v u Q I rx ry h;obtain⟨hs,q⟩:=h;cases x with
 | non=>
  cases rx;cases y with
  | non=>cases ry; exact PySem.EqNone.ne_none_none (bw I q (by simp))
  | bl j=>cases ry; exact PySem.EqNone.ne_none_bool (bw I q (by simp))
  | int j=>obtain⟨t',rfl⟩:=ry; exact PySem.EqNone.ne_none_int (bw I q (by simp))
  | str j=>obtain⟨t',rfl⟩:=ry; exact PySem.EqNone.ne_none_str (bw I q (by simp))
  | _=>exact absurd (show false=true from hs) P7
 | bl i=>
  cases rx;cases y with
  | non=>cases ry; exact PySem.EqNone.ne_bool_none (bw I q (by simp))
  | bl j=>cases ry; exact ne_bool (bw I q (congrArg not Er))
  | str j=>obtain⟨t',rfl⟩:=ry; exact PySem.EqMixed.ne_bool_str (bw I q (by simp))
  | _=>exact absurd (show false=true from hs) P7
 | int i=>
  obtain⟨t,rfl⟩:=rx;cases y with
  | non=>cases ry; exact PySem.EqNone.ne_int_none (bw I q (by simp))
  | int j=>obtain⟨t',rfl⟩:=ry; exact ne_int (bw I q (congrArg not Ao))
  | str j=>obtain⟨t',rfl⟩:=ry; exact PySem.EqMixed.ne_int_str (bw I q (by simp))
  | _=>exact absurd (show false=true from hs) P7
 | str i=>
  obtain⟨t,rfl⟩:=rx;cases y with
  | non=>cases ry; exact PySem.EqNone.ne_str_none (bw I q (by simp))
  | bl j=>cases ry; exact PySem.EqMixed.ne_str_bool (bw I q (by simp))
  | int j=>obtain⟨t',rfl⟩:=ry; exact PySem.EqMixed.ne_str_int (bw I q (by simp))
  | str j=>obtain⟨t',rfl⟩:=ry; exact ne_str (bw I q (congrArg not Bl))
  | _=>exact absurd (show false=true from hs) P7
 | byt i=>
  obtain⟨t,rfl⟩:=rx;cases y with
  | byt j=>obtain⟨t',rfl⟩:=ry; exact PySem.W.ne_bytes (bw I q (congrArg not AO))
  | _=>exact absurd (show false=true from hs) P7
 | _=>cases y <;> exact absurd (show false=true from hs) P7
theorem MQ:jf X (compareOp .Lt) (Ix λi j=>.bl (decide (i < j))):=J9 λ_ _ _ _ _ _ _ q=>lt_int q
theorem LU:jf X (compareOp .Gt) (Ix λi j=>.bl (decide (j < i))):=J9 λ_ _ _ _ _ _ _ q=>gt_int q
theorem Me:jf X (compareOp .GtE) (Ix λi j=>.bl (decide (j<=i))):=J9 λ_ _ _ _ _ _ _ q=>ge_int q
theorem KO:jf X (compareOp .Is) (λx y H Q=>y=.non/\Q (.bl (decide (x=.non))) H):=by
 intro Rw s σ H x y v u Q I rx ry h;obtain⟨rfl,q⟩:=h;cases ry;refine is_none_gen (bw I q ?_);cases x <;> first
  | (cases rx; rfl)
  | (obtain ⟨t,rfl⟩:=rx; rfl)
theorem Go:jf X (compareOp .IsNot) (λx y H Q=>y=.non/\Q (.bl (!decide (x=.non))) H):=by
 intro Rw s σ H x y v u Q I rx ry h;obtain⟨rfl,q⟩:=h;cases ry;refine isnot_none_gen (bw I q ?_);cases x <;> first
  | (cases rx; rfl)
  | (obtain ⟨t,rfl⟩:=rx; rfl)
theorem aM (b:Rj) {op:CmpOp} (h:op≠.In:=by decide) (h2:op≠.NotIn:=by decide):behindInMarks op b=false:=by
 have e1:(op == CmpOp.In)=false:=by cases op <;> first | rfl | exact absurd rfl h
 have e2:(op == CmpOp.NotIn)=false:=by cases op <;> first | rfl | exact absurd rfl h2
 cases b <;> simp [behindInMarks,e1,e2]
theorem GD {op:CmpOp} {r:R2} (ho:jf X (compareOp op) r) (ha:PE X a ta) (hb:PE X b tb) (hm:behindInMarks op b=false):PE X (.Compare a [op] [b] pos) (Mi r ta tb):=by
 intro Rw s σ H Q I h;exact wpAny_Compare1 (KD ha hb I h λv u s2 x y H2 I2 rx ry q=>ho Rw s2 σ H2 x y v u Q I2 rx ry q) hm
def IL (t:TE):TT:=fun σ H Q=>t σ H λx H'=>∃ k,x=.bl k/\Q k H'
theorem G6 {op:CmpOp} {r:R2} (ho:jf X (compareOp op) r) (ha:PE X a ta) (hb:PE X b tb) (hm:behindInMarks op b=false):PT X (.Compare a [op] [b] pos) (IL (Mi r ta tb)):=by
 intro Rw s σ H Q I h;refine wpAny_isTrue_Compare1 (cu (ha Rw s σ H _ I h) λv s1 ⟨x,H1,I1,r1,q1⟩=>cu (hb Rw s1 σ H1 _ I1 q1) λu s2 ⟨y,H2,I2,r2,q2⟩=>
  cu (ho Rw s2 σ H2 x y v u _ I2 r1 r2 q2) λc s3 ⟨z,H3,I3,r3,k,e,q3⟩=>?_) hm
 subst e;cases r3;exact wpAny_truthy_bool ⟨H3,I3,q3⟩
theorem wl:(sizeLine:Nat) < 2 ^ 63:=by rw [sizeLine_eq]; decide
theorem zx:jf X (binaryOp .Add) (λx y H Q=>∃ i j,x=.str i/\y=.str j/\i.length+j.length<=sizeLine/\Q (.str (i++j)) H):=by
 intro Rw s σ H x y v u Q I rx ry h;obtain⟨i,j,rfl,rfl,hz,q⟩:=h;obtain⟨t,rfl⟩:=rx;obtain⟨t',rfl⟩:=ry;exact add_str (λt' tk=>⟨.str (i++j),H,I.tok _,⟨_,rfl⟩,q⟩) hz
theorem lG {x:V} {us:List Rg} (r:bf [x] us):∃ u,us=[u]/\aP x u:=by
 cases r with
 | cons r1 r2=>cases r2; exact⟨_,rfl,r1⟩
theorem C9 {x y:V} {us:List Rg} (r:bf [x,y] us):∃ u w',us=[u,w']/\aP x u/\aP y w':=by
 cases r with
 | cons r1 r2=>
  cases r2 with
  | cons r3 r4=>cases r4; exact⟨_,_,rfl,r1,r3⟩
theorem E3:dw X (.builtin "abs") (λxs H Q=>∃ i,xs=[.int i]/\Q (.int (if i < 0 then -i else i)) H):=by
 intro Rw s σ H xs us Q I r h;obtain⟨i,rfl,q⟩:=h;obtain⟨u,rfl,t,rfl⟩:=lG r;exact call_abs_int λu tk=>⟨.int (if i < 0 then -i else i),H,I.tok _,⟨_,rfl⟩,q⟩
theorem BN (hc:X.calm=true):dw X (.builtin "max") (λxs H Q=>∃ i j,xs=[.int i,.int j]/\Q (.int (if j > i then j else i)) H):=by
 intro Rw s σ H xs us Q I r h;obtain⟨i,j,rfl,q⟩:=h;obtain⟨u,w',rfl,⟨t,rfl⟩,⟨t',rfl⟩⟩:=C9 r;refine max_two_ints (I.ok.hd hc) λh' tk k=>⟨_,H,I.kept k,?_,q⟩
 by_cases hj:j > i
 ·rw [if_pos hj,if_pos hj]; exact⟨_,rfl⟩
 ·rw [if_neg hj,if_neg hj]; exact⟨_,rfl⟩
theorem CU (hc:X.calm=true):dw X (.builtin "min") (λxs H Q=>∃ i j,xs=[.int i,.int j]/\Q (.int (if j < i then j else i)) H):=by
 intro Rw s σ H xs us Q I r h;obtain⟨i,j,rfl,q⟩:=h;obtain⟨u,w',rfl,⟨t,rfl⟩,⟨t',rfl⟩⟩:=C9 r;refine min_two_ints (I.ok.hd hc) λh' tk k=>⟨_,H,I.kept k,?_,q⟩
 by_cases hj:j < i
 ·rw [if_pos hj,if_pos hj]; exact⟨_,rfl⟩
 ·rw [if_neg hj,if_neg hj]; exact⟨_,rfl⟩
end
theorem ul.some_of {v:V} {o:Ri Rg} (r:ul (some v) o):∃ u,o=some u/\aP v u:=by
 cases o with
 | none=>exact(show False from r).elim
 | some u=>exact⟨u,rfl,r⟩
structure b3 (k:Nat) (A:Rm):Prop where
 hd:A.handled=none
 dp:A.depth+3*k+5 < recursionLimit
 un:A.units+16*k+200 < cLine
theorem b3.mono {j k:Nat} {A:Rm} (r:b3 k A) (h:j<=k):b3 j A:=⟨r.hd,by have:=r.dp; omega,by have:=r.un; omega⟩
theorem b3.deeper {k:Nat} {A:Rm} (r:b3 (k+1) A) (env:Env):b3 k (A.deeper env):=
 ⟨r.hd,by have:=r.dp; show A.depth+1+3*k+5 < _; omega,by have:=r.un; show A.units+3+16*k+200 < _; omega⟩
theorem Ak {A:Rm} {C:Rh} {us:List Rg} {kw:List (Str×Rg)}:(A.under (.builtin "type.__call__" ⟨.ref C::us,kw⟩)).depth=A.depth+1:=by
 first | rfl | simp [Around.under,Code.weight,Code.isCreation,Code.isGuard,Code.isCaller,Code.frames,Code.isFrame,guardIds]
theorem zv {A:Rm} {C:Rh} {us:List Rg} {kw:List (Str×Rg)}:(A.under (.builtin "type.__call__" ⟨.ref C::us,kw⟩)).units=A.units+1:=by
 first | rfl | simp [Around.under,Code.cUnits,Code.frames,Code.isFrame]
theorem b3.make {k:Nat} {A:Rm} (r:b3 (k+1) A) (C:Rh) (us:List Rg) (kw:List (Str×Rg)):b3 k (A.under (.builtin "type.__call__" ⟨.ref C::us,kw⟩)):=
 ⟨r.hd,by have:=r.dp; rw [Ak]; omega,by have:=r.un; rw [zv]; omega⟩
theorem b3.depth {k:Nat} {A:Rm} (r:b3 k A):A.depth < recursionLimit:=by have:=r.dp; omega
theorem b3.units {k:Nat} {A:Rm} (r:b3 k A):A.units+64 < cLine:=by have:=r.un; omega
def NR:TA:=λ_ H Q=>Q [] H
def Ls (ta:TE) (tr:TA):TA:=fun σ H Q=>ta σ H λx H1=>tr σ H1 λxs H2=>Q (x::xs) H2
section
variable {X:Cx} {e:Rj} {es:List Rj} {te:TE} {t:TA} {pos:Pos}
theorem pM:PA X [] NR:=λ_ _ _ _ H Q I h=>Calls.spliced_nil ⟨[],H,I,.nil,h⟩
theorem mU (ha:PE X e te) (hr:PA X es t) (hs:starEach (e::es) X.env=(false,eval e X.env)::starEach es X.env:=by rfl):PA X (e::es) (Ls te t):=by
 intro pos Rw s σ H Q I h;rw [hs]
 show wpAny _ _ (spliced ((false,eval e X.env)::backTo pos (starEach es X.env))) _ _ s
 refine Calls.spliced_cons (cu (ha Rw s σ H _ I h) λu s1 z9=>?_)
 obtain⟨x,H1,I1,r1,q1⟩:=z9;exact cu (hr pos Rw s1 σ H1 _ I1 q1) λus s2 z9=>by obtain⟨xs,H2,I2,r2,q2⟩:=z9; exact⟨x::xs,H2,I2,.cons r1 r2,q2⟩
def N_ (t:TA):TE:=fun σ H Q=>t σ H λxs H1=>xs.length<=sizeLine/\∀ p,H1 p=none->Q (.ref p) (bS H1 p (.tup xs))
def Of (t:TA):TE:=fun σ H Q=>t σ H λxs H1=>xs.length<=sizeLine/\∀ p,H1 p=none->Q (.ref p) (bS H1 p (.lst xs))
theorem K1 {x1} (h:PA X es t):PE X (.Tuple es x1 pos) (N_ t):=by
 intro Rw s σ H Q I hq;refine wpAny_Tuple_spliced (cu (h pos Rw s σ H _ I hq) λus s1 ⟨xs,H1,I1,r,z,q⟩=>⟨by rw [<- r.length]; exact z,?_⟩)
 have hf:H1 s1.heap.objs.size=none:=I1.hok.fresh (P4 _);refine⟨.ref s1.heap.objs.size,bS H1 s1.heap.objs.size (.tup xs),I1.laid (t':=s1.toks) (λb u e=>PZ _ e) (P4 _) ?_,rfl,q _ hf⟩
 exact⟨z,us,r,⟨_,P1 _ rfl,rfl,_,rfl⟩⟩
theorem K4 (h:PA X es t):PE X (.List es pos) (Of t):=by
 intro Rw s σ H Q I hq;refine wpAny_List_spliced (cu (h pos Rw s σ H _ I hq) λus s1 ⟨xs,H1,I1,r,z,q⟩=>⟨by rw [<- r.length]; exact z,?_⟩)
 have hf:H1 s1.heap.objs.size=none:=I1.hok.fresh (P4 _);refine⟨.ref s1.heap.objs.size,bS H1 s1.heap.objs.size (.lst xs),I1.laid (t':=s1.toks) (λb u e=>PZ _ e) (P4 _) ?_,rfl,q _ hf⟩
 exact⟨z,us,0,r,P1 _ rfl⟩
end
abbrev Sp:=List V->Hp->VK->XK->Prop
abbrev FS:=List Env->Hp->Rf->XK->Rg->Rf->Prop
structure xW (P:Rk) (w:Rn) (K:PySem.W.Frag) (mg:Str->Ri Rg) (base:Ro) (A:Rm) (outer:List Env) (s:Rf) (H:Hp):Prop where
 frames:A.frames=some outer
 mod:Mod K mg base
 bs:∀ b o,base.get? b=some o->s.heap.get? b=some o/\H b=none
 bsz:base.objs.size<=s.heap.objs.size
 funs:s.heap.FunFrames base outer
 frf:∀ b∈ic outer,H b=none
 hok:mL P w H s.heap
 bare:AllBare s.gens
def CE (outer:List Env) (P:Rk) (w:Rn) (H:Hp) (s:Rf) (Q:VK) (u:Rg) (s':Rf):Prop:=
 ∃ v H',s'.os=s.os/\AllBare s'.gens/\Un (ic outer) [] H H' s.heap s'.heap/\mL P w H' s'.heap/\aP v u/\Q v H'
def CR (CX:FS) (outer:List Env) (P:Rk) (w:Rn) (H:Hp) (s:Rf) (Q:VK) (E:XK) (r:Result) (s':Rf):Prop:=
 match r with
 | .ok (.ret u)=>CE outer P w H s Q u s'
 | .ok _=>False
 | .error e=>CX outer H s E e s'
structure aL (P:Rk) (w:Rn) (K:PySem.W.Frag) (mg:Str->Ri Rg) (base:Ro) (CX:FS) (k:Nat) (f:Rh) (fd:FuncData) (ps:List Str) (sp:Sp):Prop where
 len:∀ vs H Q E,sp vs H Q E->vs.length=ps.length
 run:∀ (A:Rm) (outer:List Env) (s:Rf) (H:Hp) (args:Args) (us:List Rg) (vs:List V) (Q:VK) (E:XK),b3 k A->xW P w K mg base A outer s H->BindsTo s fd args (ps.zip us)->bf vs us->sp vs H Q E->
  codeAny (model P w) A (.call (.ref f) args) (CR CX outer P w H s Q E) s
theorem xW.make {P:Rk} {w:Rn} {K:PySem.W.Frag} {mg:Str->Ri Rg} {base:Ro} {A:Rm} {outer:List Env} {s:Rf} {H:Hp} (e:xW P w K mg base A outer s H) (C:Rh) (us:List Rg) (kw:List (Str×Rg)):
  xW P w K mg base (A.under (.builtin "type.__call__" ⟨.ref C::us,kw⟩)) outer s H:=⟨by first | exact e.frames | (simpa [Around.under,Code.envs,Code.isFrame,pushEnvs] using e.frames),e.mod,e.bs,e.bsz,e.funs,e.frf,e.hok,e.bare⟩
section
variable {X:Cx} {Rw:List (Rh×Rv)} {σ:St} {H:Hp} {s s':Rf}
theorem aC.env0 (I:aC X Rw σ H s):xW X.prog X.w X.K X.mg X.base X.A X.stack s H:=
 ⟨I.ok.frames,I.ok.mod,I.bs,QF I.ok.bsz I.sz,I.stack,I.stkFree,I.hok,I.bare⟩
theorem aC.after {Q:VK} {u:Rg} (I:aC X Rw σ H s) (h:CE X.stack X.prog X.w H s Q u s'):EP X Rw σ Q u s':=by
 obtain⟨v,H',os,bare,un,hok,r,q⟩:=h;obtain⟨hh,g,d,t,os'⟩:=s';obtain rfl:os'=s.os:=os;exact⟨v,H',I.call (h':=hh) (g':=g) (d':=d) (t':=t) (ch:=[]) un hok bare (λb z=>absurd z (by simp)),r,q⟩
end
def Mr (sp:Sp) (dvs:List V) (E:XK) (t:TA):TE:=fun σ H Q=>t σ H λvs H1=>sp (vs++dvs) H1 Q E
def ju (K:PySem.W.Frag) (fd:FuncData) (ps:List Str) (ds:List Rg):Prop:=
 ∀ (s:Rf) (us:List Rg),K.In s.heap->(us++ds).length=ps.length->BindsTo s fd ⟨us,[]⟩ (ps.zip (us++ds))
theorem ju.all {K:PySem.W.Frag} {fd:FuncData} {ps:List Str} (h:∀ us:List Rg,us.length=ps.length->bindArgs fd ⟨us,[]⟩=pure (ps.zip us)):ju K fd ps []:=λs us _ hl=>by
 rw [Qn] at hl ⊢;exact .of_eq (h us hl)
def xh (CX:FS) (X:Cx) (E:XK):Prop:=∀ (Rw:List (Rh×Rv)) (σ:St) (H:Hp) (s:Rf) (e:Rg) (s':Rf),aC X Rw σ H s->CX X.stack H s E e s'->X.xe e s'
section
variable {X:Cx} {CX:FS} {k:Nat} {f C:Rh} {fd:FuncData} {ps:List Str} {sp:Sp} {dvs:List V} {ds:List Rg} {E:XK} {x m:Str} {p pos apos:Pos} {e o:Rj} {es:List Rj} {ta:TE} {t:TA}
theorem KB {Rw:List (Rh×Rv)} {σ:St} {H:Hp} {s:Rf} {Q:VK} {us:List Rg} {vs:List V} (F:aL X.prog X.w X.K X.mg X.base CX k f fd ps sp) (hr:b3 k X.A) (hb:ju X.K fd ps ds) (hd:bf dvs ds) (hx:xh CX X E)
  (I:aC X Rw σ H s) (r:bf vs us) (h:sp (vs++dvs) H Q E):wpAny (model X.prog X.w) X.A (call (.ref f) us) (EP X Rw σ Q) X.xe s:=by
 have r2:bf (vs++dvs) (us++ds):=r.append hd;have hl:(us++ds).length=ps.length:=by rw [<- r2.length]; exact F.len _ _ _ _ h
 refine wpAny_call (codeAny_mono (F.run X.A X.stack s H ⟨us,[]⟩ (us++ds) (vs++dvs) Q E hr I.env0 (hb s us I.kIn hl) r2 h) λr s' hq=>?_)
 cases r with
 | error e=>exact hx Rw σ H s e s' I hq
 | ok fl=>
  cases fl with
  | ret u=>exact I.after hq
  | next=>exact False.elim hq
  | brk=>exact False.elim hq
  | cont=>exact False.elim hq
theorem A8 (F:aL X.prog X.w X.K X.mg X.base CX k f fd ps sp) (hr:b3 k X.A) (hg:Gl X x) (hm:X.mg x=some (.ref f)) (hk:PySem.W.keepIn X.K (.ref f)=true) (hb:ju X.K fd ps ds) (hd:bf dvs ds) (hx:xh CX X E)
  (ha:PA X (e::es) t) (hdb:(x == ("__debug__":Str))=false:=by decide) (he:starEach (e::es) X.env=(false,eval e X.env)::starEach es X.env:=by rfl) (hpl:(backTo pos (starEach es X.env)).any (·.1)=false:=by rfl):
  PE X (.Call (.Name x p) (e::es) [] pos) (Mr sp dvs E t):=by
 intro Rw s σ H Q I h;refine wpAny_Call_Name_kw (jr I hg hm ?_ hdb);refine PySem.W.callWith_K (h₀:=X.base) I.ok.mod.kin hk (cu (ha pos Rw s σ H _ I h) λus s1 ⟨vs,H1,I1,r,q⟩=>⟨I1.kIn,?_⟩) he hpl
 exact KB F hr hb hd hx I1 r q
end
structure ar (N P:List Str) (sc:Scope):Prop where
 kind:sc.kind=.function
 co:sc.isCoroutine=false
 gen:sc.isGenerator=false
 nd:N.Nodup
 pre:N.take P.length=P
 par:∀ x∈P,sc.names.lookup x=some .local\/sc.names.lookup x=some .cell
 nofree:∀ y∈sc.names,y.2≠.free
theorem dP {N P:List Str} {sc:Scope} (a:sc.kind=.function:=by rfl) (b:sc.isCoroutine=false:=by rfl) (c:sc.isGenerator=false:=by rfl) (d:N.Nodup:=by decide +kernel) (e:N.take P.length=P:=by rfl) (f:∀ x∈P,sc.names.lookup x=some .local\/sc.names.lookup x=some .cell:=by decide +kernel) (g:∀ y∈sc.names,y.2≠.free:=by decide +kernel):ar N P sc:=⟨a,b,c,d,e,f,g⟩
theorem u9 {kindOf:Str->Ri NameKind} {x:Str}:∀ {binds:List (Str×Rg)} {m:Str->Ri Rg},(∀ v,(x,v)∉binds)->bindL kindOf binds m x=m x
 | [],_,_=>rfl
 | (n,v)::r,m,h=>by
  unfold bindL;rw [u9 λw hw=>h w (Qb _ hw)]
  split
  ·have:x≠n:=by rintro rfl; exact h v Qa
   simp [this]
  ·rfl
theorem uS {kindOf:Str->Ri NameKind} {x:Str}:∀ {binds:List (Str×Rg)} {m:Str->Ri Rg},(∀ v,(x,v)∉binds)->bindC kindOf binds m x=m x
 | [],_,_=>rfl
 | (n,v)::r,m,h=>by
  unfold bindC;rw [uS λw hw=>h w (Qb _ hw)]
  split
  ·rfl
  ·have:x≠n:=by rintro rfl; exact h v Qa
   simp [this]
theorem uV {kindOf:Str->Ri NameKind} {x:Str} {v:Rg}:∀ {P:List Str} {vs:List Rg} {i:Nat} {m:Str->Ri Rg},P.Nodup->P[i]?=some x->vs[i]?=some v->kindOf x=some .local->
  bindL kindOf (P.zip vs) m x=some v
 | [],_,_,_,_,h,_,_=>by simp at h
 | _::_,[],_,_,_,_,h,_=>by simp at h
 | p::P,w::vs,0,m,nd,h1,h2,hk=>by
  simp at h1 h2; subst h1; subst h2
  show bindL kindOf ((p,w)::P.zip vs) m p=_
  unfold bindL;rw [u9 λv hv=>(QK.mp nd).1 (List.of_mem_zip hv).1,if_pos hk]
  simp
 | p::P,w::vs,i+1,m,nd,h1,h2,hk=>by
  show bindL kindOf ((p,w)::P.zip vs) m x=_
  unfold bindL;exact uV (i:=i) (QK.mp nd).2 (by simpa using h1) (by simpa using h2) hk
theorem vh {kindOf:Str->Ri NameKind} {x:Str} {v:Rg}:∀ {P:List Str} {vs:List Rg} {i:Nat} {m:Str->Ri Rg},P.Nodup->P[i]?=some x->vs[i]?=some v->kindOf x≠some .local->
  bindC kindOf (P.zip vs) m x=some v
 | [],_,_,_,_,h,_,_=>by simp at h
 | _::_,[],_,_,_,_,h,_=>by simp at h
 | p::P,w::vs,0,m,nd,h1,h2,hk=>by
  simp at h1 h2; subst h1; subst h2
  show bindC kindOf ((p,w)::P.zip vs) m p=_
  unfold bindC;rw [uS λv hv=>(QK.mp nd).1 (List.of_mem_zip hv).1,if_neg hk]
  simp
 | p::P,w::vs,i+1,m,nd,h1,h2,hk=>by
  show bindC kindOf ((p,w)::P.zip vs) m x=_
  unfold bindC;exact vh (i:=i) (QK.mp nd).2 (by simpa using h1) (by simpa using h2) hk
def start (N:List Str) (vs:List V):St:=vs.map some++List.replicate (N.length - vs.length) none
def de (CX:FS) (P:Rk) (w:Rn) (K:PySem.W.Frag) (mg:Str->Ri Rg) (base:Ro) (N:List Str) (Rx:Str) (scope:Scope) (f:Rh) (cd:Rg) (A:Rm) (outer:List Env) (s:Rf) (H:Hp) (E:XK):Cx where
 prog:=P
 w:=w
 K:=K
 mg:=mg
 base:=base
 A:=A.deeper (envOfC Rx scope s.heap.objs.size f cd)
 N:=N
 s₀:=s
 H₀:=H
 env:=envOfC Rx scope s.heap.objs.size f cd
 outer:=outer
 stack:=envOfC Rx scope s.heap.objs.size f cd::outer
 ex:=[]
 calm:=true
 fn:=λ_=>true
 pn:=[]
 xe:=λe s'=>wpAny (model P w) (A.deeper (envOfC Rx scope s.heap.objs.size f cd)) (leaving (envOfC Rx scope s.heap.objs.size f cd) e) (λ_ s''=>CX outer H s E e s'') (λe' s''=>CX outer H s E e' s'') s'
theorem yj {sc:Scope} {n:Nat} {x:Str} (h:sc.names.lookup x=some .cell):∃ c,(cellsFrom n sc.names []).lookup x=some c:=by
 have q:=PySem.W.cellsFrom_some sc.names n [] (.inl h);exact Q_.mp q
theorem uZ {CX:FS} {P:Rk} {w:Rn} {K:PySem.W.Frag} {mg:Str->Ri Rg} {base:Ro} {N ps:List Str} {Rx:Str} {scope:Scope} {f:Rh} {cd:Rg} {A:Rm} {outer:List Env} {s s1:Rf} {H:Hp} {E:XK} {us:List Rg} {vs:List V}
  (S:ar N ps scope) (hd:A.handled=none) (e0:xW P w K mg base A outer s H) (hl:vs.length=ps.length) (r:bf vs us)
  (x:InCallC s s.heap.objs.size (bindL (envOfC Rx scope s.heap.objs.size f cd).kindOf (ps.zip us) λ_=>none) (cellsFrom (s.heap.objs.size+1) scope.names []) (bindC (envOfC Rx scope s.heap.objs.size f cd).kindOf (ps.zip us) λ_=>none) s1):
  aC (de CX P w K mg base N Rx scope f cd A outer s H E) [] (start N vs) H s1:=by
 have hpl:ps.length<=N.length:=by have:=congrArg List.length S.pre; rw [List.length_take] at this; omega
 obtain⟨h1,tk,rfl,hk⟩:=x.done;have noA:∀ b:Rh,b∉(de CX P w K mg base N Rx scope f cd A outer s H E).ex:=λb z=>absurd (show b∈([]:List Rh) from z) (by simp)
 refine⟨⟨e0.mod,S.kind,rfl,rfl,P4 _,λy z c h1 h2=>?_,λy hy=>?_,λy c _ h=>?_,λ_=>hd,Around.frames_deeper e0.frames,.inr ⟨rfl,rfl⟩,λb z=>absurd z (noA b),e0.bs,e0.bsz,λb _ _=>noA b,λb z=>absurd z (noA b),e0.funs,e0.frf⟩,
  rfl,e0.bare,Un.kept hk,⟨_,x.toInCall.ns,λi y v h1 h2 h3=>?_⟩,λy c h=>⟨_,x.cell y c h⟩,e0.hok.fresh (P4 _),λy c h=>?_,λp hp=>absurd (show p∈([]:List (Rh×Rv)) from hp) (by simp),e0.hok.kept hk,?_⟩
 ·exact name_of_addr x.apart (QI h1) (QI h2)
 ·have hy:scope.names.lookup y=some .cell\/scope.names.lookup y=some .free:=hy;rcases hy with hy | hy
  ·exact yj hy
  ·exact absurd rfl (S.nofree _ (QI hy))
 ·exact Nat.le_of_lt (x.above y c (QI h))
 ·have hi:i < vs.length:=by
   unfold start at h2
   by_cases hi:i < vs.length
   ·exact hi
   ·rw [List.getElem?_append_right (by simpa using hi)] at h2
    rw [List.getElem?_replicate] at h2
    split at h2 <;> cases h2
  have ha:vs[i]?=some v:=by
   unfold start at h2;rw [List.getElem?_append_left (by simpa using hi),Qt] at h2
   cases e:vs[i]? with
   | none=>rw [e] at h2; cases h2
   | some a=>rw [e] at h2; cases h2; rfl
  obtain⟨u,hu,rv⟩:=r.get ha;have hp:ps[i]?=some y:=by
   rw [<- S.pre,List.getElem?_take_of_lt (by omega)]; exact h1
  have ndP:ps.Nodup:=by rw [<- S.pre]; exact S.nd.sublist (List.take_sublist _ _)
  refine⟨u,rv,?_⟩;rcases S.par y (List.mem_of_getElem? hp) with k | k
  ·exact .inl ⟨k,uV ndP hp hu k⟩
  ·obtain⟨c,e⟩:=yj (n:=s.heap.objs.size+1) k;refine .inr ⟨.inl k,c,e,?_⟩;have q:=x.cell y c e;rw [vh ndP hp hu (by show scope.names.lookup y≠_; rw [k]; decide)] at q
   exact q
 ·exact e0.hok.fresh (Nat.le_of_lt (x.above y c (QI h)))
 ·unfold start
  show _=N.length
  rw [Ql,P6,List.length_replicate];omega
theorem IM {CX:FS} {P:Rk} {w:Rn} {K:PySem.W.Frag} {mg:Str->Ri Rg} {base:Ro} {k:Nat} {f:Rh} {name Rx:Str} {params:Arguments} {body:List Rp} {scope:Scope} {dV kV doc pm cdv ct oc:Rg} {an od:Ri Rh}
  {osl:Rq (Ri Rg)} {N ps:List Str} {sp:Sp} (lk:K.lookup f=some ⟨oc,od,.func (PySem.W.fnOf name Rx params body scope dV kV doc pm an cdv ct),osl⟩) (hcd:PySem.W.codeIn K cdv Rx=true) (S:ar N ps scope)
  (len:∀ vs H Q E,sp vs H Q E->vs.length=ps.length)
  (hbody:∀ (A:Rm) (outer:List Env) (s:Rf) (H:Hp) (vs:List V) (Q:VK) (E:XK),b3 k (A.deeper (envOfC Rx scope s.heap.objs.size f cdv))->sp vs H Q E->
   ∃ t,ub (de CX P w K mg base N Rx scope f cdv A outer s H E) body t/\t {nx:=λ_ H'=>Q .non H',rt:=Q} (start N vs) H):
  aL P w K mg base CX (k+1) f (PySem.W.fnOf name Rx params body scope dV kV doc pm an cdv ct) ps sp:=by
 refine⟨len,λA outer s H args us vs Q E hr e0 hb r hsp=>?_⟩
 have hl:=len _ _ _ _ hsp;have KX:K.In s.heap:=e0.mod.kin.keeps λb o e=>(e0.bs b o e).1
 have lim:s.heap.NoLimit:=e0.mod.nolimit.keeps λb o e=>(e0.bs b o e).1
 have hkind:∀ y∈ps.zip us,scope.names.lookup y.1=some .local\/(scope.names.lookup y.1=some .cell/\((cellsFrom (s.heap.objs.size+1) scope.names []).lookup y.1).isSome=true):=λ⟨n,v⟩ hy=>by
  rcases S.par n (List.of_mem_zip hy).1 with q | q
  ·exact .inl q
  ·exact .inr ⟨q,PySem.W.cellsFrom_some _ _ _ (.inl q)⟩
 refine codeAny_call_function hr.depth (KX _ _ lk) rfl S.co S.gen rfl (PySem.W.codeRec_of KX hcd) (hb _ _ _ _ ?_);refine wpAny_newFunctionEnv_cells S.kind hkind λenv he s1 x=>?_
 subst he;refine⟨lim.keeps x.toInCall.keep,codeAny_func ?_⟩;obtain⟨t,ht,hq⟩:=hbody A outer s H vs Q E (hr.deeper _) hsp;have I:aC (de CX P w K mg base N Rx scope f cdv A outer s H E) [] (start N vs) H s1:=uZ S hr.hd e0 hl r x;refine QD (ht [] s1 (start N vs) H _ I hq) (λfl s' hs=>?_) λe s' hs=>hs
 have fin:∀ {σ':St} {H':Hp} {v:V} {u:Rg},aC (de CX P w K mg base N Rx scope f cdv A outer s H E) [] σ' H' s'->aP v u->Q v H'->CE outer P w H s Q u s':=
  λ{σ' H' v u} J rv q=>⟨v,H',J.os,J.bare,J.base,J.hok,rv,q⟩
 cases fl with
 | ret u=>
  obtain⟨v,σ',H',J,rv,q⟩:=hs;exact fin J rv q
 | next=>
  obtain⟨σ',H',J,q⟩:=hs;exact fin (v:=V.non) (u:=Value.none) J rfl q
 | brk=>
  obtain⟨_,_,_,q⟩:=hs;exact False.elim q
 | cont=>
  obtain⟨_,_,_,q⟩:=hs;exact False.elim q
section
variable {X:Cx} {x:Str} {p pos:Pos} {e:Rj} {es:List Rj} {t:TA} {id T:Rs} {r:List V->Hp->VK->Prop}
def OG (r:List V->Hp->VK->Prop) (t:TA):TE:=fun σ H Q=>t σ H λvs H1=>r vs H1 Q
theorem yn (hc:dw X (.builtin id) r) (hg:Gl X x) (hm:X.mg x=none) (hv:bootBuiltins x=some (.builtin id)) (ha:PA X (e::es) t) (hn:x≠"__name__":=by decide) (hdb:(x == ("__debug__":Str))=false:=by decide)
  (he:starEach (e::es) X.env=(false,eval e X.env)::starEach es X.env:=by rfl) (hpl:(backTo pos (starEach es X.env)).any (·.1)=false:=by rfl):PE X (.Call (.Name x p) (e::es) [] pos) (OG r t):=by
 intro Rw s σ H Q I h;refine wpAny_Call_Name_kw (pL I hg hm hv ?_ hn hdb);exact PyProof.Rows.callWith_builtin1 (cu (ha pos Rw s σ H _ I h) λus s1 z9=>by obtain⟨vs,H1,I1,r1,q1⟩:=z9; exact hc Rw s1 σ H1 vs us Q I1 r1 q1) he hpl
theorem pN (hc:dw X (.type T) r) (hg:Gl X x) (hm:X.mg x=none) (hv:bootBuiltins x=some (.type T)) (ha:PA X (e::es) t) (hn:x≠"__name__":=by decide) (hdb:(x == ("__debug__":Str))=false:=by decide)
  (he:starEach (e::es) X.env=(false,eval e X.env)::starEach es X.env:=by rfl) (hpl:(backTo pos (starEach es X.env)).any (·.1)=false:=by rfl):PE X (.Call (.Name x p) (e::es) [] pos) (OG r t):=by
 intro Rw s σ H Q I h;refine wpAny_Call_Name_kw (pL I hg hm hv ?_ hn hdb);exact PyProof.Rows.callWith_type1 (cu (ha pos Rw s σ H _ I h) λus s1 z9=>by obtain⟨vs,H1,I1,r1,q1⟩:=z9; exact hc Rw s1 σ H1 vs us Q I1 r1 q1) he hpl
end
end L2
namespace HT
open PySem PyProof.Rows
section
variable {prog:Rk} {w:Rn} {A:Rm} {E:Rg->Rf->Prop} {s:Rf}
theorem HL {t b:Rh} {vs ws:List Rg} {Q:Rg->Rf->Prop} (ht:IsTup s.heap t vs.toArray) (hb:IsTup s.heap b ws.toArray) (hv:vs≠[])
  (h1:ws=[]->Q (.ref t) s) (h2:ws≠[]->Q (.ref s.heap.objs.size) {s with heap:=s.heap.push {cls:=.type "tuple",data:=.seq (vs++ws).toArray}})
  (hsz:vs.length+ws.length<=sizeLine):wpAny (model prog w) A (binaryOp .Add (.ref t) (.ref b)) Q E s:=by
 obtain⟨⟨cls,dd,data,sl⟩,ho,hc,n,hd⟩:=id ht;obtain⟨⟨cls2,dd2,data2,sl2⟩,ho2,hc2,n2,hd2⟩:=id hb;simp only at hc hd hc2 hd2
 subst hc hd hc2 hd2;have e:vs.toArray++ws.toArray=(vs++ws).toArray:=by simp
 by_cases hw:ws=[]
 ·exact concat_meets ⟨_,ho,rfl⟩ ⟨_,ho2,rfl⟩ noFill_tuple_add seq_tuple_add PySem.F.slot_tuple_add PySem.F.entry_tuple_add (PySem.F.args_tuple_add_2 _ _)
   (tuple_addW1 t b vs.toArray ws.toArray n n2 dd dd2 sl sl2 (by simpa using hv) (by simp [hw])) ⟨ho,ho2,h1 hw⟩
 ·refine concat_meets ⟨_,ho,rfl⟩ ⟨_,ho2,rfl⟩ noFill_tuple_add seq_tuple_add PySem.F.slot_tuple_add PySem.F.entry_tuple_add (PySem.F.args_tuple_add_2 _ _)
   (tuple_addW2 t b vs.toArray ws.toArray n n2 dd dd2 sl sl2 (by simpa using hv) (by simpa using hw) (by rw [P8,P8]; exact hsz)) ⟨ho,ho2,?_⟩
  rw [e];exact h2 hw
def xu (n d:Nat):Ri Int->Nat
 | none=>d
 | some v=>if v < 0 then(v+(n:Int)).toNat else min v.toNat n
end
end HT
namespace L2
open PySem PySem.Spec PyProof.Rows
abbrev TO:=St->Hp->(Ri Int->Hp->Prop)->Prop
def PO (X:Cx) (e:Ri Rj) (t:TO):Prop:=
 ∀ (Rw:List (Rh×Rv)) (s:Rf) (σ:St) (H:Hp) (Q:Ri Int->Hp->Prop),aC X Rw σ H s->t σ H Q->
  wpAny (model X.prog X.w) X.A (evalPart e X.env) (λu s'=>∃ o H',aC X Rw σ H' s'/\IsPart u o/\Q o H') X.xe s
def Gv:TO:=λ_ H Q=>Q none H
def MJ (t:TE):TO:=fun σ H Q=>t σ H λx H1=>∃ i,x=.int i/\Q (some i) H1
theorem Ad {ns:List Int}:∀ {us:List Rg},bf (ns.map V.int) us->IntsAre us ns:=by
 induction ns with
 | nil=>intro us r; rw [List.map_nil] at r; cases r; exact .nil
 | cons n ns ih=>
  intro us r;rw [Qe] at r;cases r with
  | cons r1 r2=>
   obtain⟨t,e⟩:=r1;subst e;exact .cons n t (ih r2)
section
variable {X:Cx} {e:Rj} {te:TE} {lo hi:Ri Rj} {tl th:TO} {pos p2:Pos}
theorem HP:PO X none Gv:=by
 intro Rw s σ H Q I h;rw [evalPart_none];exact P0 ⟨none,H,I,.none,h⟩
theorem G7 (h:PE X e te):PO X (some e) (MJ te):=by
 intro Rw s σ H Q I hw;rw [evalPart_some];refine cu (h Rw s σ H _ I hw) λu s1 z9=>?_
 obtain⟨x,H1,I1,r1,q1⟩:=z9;obtain⟨i,rfl,q⟩:=q1;obtain⟨t,rfl⟩:=r1;exact⟨some i,H1,I1,.int i t,q⟩
def OY (X:Cx) (r:V->Ri Int->Ri Int->Hp->VK->Prop):Prop:=
 ∀ (Rw:List (Rh×Rv)) (s:Rf) (σ:St) (H:Hp) (x:V) (v vl vu:Rg) (lo hi:Ri Int) (sl:Rh) (Q:VK),aC X Rw σ H s->aP x v->s.heap.IsSliceOf sl vl vu .none->IsPart vl lo->IsPart vu hi->r x lo hi H Q->
  ∃ T id,typeLookup (.type T) "__getitem__"=pure (some (.builtin id))/\s.TypeIs v T/\wpAny (model X.prog X.w) X.A (getItem v (.ref sl)) (EP X Rw σ Q) X.xe s
def PX (r:V->Ri Int->Ri Int->Hp->VK->Prop) (te:TE) (tl th:TO):TE:=fun σ H Q=>te σ H λx H1=>tl σ H1 λl H2=>th σ H2 λu H3=>r x l u H3 Q
theorem F4 {r:V->Ri Int->Ri Int->Hp->VK->Prop} (hr:OY X r) (he:PE X e te) (hl:PO X lo tl) (hu:PO X hi th):PE X (.Subscript e (.Slice lo hi none p2) pos) (PX r te tl th):=by
 intro Rw s σ H Q I h;refine Subscript_ (cu (he Rw s σ H _ I h) λv s1 z9=>?_)
 obtain⟨x,H1,I1,r1,q1⟩:=z9;refine wpAny_Slice (cu (hl Rw s1 σ H1 _ I1 q1) λvl s2 ⟨l,H2,I2,pl,q2⟩=>cu (hu Rw s2 σ H2 _ I2 q2) λvu s3 z9=>?_)
 obtain⟨u,H3,I3,pu,q3⟩:=z9;rw [evalPart_none];refine P0 ?_;have I4:aC X Rw σ H3 {s3 with heap:=s3.heap.push {cls:=.type "slice",data:=.fields #[vl,vu,.none]}}:=I3.kept (t':=s3.toks) λb ob q=>PZ _ q
 obtain⟨T,id,hT,ht,hg⟩:=hr Rw {s3 with heap:=s3.heap.push {cls:=.type "slice",data:=.fields #[vl,vu,.none]}} σ H3 x v vl vu l u s3.heap.objs.size Q I4 r1 (Heap.IsSliceOf.new ..) pl pu q3
 show wpAny (model X.prog X.w) X.A (subscriptTail e (.Slice lo hi none p2) v (.ref s3.heap.objs.size)) (EP X Rw σ Q) X.xe {s3 with heap:=s3.heap.push {cls:=.type "slice",data:=.fields #[vl,vu,.none]}}
 exact tail_any (ops:=[.ref s3.heap.objs.size,v]) ht hT hg (by with_unfolding_all rfl)
def Fo (xs:List V) (lo hi:Ri Int):List V:=(xs.drop (HT.xu xs.length 0 lo)).take (HT.xu xs.length xs.length hi - HT.xu xs.length 0 lo)
theorem xF (xs:List V) (lo hi:Ri Int):(Fo xs lo hi).length<=xs.length:=by
 unfold Fo;rw [List.length_take,List.length_drop];omega
def Mt (K:PySem.W.Frag):R2:=λx y H Q=>∃ a b xs ys,x=.ref a/\y=.ref b/\lU K H a xs/\lU K H b ys/\xs≠[]/\xs.length+ys.length<=sizeLine/\
 (ys=[]->Q (.ref a) H)/\(ys≠[]->∀ p,H p=none->Q (.ref p) (bS H p (.tup (xs++ys))))
theorem bf.nil_iff {xs:List V} {us:List Rg} (r:bf xs us):us=[]↔xs=[]:=by
 cases r with
 | nil=>simp
 | cons _ _=>simp
theorem GX:jf X (binaryOp .Add) (Mt X.K):=by
 intro Rw s σ H x y v u Q I rx ry h;obtain⟨a,b,xs,ys,rfl,rfl,ha,hb,hx,hz,q1,q2⟩:=h;cases rx;cases ry;obtain⟨its,r1,p1,_⟩:=I.tuple ha;obtain⟨its2,r2,p2,_⟩:=I.tuple hb;refine HT.HL p1 p2 (λz=>hx (r1.nil_iff.mp z)) (λz=>⟨.ref a,H,I,rfl,q1 (r2.nil_iff.mp z)⟩) (λz=>?_) (by rw [<- r1.length,<- r2.length]; exact hz)
 refine⟨.ref s.heap.objs.size,_,I.laid (t':=s.toks) (o:=.tup (xs++ys)) (λb ob q=>PZ _ q) (P4 _) ?_,rfl,q2 (λw=>z (r2.nil_iff.mpr w)) _ (I.hok.fresh (P4 _))⟩
 exact⟨by rw [Ql]; exact hz,_,r1.append r2,IsTup.new _ _⟩
end
def F8 (n:Nat) (i:Int):Ri Nat:=if 0<=i then(if i < n then some i.toNat else none) else if -(n:Int)<=i then some (i+n).toNat else none
def atI {α:Type} (xs:List α) (i:Int):Ri α:=(F8 xs.length i).bind λj=>xs[j]?
theorem Ap {n:Nat} {i:Int} {j:Nat} (h:F8 n i=some j):seqIndex? i n=some j/\j < n/\-(n:Int)<=i/\i < n:=by
 unfold F8 at h
 by_cases h0:0<=i
 ·rw [if_pos h0] at h
  by_cases h1:i < n
  ·rw [if_pos h1] at h;have e:i.toNat=j:=Qx h;exact⟨by rw [seqIndex_of h0 h1,e],by omega,by omega,h1⟩
  ·rw [if_neg h1] at h; cases h
 ·rw [if_neg h0] at h
  by_cases h1:-(n:Int)<=i
  ·rw [if_pos h1] at h;have e:(i+n).toNat=j:=Qx h;exact⟨by rw [seqIndex_neg (by omega) h1,e],by omega,h1,by omega⟩
  ·rw [if_neg h1] at h; cases h
theorem An {α:Type} {xs:List α} {i:Int} {v:α} (h:atI xs i=some v):∃ j,seqIndex? i xs.length=some j/\xs[j]?=some v/\j < xs.length/\-(xs.length:Int)<=i/\i < xs.length:=by
 unfold atI at h;cases e:F8 xs.length i with
 | none=>rw [e] at h; cases h
 | some j=>
  rw [e] at h;obtain⟨h1,h2,h3,h4⟩:=Ap e;exact⟨j,h1,h,h2,h3,h4⟩
theorem mT {α:Type} {xs:List α} {j:Nat} {v:α} (h:xs[j]?=some v):atI xs (j:Int)=some v:=by
 have hj:j < xs.length:=(QC.mp h).1;have e:F8 xs.length (j:Int)=some j:=by
  unfold F8;rw [if_pos (by omega),if_pos (by omega)]; simp
 unfold atI; rw [e]; exact h
def rJ (b:Rj):Prop:=∀ o i,subscripted b false o i=operate [o,i] (getItem o i)
def AS (X:Cx) (r:R2):Prop:=
 ∀ (value slice:Rj) (Rw:List (Rh×Rv)) (s:Rf) (σ:St) (H:Hp) (x y:V) (v u:Rg) (Q:VK),aC X Rw σ H s->aP x v->aP y u->r x y H Q->
  subscripted slice false v u=operate [v,u] (getItem v u)->wpAny (model X.prog X.w) X.A (subscriptTail value slice v u) (EP X Rw σ Q) X.xe s
def O6 (X:Cx) (id:Rs) (r:V->List V->Hp->VK->Prop):Prop:=
 ∀ (Rw:List (Rh×Rv)) (s:Rf) (σ:St) (H:Hp) (x:V) (xs:List V) (v:Rg) (us:List Rg) (Q:VK),aC X Rw σ H s->aP x v->bf xs us->r x xs H Q->
  wpAny (model X.prog X.w) X.A (call (.builtin id) (v::us)) (EP X Rw σ Q) X.xe s
section
variable {X:Cx} {a b:Rj} {ta tb:TE} {pos:Pos}
theorem Nq {r:R2} (hr:AS X r) (ha:PE X a ta) (hb:PE X b tb) (hs:rJ b):PE X (.Subscript a b pos) (Mi r ta tb):=by
 intro Rw s σ H Q I h;exact Subscript_ (KD ha hb I h λv u s2 x y H2 I2 rx ry q=>hr a b Rw s2 σ H2 x y v u Q I2 rx ry q (hs _ _))
def OA (K:PySem.W.Frag):R2:=λx y H Q=>∃ p xs i v,x=.ref p/\y=.int i/\jv K H p xs/\atI xs i=some v/\Q v H
def NO (K:PySem.W.Frag):R2:=λx y H Q=>∃ p xs i v,x=.ref p/\y=.int i/\lU K H p xs/\atI xs i=some v/\Q v H
theorem Aq:AS X (OA X.K):=by
 intro value slice Rw s σ H x y v u Q I rx ry h hs;obtain⟨p,xs,i,z,rfl,rfl,hq,he,q⟩:=h;cases rx;obtain⟨t,rfl⟩:=ry;obtain⟨its,r,pl,hz⟩:=I.list hq;obtain⟨j,h1,h2,h3,h4,h5⟩:=An he;obtain⟨w,ew,rw'⟩:=r.get h2;have hl:=r.length;have hn:=wl;have fin:EP X Rw σ Q w s:=⟨z,H,I,rw',q⟩
 by_cases h0:0<=i
 ·have hj:i.toNat=j:=by
   rw [seqIndex_of h0 h5] at h1;exact Qx h1
  exact item_listR pl.isList h0 (by omega) (by rw [hj]; simpa using ew) fin hs
 ·have hj:(i+(its.toArray.size:Int)).toNat=j:=by
   rw [seqIndex_neg (by omega) h4] at h1
   rw [P8,<- hl];exact Qx h1
  exact subscriptTail_builtinR (x:=w) pl.isList.typeIs slot_list_getitem.lookup
   (wpAny_getItem_list_neg (Q:=λr s'=>r=w/\EP X Rw σ Q r s') pl.isList (by omega) (by rw [P8] <;> omega) (by omega) (by rw [hj]; simpa using ew) ⟨rfl,fin⟩) hs
theorem KA:AS X (NO X.K):=by
 intro value slice Rw s σ H x y v u Q I rx ry h hs;obtain⟨p,xs,i,z,rfl,rfl,hq,he,q⟩:=h;cases rx;obtain⟨t,rfl⟩:=ry;obtain⟨its,r,pl,hz⟩:=I.tuple hq;obtain⟨j,h1,h2,h3,h4,h5⟩:=An he;obtain⟨w,ew,rw'⟩:=r.get h2;have hl:=r.length;have hn:=wl;have fin:EP X Rw σ Q w s:=⟨z,H,I,rw',q⟩;exact subscriptTail_builtinR (x:=w) pl.typeIs slot_tuple_getitem.lookup
  (getItem_tuple (j:=j) (Q:=λr s'=>r=w/\EP X Rw σ Q r s') pl (by omega) (by omega) (by rw [P8,<- hl]; exact h1) (by simpa using ew) ⟨rfl,fin⟩) hs
theorem yX (its:List Rg) (n j:Nat) (u:Rg):Obj.mapSeq (·.setIfInBounds j u) {cls:=.type "list",data:=.seq its.toArray n}={cls:=.type "list",data:=.seq (its.set j u).toArray n}:=by
 simp [Obj.mapSeq]
theorem aC.lst {Rw:List (Rh×Rv)} {σ:St} {H:Hp} {s:Rf} {p:Rh} {xs:List V} (I:aC X Rw σ H s) (h:H p=some (.lst xs)):
  ∃ (its:List Rg) (n:Nat),bf xs its/\s.heap.get? p=some {cls:=.type "list",data:=.seq its.toArray n}/\xs.length<=sizeLine:=by
 obtain⟨z,its,n,r,e⟩:=I.hok p _ h;exact⟨its,n,r,e,z⟩
theorem aC.lstUpd {Rw:List (Rh×Rv)} {σ:St} {H:Hp} {s:Rf} {p:Rh} {xs ys:List V} {its its':List Rg} {n n':Nat} {f:Rv->Rv} (I:aC X Rw σ H s) (h:H p=some (.lst xs))
  (ho:s.heap.get? p=some {cls:=.type "list",data:=.seq its.toArray n}) (hf:f {cls:=.type "list",data:=.seq its.toArray n}={cls:=.type "list",data:=.seq its'.toArray n'}) (r:bf ys its') (hz:ys.length<=sizeLine) (t:Nat):
  aC X Rw σ (bS H p (.lst ys)) {s with heap:=s.heap.update p f,toks:=t}:=by
 have e:(s.heap.update p f).get? p=some {cls:=.type "list",data:=.seq its'.toArray n'}:=by
  rw [QJ f ho (by rw [hf] <;> rfl),hf]
 refine I.write (x:=p) (e:=p) (by rw [h]; trivial) (.inl rfl) (λb u hb q=>(Qw _ _ (Ne.symm hb)).trans q) ⟨_,e⟩ ?_
 exact⟨hz,its',n',r,e⟩
def Lu:V->V->V->Hp->(Hp->Prop)->Prop:=λo i v H Q=>∃ p xs k j,o=.ref p/\i=.int k/\H p=some (.lst xs)/\F8 xs.length k=some j/\Q (bS H p (.lst (xs.set j v)))
theorem F2:Gn X Lu:=by
 intro Rw s σ H o i v ov iv u Q I ro ri rv h;obtain⟨p,xs,k,j,rfl,rfl,hp,hj,q⟩:=h;cases ro;obtain⟨t,rfl⟩:=ri;obtain⟨its,n,r,ho,hz⟩:=I.lst hp;obtain⟨h1,h2,h3,h4⟩:=Ap hj;have hl:=r.length;have hn:=wl;have I':aC X Rw σ (bS H p (.lst (xs.set j v))) {s with heap:=s.heap.update p (Obj.mapSeq (·.setIfInBounds j u))}:=
  I.lstUpd hp ho (yX its n j u) (r.set rv j) (by rw [List.length_set]; exact hz) s.toks
 by_cases h0:0<=k
 ·have hk:k.toNat=j:=by
   rw [seqIndex_of h0 h4] at h1;exact Qx h1
  exact PySem.W.ki_setAt ho h0 (by omega) (by rw [P8,<- hl]; exact h4) (by rw [hk]; exact⟨_,I',q⟩)
 ·have hk:(k+(its.toArray.size:Int)).toNat=j:=by
   rw [seqIndex_neg (by omega) h3] at h1
   rw [P8,<- hl];exact Qx h1
  exact PySem.W.ki_setBack ho (by omega) (by rw [P8,<- hl]; exact h3) (by omega) (by rw [hk]; exact⟨_,I',q⟩)
theorem wm (lo hi:Ri Int) (n:Nat):(sliceBounds lo hi none n).1=((HT.xu n 0 lo:Nat):Int)/\(sliceBounds lo hi none n).2.1=((HT.xu n n hi:Nat):Int)/\(sliceBounds lo hi none n).2.2=1:=by
 refine⟨?_,?_,rfl⟩
 ·cases lo with
  | none=>simp [sliceBounds,HT.xu]
  | some i=>
   simp only [sliceBounds,HT.xu,Option.getD_none,show(1:Int) > 0 by decide,if_true]
   by_cases h:i < 0
   ·simp only [h,if_true] <;> omega
   ·simp only [h,if_false] <;> omega
 ·cases hi with
  | none=>simp [sliceBounds,HT.xu]
  | some i=>
   simp only [sliceBounds,HT.xu,Option.getD_none,show(1:Int) > 0 by decide,if_true]
   by_cases h:i < 0
   ·simp only [h,if_true] <;> omega
   ·simp only [h,if_false] <;> omega
theorem uz (its:List Rg) (lo hi:Ri Int):slicePick its.toArray lo hi none=((its.drop (HT.xu its.length 0 lo)).take (HT.xu its.length its.length hi - HT.xu its.length 0 lo)).toArray:=by
 obtain⟨h1,h2,h3⟩:=wm lo hi its.toArray.size;unfold slicePick;rw [h1,h2,h3];simp only [sliceRange_one,pick_run,P8] <;> rfl
def Oa (K:PySem.W.Frag):V->Ri Int->Ri Int->Hp->VK->Prop:=λx lo hi H Q=>∃ a xs,x=.ref a/\jv K H a xs/\∀ p,H p=none->Q (.ref p) (bS H p (.lst (Fo xs lo hi)))
theorem Ie:OY X (Oa X.K):=by
 intro Rw s σ H x v vl vu lo hi sl Q I rx hs pl pu h;obtain⟨a,xs,rfl,hx,q⟩:=h;cases rx;obtain⟨its,r,ht,hz⟩:=I.list hx;have hlen:=r.length;refine⟨"list",_,slot_list_getitem.lookup,ht.isList.typeIs,?_⟩
 refine wpAny_getItem_list_slice ht.isList hs pl pu .none (by simp) ?_ (by rw [P8] <;> omega)
 rw [uz,<- hlen];refine⟨.ref s.heap.objs.size,_,I.laid (t':=s.toks) (o:=.lst (Fo xs lo hi)) (λb ob q=>PZ _ q) (P4 _) ?_,rfl,q _ (I.hok.fresh (P4 _))⟩
 exact⟨QF (xF xs lo hi) hz,_,0,(r.drop (HT.xu xs.length 0 lo)).take (HT.xu xs.length xs.length hi - HT.xu xs.length 0 lo),P1 _ rfl⟩
theorem kN:dw X (.builtin "len") (λxs H Q=>∃ p ys,xs=[.ref p]/\(jv X.K H p ys\/lU X.K H p ys)/\Q (.int ys.length) H):=by
 intro Rw s σ H xs us Q I r h;obtain⟨p,ys,rfl,hq,q⟩:=h;obtain⟨u,rfl,rx⟩:=lG r;cases rx;have hn:=wl;rcases hq with hq | hq
 ·obtain⟨its,r',pl,hz⟩:=I.list hq;have hlen:=r'.length;exact Calls.call_len_list pl.isList (by simp only [P8] <;> omega) ⟨.int ys.length,H,I.tok _,⟨s.toks+1,by rw [P8,hlen]⟩,q⟩
 ·obtain⟨its,r',pl,hz⟩:=I.tuple hq;have hlen:=r'.length;exact len_tuple pl (by simp only [P8] <;> omega) ⟨.int ys.length,H,I.tok _,⟨s.toks+1,by rw [P8,hlen]⟩,q⟩
theorem ni:dw X (.type "tuple") (λxs H Q=>∃ p ys,xs=[.ref p]/\((jv X.K H p ys/\∀ l,H l=none->Q (.ref l) (bS H l (.tup ys)))\/(lU X.K H p ys/\Q (.ref p) H))):=by
 intro Rw s σ H xs us Q I r h;obtain⟨p,ys,rfl,h⟩:=h;obtain⟨u,rfl,rx⟩:=lG r;cases rx;rcases h with ⟨hq,q⟩ | ⟨hq,q⟩
 ·obtain⟨its,r',pl,hz⟩:=I.list hq;have hlen:=r'.length;refine call_tuple_list pl.isList (λh' kp=>?_) (by simp only [P8] <;> omega)
  have I1:aC X Rw σ H {s with heap:=h'}:=I.kept (t':=s.toks) kp
  have I2:aC X Rw σ (bS H h'.objs.size (.tup ys)) {s with heap:=h'.push {cls:=.type "tuple",data:=.seq its.toArray}}:=
   I1.laid (t':=s.toks) (λb o e=>PZ _ e) (P4 _) (show dY X.prog X.w _ _ _ (.tup ys) from⟨hz,its,r',IsTup.new _ _⟩)
  exact⟨.ref h'.objs.size,_,I2,rfl,q _ (I1.hok.fresh (P4 _))⟩
 ·obtain⟨its,r',pl,hz⟩:=I.tuple hq;exact call_tuple_same pl ⟨.ref p,H,I,rfl,q⟩
def Oq (K:PySem.W.Frag) (T:Rs) (x:V) (H:Hp):Prop:=match x with
 | .str _=>T="str"
 | .int _=>T="int"
 | .ref p=>(T="list"/\∃ xs,jv K H p xs)\/(T="tuple"/\∃ o,K.lookup p=some o/\o.cls=.type "tuple"/\o.dict=none)\/
   (T="dict"/\((∃ kvs,H p=some (.dK kvs))\/∃ kvs,H p=some (.dT kvs)))\/(T="set"/\∃ S n,H p=some (.set S n))
 | _=>False
theorem Gb {Rw:List (Rh×Rv)} {σ:St} {H:Hp} {s:Rf} {T:Rs} {x:V} {v:Rg} (I:aC X Rw σ H s) (r:aP x v) (ty:Oq X.K T x H):
  s.TypeIs v T/\∀ a,v=.ref a->∃ ob,s.heap.get? a=some ob/\ob.dict=none:=by
 cases x with
 | str z=>
  obtain⟨t,rfl⟩:=r;cases (show T="str" from ty)
  exact⟨typeIs_str s z t,λ_ e=>nomatch e⟩
 | int i=>
  obtain⟨t,rfl⟩:=r;cases (show T="int" from ty)
  exact⟨typeIs_int s i t,λ_ e=>nomatch e⟩
 | ref p=>
  cases r;rcases ty with ⟨rfl,xs,hq⟩ | ⟨rfl,o,hk,hc,hd⟩ | ⟨rfl,hk⟩ | ⟨rfl,S,n,hk⟩
  ·obtain⟨its,_,pl,_⟩:=I.list hq;refine⟨pl.isList.typeIs,λa e=>?_⟩
   cases e;obtain⟨o,n,e,c,hd,_⟩:=pl;exact⟨o,e,hd⟩
  ·refine⟨⟨o,I.kIn p o hk,hc⟩,λa e=>?_⟩
   cases e;exact⟨o,I.kIn _ o hk,hd⟩
  ·have z:∃ o,s.heap.get? p=some o/\o.ExactDict:=by
    rcases hk with ⟨kvs,hk⟩ | ⟨kvs,hk⟩
    ·obtain⟨_,_,_,_,o,_,_,e,ex,_⟩:=I.hok p _ hk;exact⟨o,e,ex⟩
    ·obtain⟨_,_,_,_,o,_,_,e,ex,_⟩:=I.hok p _ hk;exact⟨o,e,ex⟩
   obtain⟨o,e,ex⟩:=z;refine⟨⟨o,e,ex.1⟩,λa e2=>?_⟩
   cases e2;exact⟨o,e,ex.2.1⟩
  ·obtain⟨o,_,_,_,e,ex,_⟩:=I.hok p _ hk;refine⟨⟨o,e,ex.1⟩,λa e2=>?_⟩
   cases e2;exact⟨o,e,ex.2.1⟩
 | _=>exact False.elim ty
def Ou (K:PySem.W.Frag) (T:Rs) (r:V->List V->Hp->VK->Prop) (to:TE):TE:=fun σ H Q=>to σ H λx H1=>Oq K T x H1/\r x [] H1 Q
def Pc (K:PySem.W.Frag) (T:Rs) (r:V->List V->Hp->VK->Prop) (to:TE) (t:TA):TE:=fun σ H Q=>to σ H λx H1=>Oq K T x H1/\t σ H1 λxs H2=>r x xs H2 Q
variable {o e:Rj} {es:List Rj} {to:TE} {t:TA} {name:Str} {apos cpos:Pos} {T id:Rs} {r:V->List V->Hp->VK->Prop}
theorem KW (pa:PlainAttrs T) (slot:Slot T name id) (hty:typeOf (.builtin id)=pure (.type "method_descriptor")) (hm:O6 X id r) (ho:PE X o to)
  (hbase:attributeBase o name X.env (eval o X.env)=eval o X.env:=by rfl) (hline:(apos.endLine == cpos.line)=true:=by rfl):PE X (.Call (.Attribute o name apos) [] [] cpos) (Ou X.K T r to):=by
 intro Rw s σ H Q I h;refine wpAny_Call_method0_late hbase hline (cu (ho Rw s σ H _ I h) λv s1 z9=>?_)
 obtain⟨x,H1,I1,r1,ty,q1⟩:=z9;obtain⟨h1,h2⟩:=Gb I1 r1 ty;exact⟨T,id,pa,slot,hty,h1,h2,Calls.callWith_builtin rfl (PySem.evalArgs_none (hm Rw s1 σ H1 x [] v [] Q I1 r1 .nil q1))⟩
theorem IW (pa:PlainAttrs T) (slot:Slot T name id) (hty:typeOf (.builtin id)=pure (.type "method_descriptor")) (hm:O6 X id r) (ho:PE X o to) (ha:PA X (e::es) t)
  (hbase:attributeBase o name X.env (eval o X.env)=eval o X.env:=by rfl)
  (hfew:((backTo cpos (starEach (e::es) X.env)).all (λx=>!x.1) && (backToKw cpos (keywordEach [] X.env)).all (λx=>x.1.isSome)
   && decide ((e::es).length+([]:List Keyword).length+(if ([]:List Keyword).isEmpty then 0 else 1) < 30))=true:=by rfl)
  (hline:(apos.endLine == cpos.line)=true:=by rfl) (hs:starEach (e::es) X.env=(false,eval e X.env)::starEach es X.env:=by rfl) (hplain:(backTo cpos (starEach es X.env)).any (·.1)=false:=by rfl):
  PE X (.Call (.Attribute o name apos) (e::es) [] cpos) (Pc X.K T r to t):=by
 intro Rw s σ H Q I h;refine wpAny_Call_method_late hbase hfew hline rfl (cu (ho Rw s σ H _ I h) λv s1 z9=>?_)
 obtain⟨x,H1,I1,r1,ty,q1⟩:=z9;obtain⟨h1,h2⟩:=Gb I1 r1 ty;refine⟨T,id,pa,slot,hty,h1,h2,?_⟩;have hA:=ha cpos Rw s1 σ H1 _ I1 q1;rw [hs] at hA ⊢;refine Calls.callWith_builtin (by show(false || (backTo cpos (starEach es X.env)).any (·.1))=false; rw [hplain] <;> rfl) (Calls.evalArgs_plain ?_)
 exact cu hA λus s2 z9=>by obtain⟨vs,H2,I2,r2,q2⟩:=z9; exact hm Rw s2 σ H2 x vs v us Q I2 r1 r2 q2
end
def OZ (X:Cx) (id:Rs) (r:V->List V->Hp->VK->Prop):Prop:=
 ∀ (Rw:List (Rh×Rv)) (s:Rf) (σ:St) (H:Hp) (x:V) (xs:List V) (v:Rg) (us:List Rg) (Q:VK),aC X Rw σ H s->aP x v->bf xs us->r x xs H Q->
  wpAny (model X.prog X.w) X.A (call (.builtin id) (v::us)) (EP X Rw σ Q) X.xe s
theorem bf.one:∀ {x:V} {us:List Rg},bf [x] us->∃ u,us=[u]/\aP x u
 | _,_,.cons r .nil=>⟨_,rfl,r⟩
section
variable {X:Cx} {Rw:List (Rh×Rv)} {σ:St} {H:Hp} {s:Rf} {l b:Rh} {xs ys zs:List V}
theorem aC.lset {its its':List Rg} {n:Nat} {f:Rq Rg->Rq Rg} {t':Nat} (I:aC X Rw σ H s) (hH:H l=some (.lst xs))
  (e:s.heap.get? l=some {cls:=.type "list",data:=.seq its.toArray n}) (hf:f its.toArray=its'.toArray) (hv:bf ys its') (hz:ys.length<=sizeLine):
  aC X Rw σ (bS H l (.lst ys)) {s with heap:=s.heap.update l (Obj.mapSeq f),toks:=t'}:=by
 have q:=PySem.IsL.update e f;rw [hf] at q;refine I.write (x:=l) (e:=l) (by rw [hH]; exact trivial) (.inl rfl) (λb' u hb hu=>(Qw s.heap (Obj.mapSeq f) (Ne.symm hb)).trans hu) ⟨_,q⟩ ?_
 exact⟨hz,its',_,hv,q⟩
theorem aC.lnew {its:List Rg} {t':Nat} (I:aC X Rw σ H s) (hv:bf ys its) (hz:ys.length<=sizeLine):
  aC X Rw σ (bS H s.heap.objs.size (.lst ys)) {s with heap:=s.heap.push {cls:=.type "list",data:=.seq its.toArray},toks:=t'}:=
 I.laid (λ_ _ q=>PZ _ q) (P4 _) ⟨hz,its,0,hv,P1 _ rfl⟩
theorem aC.fresh (I:aC X Rw σ H s):H s.heap.objs.size=none:=I.hok.fresh (P4 _)
theorem aC.lstM (I:aC X Rw σ H s) (hH:H l=some (.lst xs)):xs.length<=sizeLine/\∃ (its:List Rg) (n:Nat),bf xs its/\xs.length=its.length/\s.heap.get? l=some {cls:=.type "list",data:=.seq its.toArray n}:=by
 obtain⟨z,its,n,r,e⟩:=I.hok l _ hH;exact⟨z,its,n,r,r.length,e⟩
theorem FA {n:Nat} (h:n<=sizeLine):Builtin.List.listTooLong n=false:=by
 unfold Builtin.List.listTooLong;exact QT (by omega)
end
section
variable {X:Cx}
def Gs:V->List V->Hp->VK->Prop:=λx vs H Q=>∃ l xs y,x=.ref l/\vs=[y]/\H l=some (.lst xs)/\xs.length < sizeLine/\Q .non (bS H l (.lst (xs++[y])))
theorem pU:OZ X "list.append" Gs:=by
 intro Rw s σ H x vs v us Q I rx rv h;obtain⟨l,xs,y,rfl,rfl,hH,hz,q⟩:=h;cases rx;obtain⟨u,rfl,ru⟩:=rv.one;obtain⟨z,its,n,r,hl,e⟩:=I.lstM hH;refine call_meets F.slot_list_append ⟨_,e,rfl⟩ F.entry_list_append (F.args_list_append_2 _ _) (PySem.list_append l its.toArray n u (by rw [P8]; omega)) ⟨e,?_⟩
 refine⟨.non,_,I.lset (its':=its++[u]) hH e (by simp) (r.append (.cons ru .nil)) ?_,rfl,q⟩
 rw [Ql,List.length_singleton];omega
def GS:V->List V->Hp->VK->Prop:=λx vs H Q=>∃ l b xs zs,x=.ref l/\vs=[.ref b]/\H l=some (.lst xs)/\H b=some (.lst zs)/\xs.length+zs.length<=sizeLine/\Q .non (bS H l (.lst (xs++zs)))
theorem BY:OZ X "list.extend" GS:=by
 intro Rw s σ H x vs v us Q I rx rv h;obtain⟨l,b,xs,zs,rfl,rfl,hH,hB,hz,q⟩:=h;cases rx;obtain⟨u,rfl,ru⟩:=rv.one;cases ru;obtain⟨z,its,n,r,hl,e⟩:=I.lstM hH;obtain⟨z2,its2,n2,r2,hl2,e2⟩:=I.lstM hB;have hsz:its.toArray.size+its2.toArray.size<=sizeLine:=by rw [P8,P8]; omega
 have hlong:¬ (!its.toArray.isEmpty && Builtin.List.listTooLong (its.toArray.size+its2.toArray.size))=true:=by
  rw [FA hsz,Bool.and_false];exact P7
 refine call_meets F.slot_list_extend ⟨_,e,rfl⟩ F.entry_list_extend (F.args_list_extend_2 _ _)
  (AutoSeq1.list_extend_list_list_0 l its.toArray n b its2.toArray n2 hlong (by rw [P8]; omega) (by omega)) ⟨e,e2,?_⟩
 refine⟨.non,_,I.lset (its':=its++its2) hH e (by simp) (r.append r2) ?_,rfl,q⟩
 rw [Ql];omega
def N0:R2:=λx y H Q=>∃ l b xs zs,x=.ref l/\y=.ref b/\H l=some (.lst xs)/\H b=some (.lst zs)/\xs.length+zs.length<=sizeLine/\∀ p,H p=none->Q (.ref p) (bS H p (.lst (xs++zs)))
theorem Kc:jf X (binaryOp .Add) N0:=by
 intro Rw s σ H x y v u Q I rx ry h;obtain⟨l,b,xs,zs,rfl,rfl,hH,hB,hz,q⟩:=h;cases rx;cases ry;obtain⟨z,its,n,r,hl,e⟩:=I.lstM hH;obtain⟨z2,its2,n2,r2,hl2,e2⟩:=I.lstM hB;refine PySem.P.add_list e e2 ?_ (by rw [P8,P8]; omega)
 have ea:its.toArray++its2.toArray=(its++its2).toArray:=by simp
 rw [ea];exact⟨.ref _,_,I.lnew (t':=s.toks) (r.append r2) (by rw [Ql]; omega),rfl,q _ I.fresh⟩
end
section
variable {κ:Type} [DecidableEq κ]
def qW (kvs:List (κ×V)) (k:κ):Ri V:=(kvs.find? λkv=>decide (kv.1=k)).map (·.2)
def nM (kvs:List (κ×V)) (k:κ) (v:V):List (κ×V):=
 if (kvs.any λkv=>decide (kv.1=k))=true then kvs.map (λkv=>if kv.1=k then(kv.1,v) else kv) else kvs++[(k,v)]
theorem oZ {p:κ×V} {r:List (κ×V)} {k:κ} (e:p.1=k):qW (p::r) k=some p.2:=by simp [qW,Qg,e]
theorem o9 {p:κ×V} {r:List (κ×V)} {k:κ} (e:¬ p.1=k):qW (p::r) k=qW r k:=by simp [qW,Qg,e]
theorem yL (k:κ):∀ kvs:List (κ×V),(kvs.any λkv=>decide (kv.1=k))=(qW kvs k).isSome
 | []=>rfl
 | p::r=>by
  rw [List.any_cons]
  by_cases e:p.1=k
  ·simp only [oZ e,decide_eq_true e,Bool.true_or,Option.isSome_some]
  ·rw [o9 e,QT e,Bool.false_or]; exact yL k r
theorem qJ (kvs:List (κ×V)) (k:κ) (v:V):(nM kvs k v).length<=kvs.length+1:=by
 unfold nM
 split
 ·rw [P6]; omega
 ·rw [Ql,Qf,Ra]; omega
theorem ul.isSome_eq {o:Ri V} {u:Ri Rg} (r:ul o u):o.isSome=u.isSome:=by
 cases o with
 | none=>cases u with
  | none=>rfl
  | some _=>exact(show False from r).elim
 | some _=>cases u with
  | none=>exact(show False from r).elim
  | some _=>rfl
theorem KV.val {kvs:List (κ×V)} {vs:List (κ×Rg)} (r:KV kvs vs) (k:κ):ul (qW kvs k) (valueAt vs k):=by
 unfold KV at r
 induction r with
 | nil=>exact True.intro
 | @cons p q ps qs h t ih=>
  obtain⟨h1,h2⟩:=h
  by_cases e:p.1=k
  ·have e':q.1=k:=h1.symm.trans e;have b:valueAt (q::qs) k=some q.2:=by simp [valueAt,Qg,e']
   rw [oZ e,b]; exact h2
  ·have e':¬ q.1=k:=λz=>e (h1.trans z)
   have b:valueAt (q::qs) k=valueAt qs k:=by simp [valueAt,Qg,e']
   rw [o9 e,b]; exact ih
theorem KV.any {kvs:List (κ×V)} {vs:List (κ×Rg)} (r:KV kvs vs) (k:κ):(kvs.any λkv=>decide (kv.1=k))=vs.any λkv=>decide (kv.1=k):=by
 unfold KV at r
 induction r with
 | nil=>rfl
 | cons h t ih=>rw [List.any_cons,List.any_cons,ih,h.1]
theorem KV.repl {kvs:List (κ×V)} {vs:List (κ×Rg)} (r:KV kvs vs) (k:κ) {y:V} {u:Rg} (ry:aP y u):
  KV (kvs.map λkv=>if kv.1=k then(kv.1,y) else kv) (vs.map λkv=>if kv.1=k then(kv.1,u) else kv):=by
 unfold KV at r ⊢
 induction r with
 | nil=>exact .nil
 | @cons p q ps qs h t ih=>
  rw [Qe,Qe];refine .cons ?_ ih;obtain⟨h1,h2⟩:=h
  by_cases e:p.1=k
  ·rw [if_pos e,if_pos (h1.symm.trans e)]; exact⟨h1,ry⟩
  ·rw [if_neg e,if_neg (λz=>e (h1.trans z))]; exact⟨h1,h2⟩
theorem KV.put {kvs:List (κ×V)} {vs:List (κ×Rg)} (r:KV kvs vs) (k:κ) {y:V} {u:Rg} (ry:aP y u):KV (nM kvs k y) (stored vs k u):=by
 unfold nM stored;rw [r.any k]
 by_cases e:(vs.any λkv=>decide (kv.1=k))=true
 ·rw [if_pos e,if_pos e]; exact r.repl k ry
 ·rw [if_neg e,if_neg e]; exact Paired.snoc r ⟨rfl,ry⟩
theorem KV.length {kvs:List (κ×V)} {vs:List (κ×Rg)} (r:KV kvs vs):kvs.length=vs.length:=Paired.length r
end
theorem E5 {P:Rk} {w:Rn} {k:eG} {u:Rg} (r:aP (kV k) u):(e_ P w).is k u=true:=by
 cases k with
 | inl i=>obtain⟨t,e⟩:=(show ∃ t,u=Value.int i t from r); subst e; exact yw P w i t
 | inr x=>obtain⟨t,e⟩:=(show ∃ t,u=Value.str x t from r); subst e; exact yv P w x t
theorem uR {P:Rk} {w:Rn}:∀ {ks:List eG} {us:List Rg},bf (ks.map kV) us->ItemsAre (e_ P w) ks us
 | [],_,r=>by rw [List.map_nil] at r; cases r; exact .nil
 | k::ks,_,r=>by
  rw [Qe] at r;cases r with
  | cons h t=>exact .cons (E5 h) (uR t)
abbrev KT (H:Hp):List (List eG×V)->List (List eG×Rh×Rg)->Prop:=Paired λp q=>p.1=q.1/\H q.2.1=some (.tup (p.1.map kV))/\aP p.2 q.2.2
theorem KT.val {H:Hp} {kvs:List (List eG×V)} {xs:List (List eG×Rh×Rg)} (r:KT H kvs xs) (k:List eG):ul (qW kvs k) ((atKey xs k).map (·.2)):=by
 induction r with
 | nil=>exact True.intro
 | @cons p q ps qs h t ih=>
  obtain⟨h1,_,h2⟩:=h
  by_cases e:p.1=k
  ·have e':q.1=k:=h1.symm.trans e;have b:atKey (q::qs) k=some q.2:=by simp [atKey,Qg,e']
   rw [oZ e,b]; exact h2
  ·have e':¬ q.1=k:=λz=>e (h1.trans z)
   have b:atKey (q::qs) k=atKey qs k:=by simp [atKey,Qg,e']
   rw [o9 e,b]; exact ih
theorem KT.repl {H:Hp} {kvs:List (List eG×V)} {xs:List (List eG×Rh×Rg)} (r:KT H kvs xs) (k:List eG) {y:V} {u:Rg} (ry:aP y u):
  KT H (kvs.map λkv=>if kv.1=k then(kv.1,y) else kv) (xs.map (putAt k u)):=by
 induction r with
 | nil=>exact .nil
 | @cons p q ps qs h t ih=>
  rw [Qe,Qe];refine .cons ?_ ih;obtain⟨h1,h2,h3⟩:=h;unfold putAt
  by_cases e:p.1=k
  ·rw [if_pos e,if_pos (h1.symm.trans e)]; exact⟨h1,h2,ry⟩
  ·rw [if_neg e,if_neg (λz=>e (h1.trans z))]; exact⟨h1,h2,h3⟩
theorem KT.put {H:Hp} {kvs:List (List eG×V)} {xs:List (List eG×Rh×Rg)} (r:KT H kvs xs) (k:List eG) {b:Rh} {y:V} {u:Rg} (hb:H b=some (.tup (k.map kV))) (ry:aP y u):
  KT H (nM kvs k y) (storedH xs k b u):=by
 have e:(kvs.any λkv=>decide (kv.1=k))=(atKey xs k).isSome:=by
  rw [yL,(r.val k).isSome_eq,Option.isSome_map]
 unfold nM storedH;rw [e]
 by_cases q:(atKey xs k).isSome=true
 ·rw [if_pos q,if_pos q]; exact r.repl k ry
 ·rw [if_neg q,if_neg q]; exact Paired.snoc r ⟨rfl,hb,ry⟩
theorem KT.keeps {H H':Hp} {kvs:List (List eG×V)} {xs:List (List eG×Rh×Rg)} (r:KT H kvs xs) (ht:∀ b ys,H b=some (.tup ys)->H' b=some (.tup ys)):KT H' kvs xs:=
 Paired.mapP r λ_ _ z=>⟨z.1,ht _ _ z.2.1,z.2.2⟩
section
variable {P:Rk} {w:Rn} {H:Hp} {h:Ro} {a:Rh}
theorem Im {u:HO} (ok:mL P w H h) (e:Rd H a u):dY P w H h a u:=e.ok ok
theorem EF {kvs:List (eG×V)} (ok:mL P w H h) (e:Rd H a (.dK kvs)):kvs.length<=sizeLine/\(a == sysModules)=false/\∃ vs,KV kvs vs/\h.DictOf (e_ P w) a vs:=
 show dY P w H h a (.dK kvs) from Im ok e
theorem No {kvs:List (eG×V)} (ok:mL P w H h) (e:H a=some (.dK kvs)):kvs.length<=sizeLine/\(a == sysModules)=false/\∃ vs,KV kvs vs/\h.DictOf (e_ P w) a vs:=EF ok (.inl e)
theorem zF {ks:List eG} (ok:mL P w H h) (e:H a=some (.tup (ks.map kV))):(tupleKind (e_ P w)).is h ks a:=by
 obtain⟨_,its,r,o,h1,h2,n,h3⟩:=(show dY P w H h a (.tup (ks.map kV)) from ok a _ e)
 exact⟨o,its.toArray,n,h1,h2,h3,by simpa using uR r⟩
theorem ET {kvs:List (List eG×V)} (ok:mL P w H h) (e:Rd H a (.dT kvs)):kvs.length<=sizeLine/\(a == sysModules)=false/\
  ∃ xs,KT H kvs xs/\h.DictOfH (tupleKind (e_ P w)) a xs:=by
 obtain⟨z,y,xs,r,o,es,ep,h1,h2,h3,h4,h5⟩:=(show dY P w H h a (.dT kvs) from Im ok e)
 refine⟨z,y,xs,r,o,es,ep,h1,h2,h3,h4,λx hx=>?_,h5⟩
 have all:∀ {l:List (List eG×V)} {m:List (List eG×Rh×Rg)},KT H l m->∀ x∈m,(tupleKind (e_ P w)).is h x.1 x.2.1:=by
  intro l m q
  induction q with
  | nil=>intro x hx; exact nomatch hx
  | @cons p q ps qs hq t ih=>
   intro x hx;rcases P9.mp hx with e | hx
   ·subst e;exact zF ok (by rw [<- hq.1]; exact hq.2.1)
   ·exact ih x hx
 exact all r x hx
theorem MG {kvs:List (List eG×V)} (ok:mL P w H h) (e:H a=some (.dT kvs)):kvs.length<=sizeLine/\(a == sysModules)=false/\
  ∃ xs,KT H kvs xs/\h.DictOfH (tupleKind (e_ P w)) a xs:=ET ok (.inl e)
end
def BS (H:Hp) (a:Rh) (y:V) (r:Ri V):Prop:=
 (∃ kvs k,Rd H a (.dK kvs)/\y=kV k/\r=qW kvs k)\/∃ kvs k b,Rd H a (.dT kvs)/\y=.ref b/\H b=some (.tup (k.map kV))/\r=qW kvs k
def GY (H:Hp) (a:Rh) (y v:V) (H':Hp):Prop:=
 (∃ kvs k,H a=some (.dK kvs)/\y=kV k/\kvs.length < sizeLine/\H'=bS H a (.dK (nM kvs k v)))\/
 ∃ kvs k b,H a=some (.dT kvs)/\y=.ref b/\H b=some (.tup (k.map kV))/\kvs.length < sizeLine/\H'=bS H a (.dT (nM kvs k v))
theorem BS.k {H:Hp} {a:Rh} {kvs:List (eG×V)} {k:eG} (e:H a=some (.dK kvs)):BS H a (kV k) (qW kvs k):=.inl ⟨kvs,k,.inl e,rfl,rfl⟩
theorem GY.k {H:Hp} {a:Rh} {kvs:List (eG×V)} {k:eG} {v:V} (e:H a=some (.dK kvs)) (hl:kvs.length < sizeLine):GY H a (kV k) v (bS H a (.dK (nM kvs k v))):=.inl ⟨kvs,k,e,rfl,hl,rfl⟩
section
variable {X:Cx} {Rw:List (Rh×Rv)} {σ:St} {H:Hp} {s:Rf} {a:Rh} {y v:V} {u r:Rg} {o:Ri V} {A:Rm} {E:Rg->Rf->Prop}
theorem aC.big (I:aC X Rw σ H s):sysModules < s.heap.objs.size:=by
 have h:mainGlobals < s.heap.objs.size:=(I.mod.glob.keeps I.bk).lt;exact Nat.lt_trans (by decide) h
theorem Cc {Q:Rg->Rf->Prop} (hu:A.units+1 < cLine) (I:aC X Rw σ H s) (g:BS H a y (some v)) (ry:aP y u) (h:∀ w' s',aC X Rw σ H s'->aP v w'->Q w' s'):
  wpAny (model X.prog X.w) A (getItem (.ref a) u) Q E s:=by
 rcases g with ⟨kvs,k,e,ey,l⟩ | ⟨kvs,k,b,e,ey,eb,l⟩
 ·subst ey;obtain⟨z,hd,vs,rel,dd⟩:=EF I.hok e;obtain⟨w',hw,rw'⟩:=ul.some_of (v:=v) (o:=valueAt vs k) (by rw [l]; exact rel.val k)
  exact wpAny_getItem_of (E5 ry) dd.mapOf hw (h w' _ (I.tok _) rw')
 ·subst ey;cases (show u=Value.ref b from ry)
  obtain⟨z,hd,xs,rel,dd⟩:=ET I.hok e;obtain⟨w',hw,rw'⟩:=ul.some_of (v:=v) (o:=(atKey xs k).map (·.2)) (by rw [l]; exact rel.val k)
  obtain⟨p,hp,hp2⟩:=QO.mp hw;refine wpAny_getItem_heap (tupleKind_room_in1 hu) (zF I.hok eb) dd hp ?_;rw [hp2];exact h w' _ (I.tok _) rw'
theorem rq {h':Ro} {t':Nat} {ob:HO} (I:aC X Rw σ H s) (mu:LF (H a)) (hs:Heap.SameBut a s.heap h') (he:∃ q,h'.get? a=some q) (new:dY X.prog X.w (bS H a ob) h' a ob):
  aC X Rw σ (bS H a ob) {s with heap:=h',toks:=t'}:=
 I.write (x:=a) (e:=a) mu (.inl rfl) (λb q hb z=>(hs.2 b hb).trans z) he new
theorem JD {P:Rk} {w:Rn} {H':Hp} {h':Ro} {kvs:List (eG×V)} {vs:List (eG×Rg)} (z:kvs.length<=sizeLine) (hd:(a == sysModules)=false) (rel:KV kvs vs) (dd:h'.DictOf (e_ P w) a vs):
  dY P w H' h' a (.dK kvs):=⟨z,hd,vs,rel,dd⟩
theorem Cs {H':Hp} {Q:Unit->Rf->Prop} (hu:A.units+1 < cLine) (I:aC X Rw σ H s) (g:GY H a y v H') (ry:aP y u) (rv:aP v r) (h:∀ s',aC X Rw σ H' s'->Q () s'):
  wpAny (model X.prog X.w) A (setItem (.ref a) u r) Q E s:=by
 rcases g with ⟨kvs,k,e,ey,l,eH⟩ | ⟨kvs,k,b,e,ey,eb,l,eH⟩
 ·subst ey eH;obtain⟨z,hd,vs,rel,dd⟩:=No I.hok e;have hz:vs.length<=sizeLine:=by rw [<- rel.length]; exact z
  have hl:(nM kvs k v).length<=sizeLine:=by have:=qJ kvs k v; omega
  refine wpAny_setItem_pairs (hsz:=hz) (E5 ry) dd λh' dd' hs=>h _ ?_
  have he:∃ q,h'.get? a=some q:=let ⟨q,_,_,hq,_⟩:=dd'; ⟨q,hq⟩
  exact rq I (by rw [e]; exact True.intro) hs he (JD hl hd (rel.put k rv) dd')
 ·subst ey eH;cases (show u=Value.ref b from ry)
  obtain⟨z,hd,xs,rel,dd⟩:=MG I.hok e;have hz:xs.length<=sizeLine:=by rw [<- Paired.length rel]; exact z
  have hl:(nM kvs k v).length<=sizeLine:=by have:=qJ kvs k v; omega
  refine wpAny_setItem_heap (hsz:=hz) (tupleKind_room_in1 hu) (zF I.hok eb) dd λh' dd' hs=>h _ ?_
  obtain⟨q,es,ep,hq,h2,h3,h4,_,h5⟩:=dd';refine rq I (by rw [e]; exact True.intro) hs ⟨q,hq⟩ ⟨hl,hd,_,(rel.put k eb rv).keeps λc ys ec=>?_,q,es,ep,hq,h2,h3,h4,h5⟩
  rw [aF (M9 ec e (λz=>nomatch z))]
  exact ec
end
def Da (i:Rj):Prop:=∀ ov iv,subscripted i false ov iv=operate [ov,iv] (getItem ov iv)
theorem Ar {prog:Rk} {w:Rn} {A:Rm} {E:Rg->Rf->Prop} {s:Rf} {env:Env} {value slice:Rj} {pos:Pos} {T id:Rs} {Q:Rg->Rf->Prop}
  (hl:typeLookup (.type T) "__getitem__"=pure (some (.builtin id))) (hs:Da slice)
  (h:wpAny (model prog w) A (eval value env) (λo s₁=>wpAny (model prog w) A (eval slice env) (λi s₂=>s₂.TypeIs o T/\wpAny (model prog w) A (getItem o i) Q E s₂) E s₁) E s):
  wpAny (model prog w) A (eval (.Subscript value slice pos) env) Q E s:=by
 refine Subscript_ (QD h (λo s₁ h₁=>QD h₁ (λi s₂ h₂=>?_) λ_ _ x=>x) λ_ _ x=>x)
 obtain⟨hT,h₂⟩:=h₂;unfold subscriptTail;refine gt ?_;rw [getitemInPython_of_ne hT.not_modules];refine gt (wpAny_specialOf hT hl ?_);have fin:wpAny (model prog w) A (subscripted slice false o i) (λr s₃=>wpAny (model prog w) A (letTemporaryGo value o r >>= λ_=>pure r) Q E s₃) E s₂:=by
  rw [hs o i];exact wpAny_operating (QD h₂ (λr s₃ h₃=>gt (wpAny_letTemporaryGo (P0 h₃))) λ_ _ x=>x)
 first
  | exact P0 (gt fin)
  | exact gt (P0 (gt fin))
  | exact gt fin
theorem xU {X:Cx} {Rw:List (Rh×Rv)} {σ:St} {H:Hp} {s:Rf} {a:Rh} {y:V} {o:Ri V} (I:aC X Rw σ H s) (g:BS H a y o):s.TypeIs (.ref a) "dict":=by
 rcases g with ⟨kvs,k,e,_,_⟩ | ⟨kvs,k,b,e,_,_,_⟩
 ·obtain⟨_,_,vs,_,dd⟩:=EF I.hok e;exact dd.typeIs
 ·obtain⟨_,_,xs,_,dd⟩:=ET I.hok e;exact dd.typeIs
def Mc (td ty:TE):TE:=fun σ H Q=>td σ H λx H1=>ty σ H1 λy H2=>∃ a v,x=.ref a/\BS H2 a y (some v)/\Q v H2
section
variable {X:Cx} {o i e value:Rj} {pos pos' tpos:Pos} {td ty tv:TE}
theorem GU (hu:X.A.units+1 < cLine) (ho:PE X o td) (hi:PE X i ty) (hs:Da i):PE X (.Subscript o i pos) (Mc td ty):=by
 intro Rw s σ H Q I h;refine Ar PySem.F.slot_dict_getitem.lookup hs (cu (ho Rw s σ H _ I h) λu s1 ⟨x,H1,I1,rx,q1⟩=>cu (hi Rw s1 σ H1 _ I1 q1) λiv s2 z9=>?_)
 obtain⟨y,H2,I2,ry,a,v,ex,g,q2⟩:=z9;subst ex;obtain rfl:u=Value.ref a:=rx;exact⟨xU I2 g,Cc hu I2 g ry λw' s3 I3 rw'=>⟨v,H2,I3,rw',q2⟩⟩
end
theorem Di {P:Rk} {w:Rn} {H:Hp} (h:Ro) (hb:sysModules < h.objs.size):dY P w H (h.push {cls:=.type "dict",data:=.dict #[]}) h.objs.size (.dK []):=
 ⟨QU _,beq_eq_false_iff_ne.mpr (Ne.symm (P_ hb)),[],.nil,Heap.DictOf.new h⟩
def JL:TE:=λ_ H Q=>∀ p,H p=none->Q (.ref p) (bS H p (.dK []))
section
variable {X:Cx} {pos:Pos}
theorem FM:PE X (.Dict [] [] pos) JL:=λRw s σ H Q I h=>
 wpAny_Dict_empty ⟨.ref s.heap.objs.size,_,I.laid (a:=s.heap.objs.size) (o:=.dK []) (t':=s.toks) (λ_ _ q=>PZ _ q) (P4 _) (Di s.heap I.big),rfl,h _ (I.hok.fresh (P4 _))⟩
end
abbrev VV:List (V×V)->List (Rg×Rg)->Prop:=Paired λp q=>aP p.1 q.1/\aP p.2 q.2
structure M1 (X:Cx) (o:Rj) (m:Str) (apos:Pos) (e:Rj) (cpos:Pos):Prop where
 base:attributeBase o m X.env (eval o X.env)=eval o X.env
 few:((backTo cpos (starEach [e] X.env)).all (λx=>!x.1) && (backToKw cpos (keywordEach [] X.env)).all (λx=>x.1.isSome)
  && decide (([e]:List Rj).length+([]:List Keyword).length+(if ([]:List Keyword).isEmpty then 0 else 1) < 30))=true
 line:(apos.endLine == cpos.line)=true
 trees:backTo cpos (starEach [e] X.env)=[(false,eval e X.env)]
structure M2 (X:Cx) (o:Rj) (m:Str) (apos:Pos) (e f:Rj) (cpos:Pos):Prop where
 base:attributeBase o m X.env (eval o X.env)=eval o X.env
 few:((backTo cpos (starEach [e,f] X.env)).all (λx=>!x.1) && (backToKw cpos (keywordEach [] X.env)).all (λx=>x.1.isSome)
  && decide (([e,f]:List Rj).length+([]:List Keyword).length+(if ([]:List Keyword).isEmpty then 0 else 1) < 30))=true
 line:(apos.endLine == cpos.line)=true
 trees:backTo cpos (starEach [e,f] X.env)=[(false,eval e X.env),(false,eval f X.env)]
def cq (H:Hp) (a:Rh):Prop:=(∃ kvs,Rd H a (.dK kvs))\/∃ kvs,Rd H a (.dT kvs)
end L2
namespace Att
open PySem PySem.W PySem.Calls PyProof.Rows
theorem qQ {P:Params} {h:Ro}:∀ (ns:List Int) (vs:List Rg),WellAll P h vs (ns.map WData.int)->IntsAre vs ns:=by
 intro ns
 induction ns with
 | nil=>
  intro vs w;rw [List.map_nil] at w;cases w;exact .nil
 | cons n ns ih=>
  intro vs w;rw [Qe] at w;cases w with
  | cons a b=>
   cases a;exact .cons _ _ (ih _ b)
theorem Ch {l:OpenLaw} {n:Nat} (hn:l.most=some n) {P:Params} {h:Ro} {args:List WData} {vals:List Rg}
  (hpre:l.row.toRowW.claim.pre args=true) (hwl:WellAll P h vals args):
  ∃ a vs ns,vals=[Value.ref a]/\args=[WData.list (ns.map WData.int)]/\h.get? a=some {cls:=.type "list",data:=.seq vs.toArray}/\IntsAre vs ns/\ns.length<=n:=by
 have hsh:WShape.hasAll [] args [.list .int]=true:=(pre_splitW hpre).1;have hc:l.pre.holds [] {args:=args}=true:=(pre_splitW hpre).2;obtain⟨d,r,rfl,h1,h2⟩:=hasAllW_cons hsh;obtain rfl:=hasAllW_nil h2;obtain⟨xs,rfl,h3⟩:=hasW_list h1;obtain⟨ns,rfl⟩:=items_int h3;have hlen:ns.length<=n:=by
  unfold OpenLaw.pre at hc;have h4:(WTm.not (.lt (.lit (.int (n:Int))) (.len (.arg 0)))).holds [] {args:=[.list (ns.map .int)]}=true:=by
   have h4:=(holds_andW hc).1;rw [hn] at h4;exact h4
  have h5:=condW_of h4 (w_not (w_lt w_lit (w_len_list (w_arg rfl))));rw [P6] at h5;refine Nat.le_of_not_lt λq=>?_
  have q':(n:Int) < ((ns.length:Nat):Int):=by omega
  first
   | (rw [decide_eq_true q'] at h5; exact absurd h5 (by decide))
   | (simp at h5; omega)
 cases hwl with
 | cons w1 w2=>
  cases w2;cases w1 with
  | list ho hall=>exact⟨_,_,ns,rfl,rfl,ho,qQ ns _ hall,hlen⟩
theorem Co (l:OpenLaw) (args:List WData):l.row.toRowW.claim.post args (.bool true) args=true:=
 postW_of (r:=l.row.toRowW) (X:=(true == true))
  (show WShape.has [] (.bool true) .bool=true by first | rfl | decide | simp [WShape.has,WShape.arms,WShape.armsAll])
  (show (WTm.eq .res (.lit (.bool true))).value [] {args:=args,res:=some (.bool true),after:=args}=some (.bool (true == true)) from w_eq_bool (w_res rfl) w_lit) rfl
theorem attach_call {l:OpenLaw} {n:Nat} {q:Rk} {loose:List Str} {XP:(Str->Ri Rg)->Ro->Prop} {YP:Rn->Ro->Prop} {d:DefRec}
  (hn:l.most=some n) (hdf:d.params.defaults=[])
  (call:∀ (w:Rn) (s₀ s₁:Rf) (mg mb:Str->Ri Rg) (fa:Rh) (o:Rv) (pm cd doc:Rg) (a:Rh) (vs:List Rg) (ns:List Int),
   Ground q loose [] XP w s₀ mg mb s₁.heap->YP w s₁.heap->
   s₁.heap.get? fa=some o->o.data=.func (docDef d.name d.params d.body d.scope pm cd doc)->s₁.heap.CodeRec cd d.name->mg d.name=some (.ref fa)->
   s₁.heap.get? a=some {cls:=.type "list",data:=.seq vs.toArray}->IntsAre vs ns->ns.length<=n->s₁.gens=#[]->
   codeAny (model l.prog w) callerA (.call (.ref fa) ⟨[.ref a],[]⟩) (λr s'=>r=.ok (.ret (.bool true))/\OldK s₁.heap s'.heap/\s'.os=s₁.os/\AllBare s'.gens) s₁):
  WalkO q loose XP YP l.row.toRowW d [] (λf vs=>PySem.call f vs):=by
 intro w s₀ s₁ mg mb G Y fa o pm cd doc dV kV ho hd hcd hD hmg hg args vals as hpre hlay hrd hwl hlo;obtain rfl:dV=.none:=Dflts.none hD hdf;obtain rfl:kV=.none:=Dflts.noKw hD;obtain⟨a,vs,ns,rfl,rfl,hobj,hints,hlen⟩:=Ch hn hpre hwl;refine enter_call (codeAny_mono (call w s₀ s₁ mg mb fa o pm cd doc a vs ns G Y ho (fd_plain hd) hcd hmg hobj hints hlen hg) λr s' hq=>?_)
 obtain⟨rfl,h2,h3,h4⟩:=hq;exact⟨.inl ⟨.bool true,.bool true,[],rfl,λ_=>rfl,.bool true,Co l _,λ_=>⟨List.Pairwise.nil,λ_ hm=>(nomatch hm)⟩⟩,h2,h3,h4⟩
section
variable {prog:Rk} {w:Rn} {A:Rm} {E:Rg->Rf->Prop} {s:Rf} {K:Frag}
def OH (h:Ro) (L d:Rh):List (Rh×Rv):=(List.range h.objs.size).filterMap λa=>if a=L\/a=d then none else(h.get? a).map λo=>(a,o)
end
end Att
namespace L2
open PySem PySem.Spec PyProof.Rows
theorem vo:∀ {vs:List Rg} {ns:List Int},IntsAre vs ns->bf (ns.map V.int) vs
 | _,_,.nil=>.nil
 | _,_,.cons n t h=>.cons ⟨t,rfl⟩ (vo h)
def GH (H:Hp):Prop:=∀ b,H b=none\/∃ o xs,H b=some (.frz o (.lst xs))
theorem EL {P:Rk} {w:Rn} {K:PySem.W.Frag} {mg mb:Str->Ri Rg} {CX:FS} {k:Nat} {fa a:Rh} {fd:FuncData} {x:Str} {sp:Sp} {s₁:Rf} {vs:List Rg} {ns:List Int}
  (KX:K.In s₁.heap) (hns:s₁.heap.Ns mainGlobals mg) (hb:s₁.heap.Ns builtinsNs mb) (hbb:∀ x:Str,x≠"__name__"->mb x=bootBuiltins x) (hlim:s₁.heap.NoLimit) (hg:s₁.gens=#[])
  (ha:s₁.heap.get? a=some {cls:=.type "list",data:=.seq vs.toArray}) (hi:IntsAre vs ns) (hl:ns.length<=sizeLine) (hr:b3 k callerA)
  (F:∀ base:Ro,K.In base->base.Ns mainGlobals mg->aL P w K mg base CX k fa fd [x] sp) (hbind:∀ (s:Rf) (u:Rg),BindsTo s fd ⟨[u],[]⟩ [(x,u)])
  (hsp:∀ H:Hp,GH H->jv K H a (ns.map V.int)->sp [.ref a] H (λv _=>v=.bl true) λ_ _ _=>False)
  (hCX:∀ H e s',CX [] H s₁ (λ_ _ _=>False) e s'->False):
  codeAny (model P w) callerA (.call (.ref fa) ⟨[.ref a],[]⟩) (λr s'=>r=.ok (.ret (.bool true))/\OldK s₁.heap s'.heap/\s'.os=s₁.os/\AllBare s'.gens) s₁:=by
 have rv:=vo hi;have lenV:=hi.length;have core:∀ H:Hp,GH H->jv K H a (ns.map V.int)->mL P w H s₁.heap->(∀ b,H b≠none->b=a)->(H a≠none->K.lookup a=none)->
   codeAny (model P w) callerA (.call (.ref fa) ⟨[.ref a],[]⟩) (λr s'=>r=.ok (.ret (.bool true))/\OldK s₁.heap s'.heap/\s'.os=s₁.os/\AllBare s'.gens) s₁:=by
  intro H hO hS hok hA hK;have base_of:∀ {b:Rh} {o:Rv},s₁.heap.get? b=some o->H b=none->(vZ s₁.heap H).get? b=some o:=λe n=>FF e n
  have noA:∀ {b:Rh} {o:Rv} {es:Rq Ru} {ep:Nat},s₁.heap.get? b=some o->o.data=.dict es ep->H b=none:=λ{b o es ep} e d=>by
   cases q:H b with
   | none=>rfl
   | some u=>
    have e':b=a:=hA b (by rw [q]; simp)
    subst e';rw [ha] at e; cases e
    have d':Data.seq vs.toArray _=Data.dict es ep:=d;cases d'
  have nsK:∀ {b:Rh} {m:Str->Ri Rg},s₁.heap.Ns b m->(vZ s₁.heap H).Ns b m:=λ{b m} ⟨o,es,ep,e,d,r⟩=>⟨o,es,ep,base_of e (noA e d),d,r⟩
  have hKb:K.In (vZ s₁.heap H):=λb o e=>base_of (KX b o e) (by
   cases q:H b with
   | none=>rfl
   | some u=>
    have e':b=a:=hA b (by rw [q]; simp)
    subst e';rw [hK (by rw [q]; simp)] at e; cases e)
  have hM:Mod K mg (vZ s₁.heap H):=⟨hKb,nsK hns,⟨mb,nsK hb,hbb⟩,let ⟨mc,h1,h2⟩:=hlim; ⟨mc,nsK h1,h2⟩⟩
  have e0:xW P w K mg (vZ s₁.heap H) callerA [] s₁ H:=⟨rfl,hM,λb o e=>Hg e,Nat.le_of_eq (CF _ _),trivial,λb hb=>absurd (show b∈([]:List Rh) from hb) (by simp),hok,.of_eq hg⟩
  refine codeAny_mono ((F _ hKb (nsK hns)).run callerA [] s₁ H ⟨[.ref a],[]⟩ [.ref a] [.ref a] _ _ hr e0 (hbind s₁ (.ref a)) (.cons rfl .nil) (hsp H hO hS)) λr s' h=>?_
  cases r with
  | error e=>exact(hCX H e s' h).elim
  | ok fl=>
   cases fl with
   | next=>exact False.elim h
   | brk=>exact False.elim h
   | cont=>exact False.elim h
   | ret u=>
    obtain⟨v,H',os,bare,un,hok',r',q⟩:=h;have q':v=.bl true:=q;subst q';obtain rfl:u=Value.bool true:=r';refine⟨rfl,OldK.of_keep λb o e=>?_,os,bare⟩
    cases q:H b with
    | none=>exact un.keep b o e q (by intro z; exact absurd (show b∈([]:List Rh) from z) (by simp)) (by simp)
    | some u=>
     rcases hO b with z | ⟨ob,xs,z⟩
     ·rw [q] at z; cases z
     ·have z2:=un.frzs b ob _ z;obtain⟨e1,_⟩:=hok b _ z;obtain⟨e2,_⟩:=hok' b _ z2;rw [e] at e1; cases e1
      exact e2
 cases hk:K.lookup a with
 | some o=>
  have e:=KX a o hk;rw [ha] at e;cases e;refine core (λ_=>none) (λ_=>.inl rfl) (.inr ⟨_,vs.toArray,_,hk,rfl,rfl,rfl,by rw [P8,lenV]; exact hl,by simpa using rv⟩) (λb u z=>by have z':(none:Ri HO)=some u:=z; cases z') (λb z=>absurd rfl z) λz=>absurd rfl z
 | none=>
  refine core (λb=>if b=a then some (.frz {cls:=.type "list",data:=.seq vs.toArray} (.lst (ns.map V.int))) else none) (λb=>?_) (.inl (.inr ⟨{cls:=.type "list",data:=.seq vs.toArray},if_pos rfl⟩)) (λb u z=>?_) (λb z=>?_) λ_=>hk
  ·by_cases hb:b=a
   ·exact .inr ⟨_,_,if_pos hb⟩
   ·exact .inl (if_neg hb)
  ·by_cases hb:b=a
   ·have z':=(if_pos hb).symm.trans z;cases z';subst hb;exact⟨ha,by rw [P6]; exact hl,vs,_,rv,ha⟩
   ·have z':=(if_neg hb).symm.trans z;cases z'
  ·by_cases hb:b=a
   ·exact hb
   ·exact absurd (if_neg hb) z
abbrev PY {K:PySem.W.Frag} {h:Ro} (_:K.In h):PySem.W.Frag:=K
theorem HK {l:PySem.W.OpenLaw} {n k:Nat} {q:Rk} {loose:List Str} {XP:(Str->Ri Rg)->Ro->Prop} {YP:Rn->Ro->Prop} {d:DefRec} {K:Params->PySem.W.Frag} {CX:Rn->FS} {sp:Rn->Sp} {x:Str}
  (hn:l.most=some n) (hn2:n<=sizeLine) (hdf:d.params.defaults=[]) (hr:b3 k callerA)
  (hY:∀ (w:Rn) (h:Ro),YP w h->(K w.params).In h)
  (F:∀ (w:Rn) (mg:Str->Ri Rg) (fa:Rh) (h:Ro),(K w.params).In h->h.Ns mainGlobals mg->mg d.name=some (.ref fa)->
   ∃ fd:FuncData,(∀ (s:Rf) (u:Rg),BindsTo s fd ⟨[u],[]⟩ [(x,u)])/\
    ∀ base:Ro,(K w.params).In base->base.Ns mainGlobals mg->aL l.prog w (K w.params) mg base (CX w) k fa fd [x] (sp w))
  (hsp:∀ (w:Rn) (H:Hp) (a:Rh) (ns:List Int),ns.length<=n->GH H->jv (K w.params) H a (ns.map V.int)->sp w [.ref a] H (λv _=>v=.bl true) λ_ _ _=>False)
  (hCX:∀ (w:Rn) (H:Hp) (s:Rf) (e:Rg) (s':Rf),CX w [] H s (λ_ _ _=>False) e s'->False):
  PySem.W.WalkO q loose XP YP l.row.toRowW d [] (λf vs=>PySem.call f vs):=by
 refine Att.attach_call hn hdf λw s₀ s₁ mg mb fa o pm cd doc a vs ns G Y ho hd hcd hmg hobj hints hlen hg=>?_
 have KX:=hY w _ Y;obtain⟨fd,hb,hF⟩:=F w mg fa _ KX G.T.g hmg;exact EL KX G.T.g G.T.b G.T.builtins G.T.nolimit hg hobj hints (QF hlen hn2) hr hF hb (λH hO hS=>hsp w H a ns hlen hO hS) λH e s'=>hCX w H s₁ e s'
def G' (s:Rp) (j:Nat):Rp:=match s with
 | .ClassDef _ _ _ body _ _ _ _ _ _ _=>body.getD j (.Pass ⟨0,0,0,0⟩)
 | _=>.Pass ⟨0,0,0,0⟩
def di (s:Rp):Arguments:=match s with
 | .FunctionDef _ a _ _ _ _ _ _ _ _=>a
 | _=>{posonlyargs:=[],args:=[],vararg:=none,kwonlyargs:=[],kw_defaults:=[],kwarg:=none,defaults:=[]}
def bL (s:Rp):List Rp:=match s with
 | .FunctionDef _ _ b _ _ _ _ _ _ _=>b
 | _=>[]
def aj (s:Rp):Scope:=match s with
 | .FunctionDef _ _ _ _ _ _ sc _ _ _=>sc
 | _=>{kind:=.function,names:=[],isGenerator:=false,isCoroutine:=false}
abbrev cN:FS:=λ_ _ _ _ _ _=>False
abbrev E0:XK:=λ_ _ _=>False
theorem LI {X:Cx}:xh cN X E0:=λ_ _ _ _ _ _ _ h=>h.elim
structure xo (K:PySem.W.Frag) (x Rx:Str) (st:Rp) (f:Rh) (fd:FuncData):Prop where
 ex:∃ (oc:Rg) (od:Ri Rh) (kV doc pm:Rg) (an:Ri Rh) (cdv ct:Rg) (osl:Rq (Ri Rg)),
  fd=PySem.W.fnOf x Rx (di st) (bL st) (aj st) .none kV doc pm an cdv ct/\K.lookup f=some ⟨oc,od,.func fd,osl⟩/\PySem.W.codeIn K cdv Rx=true
 kp:PySem.W.keepIn K (.ref f)=true
section
variable {P:Rk} {w:Rn} {K:PySem.W.Frag} {mg:Str->Ri Rg} {base:Ro}
theorem xo.ok {x Rx:Str} {st:Rp} {f:Rh} {fd:FuncData} {N ps:List Str} {k:Nat} {sp:Sp} (F:xo K x Rx st f fd) (S:ar N ps (aj st)) (len:∀ vs H Q E,sp vs H Q E->vs.length=ps.length)
  (hbody:∀ (cdv:Rg) (A:Rm) (outer:List Env) (s:Rf) (H:Hp) (vs:List V) (Q:VK) (E:XK),b3 k (A.deeper (envOfC Rx (aj st) s.heap.objs.size f cdv))->sp vs H Q E->
   ∃ t,ub (de cN P w K mg base N Rx (aj st) f cdv A outer s H E).nox (bL st) t/\t {nx:=λ_ H'=>Q .non H',rt:=Q} (start N vs) H):aL P w K mg base cN (k+1) f fd ps sp:=by
 obtain⟨oc,od,kV,doc,pm,an,cdv,ct,osl,rfl,lk,hcd⟩:=F.ex;refine IM lk hcd S len λA outer s H vs Q E hr hsp=>?_
 obtain⟨t,h,q⟩:=hbody cdv A outer s H vs Q E hr hsp;exact⟨t,h.nox,q⟩
theorem xo.binds {x Rx:Str} {st:Rp} {f:Rh} {fd:FuncData} {ps:List Str} (F:xo K x Rx st f fd)
  (h:∀ (kV doc pm:Rg) (an:Ri Rh) (cdv ct:Rg) (us:List Rg),us.length=ps.length->bindArgs (PySem.W.fnOf x Rx (di st) (bL st) (aj st) .none kV doc pm an cdv ct) ⟨us,[]⟩=pure (ps.zip us)):ju K fd ps []:=by
 obtain⟨oc,od,kV,doc,pm,an,cdv,ct,osl,rfl,lk,hcd⟩:=F.ex;exact .all (h kV doc pm an cdv ct)
theorem vW {x Rx:Str} {st:Rp} {f:Rh} {oc:Rg} {od an:Ri Rh} {osl:Rq (Ri Rg)} {kV doc pm cdv ct:Rg} (l:K.lookup f=some ⟨oc,od,.func (PySem.W.fnOf x Rx (di st) (bL st) (aj st) .none kV doc pm an cdv ct),osl⟩)
  (c:PySem.W.codeIn K cdv Rx=true) (k:PySem.W.keepIn K (.ref f)=true):xo K x Rx st f (PySem.W.fnOf x Rx (di st) (bL st) (aj st) .none kV doc pm an cdv ct):=⟨⟨oc,od,kV,doc,pm,an,cdv,ct,osl,rfl,l,c⟩,k⟩
end
theorem BQ {n:Nat} (h:n<=1000):n < sizeLine:=Nat.lt_of_le_of_lt h (by decide)
theorem GN {A B:Prop} (h:B):if false=true then A else B:=by
 rw [if_neg P7];exact h
theorem ML {A B:Prop} (h:A):if true=true then A else B:=by
 rw [if_pos rfl];exact h
end L2
set_option linter.all false
namespace HM
theorem xJ (a b:Int):Int.gcd b (a.fmod b)=Int.gcd a b:=by
 have h:=Int.gcd_sub_mul_right_right b a (a.fdiv b);rw [Int.fmod_def,Int.mul_comm b,h,Int.gcd_comm]
theorem AC (a b:Int) (h:b≠0):(a.fmod b).natAbs < b.natAbs:=by
 rcases Int.lt_or_gt_of_ne h with hb | hb
 ·have e:a.fmod b=-((-a).fmod (-b)):=by rw [Int.neg_fmod_neg,Int.neg_neg]
  have h1:=QP (-a) (show 0 < -b by omega)
  have h2:=Q7 (-a) (show 0 < -b by omega)
  omega
 ·have h1:=QP a hb;have h2:=Q7 a hb;omega
theorem yd (a:Int):((Int.gcd a 0:Nat):Int)=if a < 0 then -a else a:=by
 rw [Int.gcd_zero_right]
 split <;> omega
def CW (t b:Int):Int:=if b < 0 then -((Int.gcd t b:Nat):Int) else((Int.gcd t b:Nat):Int)
theorem De {t b:Int} (h:b≠0):CW t b≠0:=by
 have h1:Int.gcd t b≠0:=λe=>h (Int.gcd_eq_zero_iff.mp e).2
 unfold CW
 split <;> omega
theorem oO {t b:Int} (h:b≠0):t.fdiv (CW t b)=(Rat.divInt t b).num:=by
 have hg:((Int.gcd t b:Nat):Int) ∣ t:=Int.gcd_dvd_left t b;rw [Rat.num_divInt,Int.gcd_comm b t];unfold CW;rcases Int.lt_or_gt_of_ne h with hb | hb
 ·rw [if_pos hb,Int.sign_eq_neg_one_of_neg hb,Int.fdiv_eq_ediv_of_dvd (Int.neg_dvd.mpr hg),Int.ediv_neg,Int.neg_mul,Int.one_mul,Int.neg_ediv_of_dvd hg]
 ·rw [if_neg (by omega),Int.sign_eq_one_of_pos hb,Int.fdiv_eq_ediv_of_dvd hg,Int.one_mul]
theorem pj {t b:Int} (h:b≠0):b.fdiv (CW t b)=((Rat.divInt t b).den:Int):=by
 have hg:((Int.gcd t b:Nat):Int) ∣ b:=Int.gcd_dvd_right t b;rw [Rat.den_divInt,Int.gcd_comm b t,if_neg h];unfold CW;rcases Int.lt_or_gt_of_ne h with hb | hb
 ·rw [if_pos hb,Int.fdiv_eq_ediv_of_dvd (Int.neg_dvd.mpr hg),Int.ediv_neg,Int.natCast_ediv];rw [show ((b.natAbs:Nat):Int)=-b by omega,Int.neg_ediv_of_dvd hg]
 ·rw [if_neg (by omega),Int.fdiv_eq_ediv_of_dvd hg,Int.natCast_ediv]
  rw [show ((b.natAbs:Nat):Int)=b by omega]
theorem Ek (a b:Rat):Rat.divInt (a.num*b.den+b.num*a.den) (a.den*b.den)=a+b:=by
 rw [Rat.add_def',Rat.mkRat_eq_div,QB]; simp [Rat.intCast_natCast]
theorem DU (a b:Rat):Rat.divInt (a.num*b.den - b.num*a.den) (a.den*b.den)=a - b:=by
 rw [Rat.sub_def',Rat.mkRat_eq_div,QB]; simp [Rat.intCast_natCast]
theorem Dd (a b:Rat):Rat.divInt (a.num*b.num) (a.den*b.den)=a*b:=by
 rw [Rat.mul_def',Rat.mkRat_eq_div,QB]; simp [Rat.intCast_natCast]
theorem E8 (a b:Rat):Rat.divInt (a.num*b.den) (a.den*b.num)=a / b:=by
 rw [Rat.div_def,<- Rat.num_divInt_den b,Rat.inv_divInt]
 conv=>rhs; rw [<- Rat.num_divInt_den a]
 rw [Rat.divInt_mul_divInt,Rat.num_divInt_den]
def j8:Nat->Nat
 | 0=>0
 | n+1=>if (j8 n+1)*(j8 n+1)<=n+1 then j8 n+1 else j8 n
theorem uT:∀ n,j8 n*j8 n<=n/\n < (j8 n+1)*(j8 n+1)
 | 0=>by decide
 | n+1=>by
  obtain⟨h1,h2⟩:=uT n;unfold j8
  split
  ·rename_i h
   refine⟨h,?_⟩;have:(j8 n+1+1)*(j8 n+1+1)=(j8 n+1)*(j8 n+1)+2*(j8 n+1)+1:=by grind
   omega
  ·rename_i h
   exact⟨Nat.le_succ_of_le h1,Nat.lt_of_not_le h⟩
def lh (n:Int):Int:=(j8 n.toNat:Nat)
structure Rt (n r:Int):Prop where
 nn:0<=r
 le:r*r<=n
 lt:n < (r+1)*(r+1)
theorem mv {n:Int} (h:0<=n):Rt n (lh n):=by
 obtain⟨h1,h2⟩:=uT n.toNat;refine⟨by unfold lh; omega,?_,?_⟩
 ·unfold lh;have:((j8 n.toNat*j8 n.toNat:Nat):Int)<=(n.toNat:Int):=Int.ofNat_le.mpr h1;rw [Int.natCast_mul] at this;omega
 ·unfold lh;have:((n.toNat:Nat):Int) < (((j8 n.toNat+1)*(j8 n.toNat+1):Nat):Int):=Int.ofNat_lt.mpr h2;rw [Int.natCast_mul,Int.natCast_add] at this;rw [show ((n.toNat:Nat):Int)=n by omega] at this
  exact this
theorem oV {a b:Int} (ha:0<=a) (h:a<=b):a*a<=b*b:=Int.mul_le_mul h h ha (by omega)
theorem Rt.le_of {n r x:Int} (h:Rt n r) (hx:x*x<=n):x<=r:=by
 apply Int.not_lt.mp;intro hl;have:=oV (a:=r+1) (b:=x) (by have:=h.nn; omega) (by omega)
 have:=h.lt;omega
theorem Rt.uniq {n r q:Int} (h:Rt n r) (h':Rt n q):r=q:=Int.le_antisymm (h'.le_of h.le) (h.le_of h'.le)
theorem E_ {n r:Int} (h:Rt n r):lh n=r:=(mv (Int.le_trans (by have:=oV (Int.le_refl 0) h.nn; omega) h.le)).uniq h
theorem FD {n x:Int} (e:x*x=n):lh n*lh n=n:=by
 have h:Rt n x.natAbs:=by
  refine⟨by omega,?_,?_⟩
  ·rw [Int.natAbs_mul_self' x]; omega
  ·have:((x.natAbs:Int)+1)*((x.natAbs:Int)+1)=(x.natAbs:Int)*(x.natAbs:Int)+2*x.natAbs+1:=by grind
   rw [Int.natAbs_mul_self' x] at this;omega
 rw [E_ h,Int.natAbs_mul_self' x];exact e
theorem Bx {n g r:Int} (hg:0 < g) (hr:0<=r) (h:r*r<=n):r<=(g+n / g) / 2:=by
 apply Int.not_lt.mp;intro hl;have h1:g+n / g+1<=2*r:=by omega
 have hn:0<=n:=by have:=oV (Int.le_refl 0) hr; omega
 have hq:0<=n / g:=Int.ediv_nonneg hn (by omega)
 have h2:=oV (a:=g+n / g+1) (b:=2*r) (by omega) h1
 have h3:n < (n / g+1)*g:=by
  have:=Int.lt_ediv_add_one_mul_self n hg;exact this
 have h4:0<=(g - (n / g+1))*(g - (n / g+1)):=by
  rw [<- Int.natAbs_mul_self' (g - (n / g+1))]; exact Int.natCast_nonneg _
 generalize n / g=q at*
 grind
theorem CD {n g r:Int} (hn:0<=n) (h:Rt n r) (hg:r < g):(g+n / g) / 2 < g:=by
 have h0:=h.nn;have h1:n / g < r+1:=by
  apply Int.ediv_lt_of_lt_mul (by omega)
  have:=h.lt;have h2:(r+1)*(r+1)<=(r+1)*g:=Int.mul_le_mul_of_nonneg_left (by omega) (by omega)
  omega
 omega
def Bt (n:Nat) (x:Int):Prop:=x.natAbs < 2 ^ n
theorem tI {m n:Nat} (h:m<=n):2 ^ m<=2 ^ n:=Nat.pow_le_pow_right (by decide) h
theorem Bt.mono {m n:Nat} {x:Int} (h:Bt m x) (hm:m<=n):Bt n x:=Qc h (tI hm)
theorem Bt.mul {m n:Nat} {x y:Int} (hx:Bt m x) (hy:Bt n y):Bt (m+n) (x*y):=by
 unfold Bt at*
 rw [QZ,Nat.pow_add];exact Nat.mul_lt_mul'' hx hy
theorem Bt.add {m n:Nat} {x y:Int} (hx:Bt m x) (hy:Bt n y):Bt (max m n+1) (x+y):=by
 have h1:=hx.mono (Nat.le_max_left m n);have h2:=hy.mono (Nat.le_max_right m n);unfold Bt at*
 have:=Int.natAbs_add_le x y;rw [Nat.pow_succ];omega
theorem Bt.neg {m:Nat} {x:Int} (hx:Bt m x):Bt m (-x):=by unfold Bt at *; omega
theorem Bt.sub {m n:Nat} {x y:Int} (hx:Bt m x) (hy:Bt n y):Bt (max m n+1) (x - y):=by
 rw [Int.sub_eq_add_neg]; exact hx.add hy.neg
theorem Bt.le {m:Nat} {x y:Int} (hx:Bt m x) (h:y.natAbs<=x.natAbs):Bt m y:=Nat.lt_of_le_of_lt h hx
structure Sz (n:Nat) (q:Rat):Prop where
 num:Bt n q.num
 den:Bt n q.den
theorem Sz.mono {m n:Nat} {q:Rat} (h:Sz m q) (hm:m<=n):Sz n q:=⟨h.num.mono hm,h.den.mono hm⟩
theorem aS:∀ a b:Int,(a.fdiv b).natAbs<=a.natAbs
 | .ofNat 0,b=>by
  have e:Int.fdiv (.ofNat 0) b=0:=Int.zero_fdiv b;rw [e]; exact QU _
 | .ofNat (k+1),.ofNat j=>Nat.div_le_self (k+1) j
 | .ofNat (k+1),.negSucc j=>Nat.succ_le_succ (Nat.div_le_self k (j+1))
 | .negSucc _,.ofNat 0=>QU _
 | .negSucc k,.ofNat (j+1)=>Nat.succ_le_succ (Nat.div_le_self k (j+1))
 | .negSucc k,.negSucc j=>Nat.div_le_self (k+1) (j+1)
theorem Sz.divInt {n:Nat} {t b:Int} (ht:Bt n t) (hb:Bt n b) (h:b≠0):Sz n (Rat.divInt t b):=
 ⟨by rw [<- oO h]; exact ht.le (aS _ _),by rw [<- pj h]; exact hb.le (aS _ _)⟩
theorem v_ (q:Rat):(q.den:Int)≠0:=by have:=q.den_nz; omega
theorem gO (p q:Rat):(p.den:Int)*q.den≠0:=Int.mul_ne_zero (v_ p) (v_ q)
theorem Sz.add {m n:Nat} {a b:Rat} (ha:Sz m a) (hb:Sz n b):Sz (m+n+1) (a+b):=by
 rw [<- Ek];refine .divInt ?_ ?_ (gO a b)
 ·exact((ha.num.mul hb.den).add (hb.num.mul ha.den)).mono (by omega)
 ·exact(ha.den.mul hb.den).mono (by omega)
theorem Sz.sub {m n:Nat} {a b:Rat} (ha:Sz m a) (hb:Sz n b):Sz (m+n+1) (a - b):=by
 rw [<- DU];refine .divInt ?_ ?_ (gO a b)
 ·exact((ha.num.mul hb.den).sub (hb.num.mul ha.den)).mono (by omega)
 ·exact(ha.den.mul hb.den).mono (by omega)
theorem Sz.mul {m n:Nat} {a b:Rat} (ha:Sz m a) (hb:Sz n b):Sz (m+n) (a*b):=by
 rw [<- Dd];exact .divInt (ha.num.mul hb.num) (ha.den.mul hb.den) (gO a b)
theorem yV {q:Rat} (h:q≠0):q.num≠0:=λe=>h (Rb.mp e)
theorem Sz.div {m n:Nat} {a b:Rat} (ha:Sz m a) (hb:Sz n b) (h:b≠0):Sz (m+n) (a / b):=by
 rw [<- E8];exact .divInt (ha.num.mul hb.den) (ha.den.mul hb.num) (Int.mul_ne_zero (v_ a) (yV h))
theorem Sz.neg {m:Nat} {a:Rat} (ha:Sz m a):Sz m (-a):=⟨by rw [Rat.neg_num]; exact ha.num.neg,by rw [Rat.neg_den]; exact ha.den⟩
theorem s_ (r:Rat):(r*r).num=r.num*r.num:=by
 have h:=Rat.num_pow r 2;rw [show r ^ 2=r*r by grind,show r.num ^ 2=r.num*r.num by grind] at h
 exact h
theorem wN (r:Rat):(r*r).den=r.den*r.den:=by
 have h:=Rat.den_pow r 2;rw [show r ^ 2=r*r by grind,show r.den ^ 2=r.den*r.den by grind] at h
 exact h
def ug (u:Rat):Prop:=∀ r:Rat,r*r≠u
theorem Jz {n:Int} (h:0<=n):lh n<=n:=by
 have rt:=mv h;have h0:=rt.nn;have h1:=rt.le;rcases Int.lt_or_le (lh n) 1 with h2 | h2
 ·omega
 ·have:lh n*1<=lh n*lh n:=Int.mul_le_mul_of_nonneg_left h2 h0;omega
theorem JG {n:Int} {m:Nat} (h:0<=n) (hb:Bt m n):Bt m (lh n):=hb.le (by have:=Jz h; have:=(mv h).nn; omega)
theorem Fv:lh 0=0:=by decide
structure Gd (n g:Int):Prop where
 pos:0 < g
 ge:lh n<=g
 bt:Bt 2002 g
theorem vg (a:Int) {b:Int} (h:0 < b):a.fdiv b=a / b:=Int.fdiv_eq_ediv_of_nonneg a (by omega)
theorem Gd.next {n g:Int} (h0:1<=n) (h:Gd n g) (hl:(g+n.fdiv g).fdiv 2 < g):Gd n ((g+n.fdiv g).fdiv 2):=by
 have rt:=mv (n:=n) (by omega)
 have r1:1<=lh n:=rt.le_of (by omega)
 rw [vg _ (by decide),vg _ h.pos] at hl ⊢
 have h1:=Bx h.pos rt.nn rt.le;exact⟨by omega,h1,h.bt.le (by have:=h.pos; omega)⟩
theorem Gd.last {n g:Int} (h0:1<=n) (h:Gd n g) (hl:¬ (g+n.fdiv g).fdiv 2 < g):g=lh n:=by
 have rt:=mv (n:=n) (by omega)
 rw [vg _ (by decide),vg _ h.pos] at hl
 have h1:=h.ge;rcases Int.lt_or_le (lh n) g with h2 | h2
 ·exact absurd (CD (by omega) rt h2) hl
 ·omega
theorem Gd.first {n:Int} {b:Nat} (h0:1<=n) (hn:n.natAbs < 2 ^ b) (hb:b<=4000):Gd n ((1:Int)*2 ^ ((((b:Nat):Int)+1).fdiv 2).toNat):=by
 have e:((((b:Nat):Int)+1).fdiv 2).toNat=(b+1) / 2:=by rw [vg _ (by decide)]; omega
 rw [e,Int.one_mul];have hp:(0:Int) < 2 ^ ((b+1) / 2):=Int.pow_pos (by decide)
 have rt:=mv (n:=n) (by omega)
 refine⟨hp,?_,?_⟩
 ·apply Int.not_lt.mp;intro hl;have h1:=oV (Int.le_of_lt hp) (Int.le_of_lt hl);have h2:=rt.le;have h3:(2:Int) ^ ((b+1) / 2)*2 ^ ((b+1) / 2)=2 ^ ((b+1) / 2+(b+1) / 2):=(Int.pow_add _ _ _).symm;have h4:2 ^ b<=2 ^ ((b+1) / 2+(b+1) / 2):=tI (by omega)
  have h5:((2 ^ ((b+1) / 2+(b+1) / 2):Nat):Int)=(2:Int) ^ ((b+1) / 2+(b+1) / 2):=by rw [Int.natCast_pow]; rfl
  have h6:((2 ^ b:Nat):Int)<=((2 ^ ((b+1) / 2+(b+1) / 2):Nat):Int):=Int.ofNat_le.mpr h4;have h7:(n.natAbs:Int) < ((2 ^ b:Nat):Int):=Int.ofNat_lt.mpr hn;rw [h3] at h1;rw [h5] at h6;omega
 ·unfold Bt;rw [Int.natAbs_pow];exact Nat.pow_lt_pow_right (by decide) (by omega)
abbrev uc (a:Int):Int:=if a < 0 then -a else a
theorem AI (a:Int):0<=uc a:=by unfold uc; split <;> omega
theorem jP (r:Rat):0<=r*r:=by
 rcases Rat.le_total (a:=0) (b:=r) with h | h
 ·exact Qo h h
 ·have:0<=-r:=by grind
  have:=Qo this this;grind
theorem xT (w:Rat):(w.num:Rat)=w*(w.den:Rat):=by
 have h:=Rat.num_divInt_den w;rw [QB,Rat.intCast_natCast] at h;have hd:(w.den:Rat)≠0:=by
  have:=w.den_nz;exact λe=>this (by exact_mod_cast e)
 grind
theorem Ag (w:Rat):(w.den:Rat)≠0:=by
 have:=w.den_nz;exact λe=>this (by exact_mod_cast e)
def ab (b:Rat):Rat:=if b < 0 then -b else b
theorem qB (b:Rat):0<=ab b:=by unfold ab; split <;> grind
theorem tY (b:Rat):ab b*ab b=b*b:=by unfold ab; split <;> grind
def ss (b:Rat):Rat:=b*ab b
theorem fK (q:Rat):q.num < 0↔q < 0:=by
 have:=Rat.num_nonneg (q:=q)
 constructor
 ·intro h;apply Rat.not_le.mp;intro h2;have:=this.mpr h2;omega
 ·intro h;apply Int.not_le.mp;intro h2;exact absurd (this.mp h2) (Rat.not_le.mpr h)
theorem Km (q:Rat):(ab q).num=uc q.num:=by
 unfold ab uc
 by_cases h:q < 0
 ·rw [if_pos h,if_pos ((fK q).mpr h),Rat.neg_num]
 ·rw [if_neg h,if_neg (λe=>h ((fK q).mp e))]
theorem I9 (q:Rat):(ab q).den=q.den:=by
 unfold ab
 split
 ·exact Rat.neg_den _
 ·rfl
theorem yK {x:Int} (h:0<=x):lh (x*x)=x:=E_ ⟨h,Int.le_refl _,by grind⟩
theorem mY {b u:Rat} (hu:0 < u):ss b*u=0↔b=0:=by
 unfold ss ab
 constructor
 ·intro h;have hu':u≠0:=by grind
  split at h <;> grind
 ·intro h;subst h;grind
theorem Mw {b u:Rat} (hu:0 < u):ab (ss b*u)=b*b*u:=by
 have h2:=jP b;have h3:=Qo h2 (Rat.le_of_lt hu);unfold ss
 by_cases h:b < 0
 ·have e:b*ab b*u=-(b*b*u):=by unfold ab; rw [if_pos h]; grind
  rw [e];have hp:0 < b*b*u:=by
   have h4:0 < -b:=by grind
   have h5:=Qu h4 h4;have h6:=Qu h5 hu;grind
  unfold ab;rw [if_pos (by grind)]
  grind
 ·have e:b*ab b*u=b*b*u:=by unfold ab; rw [if_neg h]
  rw [e];unfold ab;rw [if_neg (by grind)]
theorem yY {b u:Rat} (hu:0 < u):ss b*u < 0↔b < 0:=by
 have h2:=jP b;have h3:=Qo h2 (Rat.le_of_lt hu);unfold ss ab
 constructor
 ·intro h
  split at h
  ·assumption
  ·exfalso; grind
 ·intro h;rw [if_pos h];have h4:0 < -b:=by grind
  have h5:=Qu h4 h4;have h6:=Qu h5 hu;grind
theorem JU (a b:Rat):ss (a*b)=ss a*ss b:=by
 have e:ab (a*b)=ab a*ab b:=by
  unfold ab
  by_cases ha:a < 0 <;> by_cases hb:b < 0
  ·have:=Qu (show 0 < -a by grind) (show 0 < -b by grind)
   rw [if_neg (by grind),if_pos ha,if_pos hb]; grind
  ·rw [if_pos ha,if_neg hb]
   by_cases h0:b=0
   ·subst h0; grind
   ·have:=Qu (show 0 < -a by grind) (show 0 < b by grind)
    rw [if_pos (by grind)]; grind
  ·rw [if_neg ha,if_pos hb]
   by_cases h0:a=0
   ·subst h0; grind
   ·have:=Qu (show 0 < a by grind) (show 0 < -b by grind)
    rw [if_pos (by grind)]; grind
  ·have:=Qo (show 0<=a by grind) (show 0<=b by grind)
   rw [if_neg (by grind),if_neg ha,if_neg hb]
 unfold ss;rw [e];grind
theorem Cy (b:Rat):ss (-b)=-ss b:=by
 unfold ss ab
 by_cases h:b < 0
 ·rw [if_neg (by grind),if_pos h]; grind
 ·by_cases h0:b=0
  ·subst h0; grind
  ·rw [if_pos (by grind),if_neg h]; grind
theorem Cj {b:Rat} (h:0<=b):ss b=b*b:=by unfold ss ab; rw [if_neg (by grind)]
def sg (p q:Rat):Rat:=if q < 0 then -p else p
def Hi (q:Rat):Int:=if 0 < q then 1 else if q < 0 then -1 else 0
theorem w_ {q:Rat} (h:0 < q):Hi q=1:=if_pos h
theorem rC {q:Rat} (h:q < 0):Hi q=-1:=by unfold Hi; rw [if_neg (by grind),if_pos h]
theorem NL (q:Rat):0 < q\/q < 0\/q=0:=by
 rcases Rat.le_total (a:=0) (b:=q) with h | h
 ·by_cases e:q=0
  ·exact .inr (.inr e)
  ·exact .inl (by grind)
 ·by_cases e:q=0
  ·exact .inr (.inr e)
  ·exact .inr (.inl (by grind))
def Ab (a b u:Rat):Int:=if 0 < a*a - b*b*u then Hi a else Hi b
theorem rS {x y:Rat} (hx:0<=x) (hy:0<=y):0<=x / y:=by
 by_cases h:y=0
 ·subst h;rw [show x / 0=0 by grind]
  exact Rat.le_refl
 ·apply Rat.not_lt.mp;intro hl;have h1:=Qu (show 0 < -(x / y) by grind) (show 0 < y by grind)
  have h2:x / y*y=x:=by grind
  grind
theorem n9:ss 0=0:=by unfold ss; grind
theorem zj {q:Rat} (h:0<=q):0<=q.num:=Rat.num_nonneg.mpr h
theorem nU {q r:Rat} (h0:0<=r) (e:r*r=q):lh q.num=r.num/\lh (q.den:Int)=(r.den:Int):=by
 subst e;rw [s_,wN];refine⟨yK (zj h0),?_⟩;rw [Int.natCast_mul];exact yK (by omega)
theorem zB {q:Rat} (h0:0<=q) (s1:lh q.num*lh q.num=q.num) (s2:lh (q.den:Int)*lh (q.den:Int)=(q.den:Int)):∃ r:Rat,0<=r/\r*r=q:=by
 have n1:=(mv (zj h0)).nn;have n2:=(mv (n:=(q.den:Int)) (by omega)).nn
 generalize lh q.num=x at s1 n1
 generalize lh (q.den:Int)=y at s2 n2
 have t1:(x:Rat)*x=(q.num:Rat):=by
  have:=congrArg (λz:Int=>(z:Rat)) s1
  simpa [P2] using this
 have t2:(y:Rat)*y=(q.den:Rat):=by
  have:=congrArg (λz:Int=>(z:Rat)) s2
  simpa [P2,Rat.intCast_natCast] using this
 have hd:=Ag q;have hy0:(y:Rat)≠0:=by intro e; rw [e] at t2; exact hd (by grind)
 have hwn:=xT q;have x0:(0:Rat)<=x:=by exact_mod_cast n1
 have y0:(0:Rat)<=y:=by exact_mod_cast n2
 refine⟨(x:Rat) / y,?_,by grind⟩
 exact rS x0 y0
theorem qy {e:Rat} (h:e≠0):ab e≠0:=by unfold ab; split <;> grind
theorem EK {e:Rat} (h:e≠0):0 < ab e:=by have:=qB e; have:=qy h; grind
theorem LA {r s:Rat} (hr:0<=r) (hs:0<=s) (e:r*r=s*s):r=s:=by
 by_cases h:r+s=0
 ·grind
 ·have:(r - s)*(r+s)=0:=by grind
  grind
theorem y9 {b e u r:Rat} (u0:0 < u) (he:e≠0) (hr:0<=r) (h:r*r=(b*b*u) / (e*e*u)):r=ab b / ab e:=by
 have u1:u≠0:=by grind
 have e1:=tY e;have b1:=tY b;have e2:=qy he;apply LA hr (rS (qB b) (qB e));rw [h];have:ab b / ab e*(ab b / ab e)=(ab b*ab b) / (ab e*ab e):=by grind
 rw [this,e1,b1];grind
theorem rR {b e u:Rat} (u0:0 < u) (he:e≠0):(ab b / ab e)*(ab b / ab e)=(b*b*u) / (e*e*u):=by
 have u1:u≠0:=by grind
 have e1:=tY e;have b1:=tY b;have e2:=qy he;have:ab b / ab e*(ab b / ab e)=(ab b*ab b) / (ab e*ab e):=by grind
 rw [this,e1,b1];grind
theorem EN {b e u:Rat} (u0:0 < u):sg (ab b / ab e) (ss b*u)=b / ab e:=by
 unfold sg
 by_cases h:b < 0
 ·rw [if_pos ((yY u0).mpr h)];unfold ab;rw [if_pos h];grind
 ·rw [if_neg (λz=>h ((yY u0).mp z))]
  unfold ab;rw [if_neg h]
theorem KJ {x y:Rat} (hy:0 < y):ss (x / y)=ss x / (y*y):=by
 have h1:x / y=x*(1 / y):=by grind
 have h2:0<=1 / y:=rS (by decide) (Rat.le_of_lt hy)
 rw [h1,JU,Cj h2];grind
theorem Bk {x e u:Rat} (he:e≠0):ss (x / ab e)*(e*e*u)=ss x*u:=by
 have e1:=tY e;rw [KJ (EK he),e1];grind
theorem E9 (p base:Rat):sg (p*p*base) p=ss p*base:=by
 unfold sg ss ab
 by_cases h:p < 0
 ·rw [if_pos h,if_pos h]; grind
 ·rw [if_neg h,if_neg h]
def pick (b d:Rat):Rat:=if b=0 then d else b
theorem Dx {b d:Rat}:b=0\/pick b d≠0:=by
 unfold pick
 by_cases h:b=0
 ·exact .inl h
 ·rw [if_neg h]; exact .inr h
theorem Ea {b d:Rat}:d=0\/pick b d≠0:=by
 unfold pick
 by_cases h:b=0
 ·rw [if_pos h]
  by_cases h2:d=0
  ·exact .inl h2
  ·exact .inr h2
 ·rw [if_neg h]; exact .inr h
theorem pV {b d:Rat} (h:pick b d=0):b=0/\d=0:=by
 unfold pick at h
 by_cases h2:b=0
 ·rw [if_pos h2] at h; exact⟨h2,h⟩
 ·rw [if_neg h2] at h; exact absurd h h2
theorem Bu {b d u:Rat}:ss (b / ab (pick b d)+d / ab (pick b d))*(pick b d*pick b d*u)=ss (b+d)*u:=by
 by_cases h:pick b d=0
 ·obtain⟨rfl,rfl⟩:=pV h;rw [h];have:ss ((0:Rat)+0)=0:=by rw [show (0:Rat)+0=0 by grind]; exact n9
  rw [this];grind
 ·rw [<- Bk (x:=b+d) h]
  congr 2
  have:=qy h;grind
theorem Aj {a b c d u:Rat}:a*c+(b / ab (pick b d))*(d / ab (pick b d))*(pick b d*pick b d*u)=a*c+b*d*u:=by
 by_cases h:pick b d=0
 ·obtain⟨rfl,rfl⟩:=pV h;rw [h];grind
 ·have e1:=tY (pick b d);have e2:=qy h;rw [<- e1];grind
theorem Ah {a b c d u:Rat}:ss (a*(d / ab (pick b d))+c*(b / ab (pick b d)))*(pick b d*pick b d*u)=ss (a*d+b*c)*u:=by
 by_cases h:pick b d=0
 ·obtain⟨rfl,rfl⟩:=pV h;rw [h,show a*(0 / ab (0:Rat))+c*(0 / ab 0)=0 by grind,show a*0+0*c=0 by grind,n9]
  grind
 ·rw [<- Bk (x:=a*d+b*c) h]
  congr 2
  have:=qy h;grind
theorem si {b u:Rat} (u0:0 < u):ab (ss b*u)=b*b*u:=Mw u0
theorem Sz.ab {n:Nat} {q:Rat} (h:Sz n q):Sz n (HM.ab q):=by
 unfold HM.ab
 split
 ·exact h.neg
 ·exact h
theorem Sz.ss {n:Nat} {q:Rat} (h:Sz n q):Sz (n+n) (HM.ss q):=h.mul h.ab
theorem Sz.sg {n:Nat} {p q:Rat} (h:Sz n p):Sz n (HM.sg p q):=by
 unfold HM.sg
 split
 ·exact h.neg
 ·exact h
theorem Sz.zero:Sz 1 0:=⟨by show(0:Int).natAbs < 2 ^ 1; decide,by show((1:Nat):Int).natAbs < 2 ^ 1; decide⟩
theorem Sz.pick {n:Nat} {b d:Rat} (hb:Sz n b) (hd:Sz n d):Sz n (HM.pick b d):=by
 unfold HM.pick
 split
 ·exact hd
 ·exact hb
theorem Sz.div' {m n:Nat} {a b:Rat} (ha:Sz m a) (hb:Sz n b):Sz (m+n+1) (a / b):=by
 by_cases h:b=0
 ·subst h;rw [show a / 0=0 by grind]
  exact Sz.zero.mono (by omega)
 ·exact(ha.div hb h).mono (by omega)
theorem JK {b u:Rat} (u0:0 < u):Hi (ss b*u)=Hi b:=by
 rcases NL b with h | h | h
 ·have:=Qu (Qu h (EK (show b≠0 by grind))) u0
  unfold ss;rw [w_ h,w_ this]
 ·rw [rC h,rC ((yY u0).mpr h)]
 ·subst h;rw [n9,show(0:Rat)*u=0 by grind]
end HM
namespace L2
open PySem PySem.Spec PyProof.Rows
theorem xi (elt target iter:Rj) (scope:Scope) (pos:Pos) (it acc:Rg) (env:Env):
  compTurn (.ListComp elt [⟨target,iter,[],0⟩] scope pos) 0 it acc env=(standAt iter.pos >>= λ_=>pyNext it >>= λr=>match r with
   | none=>pure (.done .next)
   | some v=>letOwnedTupleGo target it v >>= λ_=>assign target env v >>= λ_=>
    (eval elt env >>= λx=>call (.builtin "list.append") [acc,x] >>= λ_=>pure ()) >>= λ_=>
     again (.compLoop (.ListComp elt [⟨target,iter,[],0⟩] scope pos) 0 it acc env)):=by rfl
section
variable {prog:Rk} {w:Rn} {A:Rm} {R:Result->Rf->Prop} {s:Rf}
abbrev qH:Rg->Rf->Prop:=λ_ _=>False
theorem F' {α:Type} {M:Model} {A:Rm} {t:Sem α} {Q:α->Rf->Prop} {E:Rg->Rf->Prop} {s:Rf} (h:wpAny M A t Q qH s):wpAny M A t Q E s:=QD h (λ_ _ q=>q) λ_ _ z=>z.elim
theorem wW {elt target iter:Rj} {scope:Scope} {pos:Pos} {it acc:Rg} {env:Env} (I:Nat->Rf->Prop)
  (turn:∀ n s,I n s->wpAny (model prog w) A (pyNext it) (λr s1=>match r with
   | none=>R (.ok .next) s1
   | some v=>wpAny (model prog w) A (letOwnedTupleGo target it v) (λ_ s2=>wpAny (model prog w) A (assign target env v) (λ_ s3=>wpAny (model prog w) A (eval elt env) (λx s4=>
     wpAny (model prog w) A (call (.builtin "list.append") [acc,x]) (λ_ s5=>∃ m,m < n/\I m s5) qH s4) qH s3) qH s2) qH s1) qH s)
  (n:Nat) (h:I n s):codeAny (model prog w) A (.compLoop (.ListComp elt [⟨target,iter,[],0⟩] scope pos) 0 it acc env) R s:=by
 refine codeAny_loop rfl I (λn s hI=>?_) n h
 show wpAny _ _ ((compTurn (.ListComp elt [⟨target,iter,[],0⟩] scope pos) 0 it acc env).onRaise (λx=>do noteFrame x env; theTreesLotGoes x)) _ _ s
 refine wpAny_noted ?_;rw [xi];refine gt (wpAny_standAt (gt (F' (QD (turn n s hI) (λr s1 h1=>?_) λ_ _ z=>z))))
 cases r with
 | none=>exact P0 h1
 | some v=>
  exact gt (F' (cu h1 λ_ s2 h2=>gt (F' (cu h2 λ_ s3 h3=>gt (gt (F' (cu h3 λx s4 h4=>gt (F' (cu h4 λ_ s5 h5=>P0 (P0 ⟨rfl,h5⟩))))))))))
theorem qO {M:Model} {A:Rm} {E:Rg->Rf->Prop} {c:Rj} {env:Env} {Q:Rr->Rf->Prop} {s:Rf} (h:wpAny M A (PySem.isTrue c env (eval c env)) Q E s):
  wpAny M A (forIn [c] true λc r=>if r=true then do let ok <- PySem.isTrue c env (eval c env); pure (ForInStep.yield ok) else pure (ForInStep.yield r)) Q E s:=by
 rw [List.forIn_cons];refine gt ?_;rw [if_pos rfl];refine gt (cu h λok s1 q=>P0 ?_)
 show wpAny M A (forIn [] ok _) Q E s1
 rw [List.forIn_nil];exact P0 q
theorem xl {elt target iter c:Rj} {scope:Scope} {pos:Pos} {it acc:Rg} {env:Env} (I:Nat->Rf->Prop)
  (turn:∀ n s,I n s->wpAny (model prog w) A (pyNext it) (λr s1=>match r with
   | none=>R (.ok .next) s1
   | some v=>wpAny (model prog w) A (letOwnedTupleGo target it v) (λ_ s2=>wpAny (model prog w) A (assign target env v) (λ_ s3=>wpAny (model prog w) A (isTrue c env (eval c env)) (λb s3'=>
     if b=true then wpAny (model prog w) A (eval elt env) (λx s4=>wpAny (model prog w) A (call (.builtin "list.append") [acc,x]) (λ_ s5=>∃ m,m < n/\I m s5) qH s4) qH s3'
     else ∃ m,m < n/\I m s3') qH s3) qH s2) qH s1) qH s)
  (n:Nat) (h:I n s):codeAny (model prog w) A (.compLoop (.ListComp elt [⟨target,iter,[c],0⟩] scope pos) 0 it acc env) R s:=by
 refine codeAny_loop rfl I (λn s hI=>?_) n h
 show wpAny _ _ ((compTurn (.ListComp elt [⟨target,iter,[c],0⟩] scope pos) 0 it acc env).onRaise (λx=>do noteFrame x env; theTreesLotGoes x)) _ _ s
 refine wpAny_noted ?_;rw [compTurn_list];refine gt (wpAny_standAt (gt (F' (QD (turn n s hI) (λr s1 h1=>?_) λ_ _ z=>z))))
 cases r with
 | none=>exact P0 h1
 | some v=>
  refine gt (F' (cu h1 λ_ s2 h2=>gt (F' (cu h2 λ_ s3 h3=>gt (qO (F' (cu h3 λb s3' h3'=>?_)))))))
  cases b with
  | true=>
   rw [if_pos rfl] at h3' ⊢;exact gt (gt (F' (cu h3' λx s4 h4=>gt (F' (cu h4 λ_ s5 h5=>P0 (P0 ⟨rfl,h5⟩))))))
  | false=>
   rw [if_neg P7] at h3' ⊢;exact P0 ⟨rfl,h3'⟩
end
def qG (X:Cx) (scope:Scope) (cl:List (Str×Rh)) (N:List Str) (s0:Rf) (H0:Hp) (ex:List Rh) (C:Rh):Cx where
 prog:=X.prog
 w:=X.w
 K:=X.K
 mg:=X.mg
 base:=X.base
 A:=X.A
 N:=N
 s₀:=s0
 H₀:=H0
 env:=compEnvC scope cl C X.env
 outer:=X.stack
 stack:=X.stack
 ex:=ex
 fn:=λ_=>false
 calm:=X.calm
 pn:=[]
 xe:=qH
structure oi (X:Cx) (scope:Scope) (cl:List (Str×Rh)) (N:List Str) (cap:List (Ri Nat)):Prop where
 kind:scope.kind=.function
 clos:closureFor scope X.env=pure cl
 nocell:(scope.names.all λy=>y.2 != NameKind.cell)=true
 names:(scope.names.all λy=>y.2 != NameKind.local || scope.names.lookup y.1 == some NameKind.local)=true
 sub:∀ p∈cl,X.env.cells.lookup p.1=some p.2
 has:((relabel scope X.env).names.all λy=>(y.2 != NameKind.cell && y.2 != NameKind.free) || (cl.lookup y.1).isSome)=true
 len:cap.length=N.length
 caps:∀ (i j:Nat) (x:Str),cap[i]?=some (some j)->N[i]?=some x->X.N[j]?=some x/\(X.env.scope.names.lookup x=some .cell\/X.env.scope.names.lookup x=some .free)/\((relabel scope X.env).names.lookup x=some .cell\/(relabel scope X.env).names.lookup x=some .free)
def oC (cap:List (Ri Nat)) (σ:St):St:=cap.map λo=>match o with
 | some j=>(σ[j]?).join
 | none=>none
theorem Bv {cap:List (Ri Nat)} {σ:St} {i:Nat} {v:V} (h:(oC cap σ)[i]?=some (some v)):∃ j,cap[i]?=some (some j)/\σ[j]?=some (some v):=by
 unfold oC at h;rw [Qt] at h;cases e:cap[i]? with
 | none=>rw [e] at h; cases h
 | some o=>
  rw [e] at h;cases o with
  | none=>cases h
  | some j=>
   refine⟨j,rfl,?_⟩;have h:(σ[j]?).join=some v:=Qx h;cases e2:σ[j]? with
   | none=>rw [e2] at h; cases h
   | some q=>rw [e2] at h; exact congrArg some h
theorem gJ {X:Cx} {cl:List (Str×Rh)} (h:∀ p∈cl,X.env.cells.lookup p.1=some p.2) {x:Str} {c:Rh} (e:cl.lookup x=some c):X.env.cells.lookup x=some c:=h (x,c) (QI e)
theorem yQ {X:Cx} {scope:Scope} {cl:List (Str×Rh)} {N:List Str} {cap:List (Ri Nat)} (Sc:oi X scope cl N cap) {Rw:List (Rh×Rv)} {σ:St} {H:Hp} {s:Rf} {fp:List Rh} (I:aC X Rw σ H s)
  (hf:∀ b∈fp,qY X Rw H b) (ho:∀ b∈fp,∃ o,s.heap.get? b=some o) {h1 h1':Ro} {m:Str->Ri Rg} {tk:Nat} {ob:Rv}
  (hD:s.heap.push {cls:=.type "list",data:=.seq ([]:List Rg).toArray}=h1') (hns:h1.Ns h1'.objs.size m) (hsb:Heap.SameBut h1'.objs.size (h1'.push ob) h1):
  aC (qG X scope cl N {s with heap:=h1'} (bS H s.heap.objs.size (.lst [])) fp h1'.objs.size) [] (oC cap σ) (bS H s.heap.objs.size (.lst [])) {s with heap:=h1,toks:=tk}/\
   Un (ic X.stack) fp H (bS H s.heap.objs.size (.lst [])) s.heap h1':=by
 have hC:h1'.objs.size=s.heap.objs.size+1:=by rw [<- hD,QW]
 have k1:∀ b o,s.heap.get? b=some o->h1'.get? b=some o:=λb o e=>by rw [<- hD]; exact PZ _ e
 have k2:∀ b o,h1'.get? b=some o->h1.get? b=some o:=λb o e=>(hsb.2 b (P_ (P3 e))).trans (PZ _ e)
 have hHn:H s.heap.objs.size=none:=I.hok.fresh (P4 _);have neD:∀ b o,s.heap.get? b=some o->b≠s.heap.objs.size:=λb o e=>P_ (P3 e)
 have un1:Un (ic X.stack) fp H (bS H s.heap.objs.size (.lst [])) s.heap h1':=Un.laid k1 (P4 _) hHn;have new:dY X.prog X.w (bS H s.heap.objs.size (.lst [])) h1' s.heap.objs.size (.lst []):=⟨QU _,[],0,.nil,by rw [<- hD]; exact P1 _ rfl⟩
 have hok1:mL X.prog X.w (bS H s.heap.objs.size (.lst [])) h1':=I.hok.laid k1 (P4 _) new;have fsub:∀ b∈fp,b∉ic X.stack:=λb hb z=>by
  obtain⟨_,f1,f2,_⟩:=hf b hb;rcases P9.mp (I.stkSub b z) with e | e
  ·exact f1 e
  ·exact f2 e
 have cellK:∀ x c,cl.lookup x=some c->∃ v,s.heap.IsCell c v:=λx c e=>I.cell x c (gJ Sc.sub e)
 refine⟨⟨⟨I.ok.mod,?_,I.ok.glob,I.ok.blt,P4 _,λx y c e1 e2=>I.ok.inj x y c (gJ Sc.sub e1) (gJ Sc.sub e2),λx hx=>?_,λx c z=>(by cases z),I.ok.hd,I.ok.frames,.inl rfl,λb hb=>⟨?_,λx c e=>?_⟩,λb o e=>⟨?_,?_⟩,?_,λb o e hb=>?_,fsub,?_,λb hb=>?_⟩,
  rfl,I.bare,Un.kept k2,⟨m,hns,λi x v e1 e2 e3=>?_⟩,λx c e=>?_,?_,λx c e=>?_,λp hp=>absurd hp (by simp [qG]),hok1.kept k2,?_⟩,un1⟩
 ·exact Sc.kind
 ·have hx:(relabel scope X.env).names.lookup x=some .cell\/(relabel scope X.env).names.lookup x=some .free:=hx;have ha:=QX.mp Sc.has
  show ∃ c,cl.lookup x=some c
  rcases hx with hx | hx
  ·have:=ha _ (QI hx);exact Q_.mp (by simpa using this)
  ·have:=ha _ (QI hx);exact Q_.mp (by simpa using this)
 ·obtain⟨o,e⟩:=ho b hb;have:=P3 e
  show b≠h1'.objs.size
  rw [hC];exact P_ (Nat.lt_succ_of_lt this)
 ·exact(hf b hb).2.2.2.2.1 x c (gJ Sc.sub e)
 ·exact k1 b o (I.bk b o e)
 ·show bS H s.heap.objs.size (.lst []) b=none
  rw [aF (neD b o (I.bk b o e))];exact(I.bs b o e).2
 ·show X.base.objs.size<=h1'.objs.size
  rw [hC];exact Nat.le_succ_of_le (QF I.ok.bsz I.sz)
 ·obtain⟨_,_,_,f3,_⟩:=hf b hb;rcases f3 with f3 | f3
  ·exact I.ok.noex b o e f3
  ·have q1:=P3 e;have q2:=I.ok.bsz;exact absurd (Qc q1 (QF q2 f3)) (QV _)
 ·exact I.stack.of_keeps λb o e _=>⟨o,k1 b o e,rfl⟩
 ·show bS H s.heap.objs.size (.lst []) b=none
  obtain⟨_,o,e,_⟩:=I.stack.mem hb;rw [aF (neD b o e)];exact I.stkFree b hb
 ·obtain⟨j,c1,c2⟩:=Bv e2;obtain⟨d1,d2,d3⟩:=Sc.caps i j x c1 e1;obtain⟨m0,_,l0⟩:=I.loc;obtain⟨u,ru,lk⟩:=l0 j x v d1 c2 (d2.elim (λz=>.inr (.inl z)) λz=>.inr (.inr z))
  refine⟨u,ru,.inr ⟨d3,?_⟩⟩;rcases lk with ⟨z,_⟩ | ⟨_,c,z1,z2⟩
  ·have z:X.env.scope.names.lookup x=some .local:=z;rcases d2 with q | q <;> (rw [q] at z; cases z)
  ·have ha:=QX.mp Sc.has;have hs:∃ c',cl.lookup x=some c':=by
    rcases d3 with q | q
    ·exact Q_.mp (by simpa using ha _ (QI q))
    ·exact Q_.mp (by simpa using ha _ (QI q))
   obtain⟨c',q⟩:=hs;have q2:=gJ Sc.sub q;rw [z1] at q2;cases q2;obtain⟨o,e,d⟩:=z2;exact⟨c,q,o,k2 _ _ (k1 _ _ e),d⟩
 ·obtain⟨v,o,e1,d⟩:=cellK x c e;exact⟨v,o,k2 _ _ (k1 _ _ e1),d⟩
 ·show bS H s.heap.objs.size (.lst []) h1'.objs.size=none
  rw [hC,aF (Nat.succ_ne_self _)];exact I.hok.fresh (Nat.le_succ _)
 ·obtain⟨v,o,e1,d⟩:=cellK x c e
  show bS H s.heap.objs.size (.lst []) c=none
  rw [aF (neD c o e1)];exact I.freeC x c (gJ Sc.sub e)
 ·show(oC cap σ).length=N.length
  unfold oC;rw [P6];exact Sc.len
def Iq (cap:List (Ri Nat)) (wi:TI) (g:TG) (te:TE):TE:=fun σ H Q=>wi σ H λJ H1=>∀ D,H1 D=none->∃ W:Nat->Nat->St->Hp->Prop,(∃ m,W 0 m (oC cap σ) (bS H1 D (.lst [])))/\∀ i m σ' H',W i m σ' H'->
 (J.stop i H'/\Q (.ref D) H')\/(J.go i H'/\∃ N:St->Hp->Prop,(∀ σ2 H2,N σ2 H2->∃ m',m' < m/\W (i+1) m' σ2 H2)/\∀ x H2,J.yld i H' x H2->g x σ' H2 fun σ3 H3=>te σ3 H3 λv H4=>∃ ys,H4 D=some (.lst ys)/\ys.length < sizeLine/\N σ3 (bS H4 D (.lst (ys++[v]))))
def G5 (cap:List (Ri Nat)) (wi:TI) (g:TG) (tc:TT) (te:TE):TE:=fun σ H Q=>wi σ H λJ H1=>∀ D,H1 D=none->∃ W:Nat->Nat->St->Hp->Prop,(∃ m,W 0 m (oC cap σ) (bS H1 D (.lst [])))/\∀ i m σ' H',W i m σ' H'->
 (J.stop i H'/\Q (.ref D) H')\/(J.go i H'/\∃ N:St->Hp->Prop,(∀ σ2 H2,N σ2 H2->∃ m',m' < m/\W (i+1) m' σ2 H2)/\∀ x H2,J.yld i H' x H2->g x σ' H2 fun σ3 H3=>tc σ3 H3 λb H3'=>if b=true then te σ3 H3' λv H4=>∃ ys,H4 D=some (.lst ys)/\ys.length < sizeLine/\N σ3 (bS H4 D (.lst (ys++[v]))) else N σ3 H3')
section
variable {X:Cx} {elt tg iter c:Rj} {scope:Scope} {cl:List (Str×Rh)} {N:List Str} {cap:List (Ri Nat)} {pos:Pos} {wi:TI} {g:TG} {te:TE} {tc:TT}
theorem xP (Sc:oi X scope cl N cap) {Rw:List (Rh×Rv)} {σ σ3:St} {H2 H3:Hp} {s2 s4:Rf} {fp:List Rh} {h1':Ro} {C:Rh} (I2:aC X Rw σ H2 s2) (f2:∀ b∈fp,qY X Rw H2 b) {H1:Hp}
  (un3:Un (ic X.stack) fp H2 H1 s2.heap h1') (I4:aC (qG X scope cl N {s2 with heap:=h1'} H1 fp C) [] σ3 H3 s4) {h':Ro} (hC:s2.heap.objs.size<=C) (sb:Heap.SameBut C s4.heap h'):aC X Rw σ H3 {s4 with heap:=h'}:=by
 have u:Un (ic X.stack) fp H2 H3 s2.heap s4.heap:=un3.trans I4.base;have ne:∀ b o,s2.heap.get? b=some o->b≠C:=λb o e=>P_ (Qc (P3 e) hC)
 have u':Un (ic X.stack) fp H2 H3 s2.heap h':=⟨λb o e n hb hx=>(sb.2 b (ne b o e)).trans (u.keep b o e n hb hx),λb o e n hb hx=>by
   obtain⟨sl,q⟩:=u.slot b o e n hb hx;exact⟨sl,(sb.2 b (ne b o e)).trans q⟩,u.free,λb o e hx=>by
   obtain⟨o',q⟩:=u.there b o e hx;exact⟨o',(sb.2 b (ne b o e)).trans q⟩,u.tups,u.frzs,u.tbls⟩
 have hok:mL X.prog X.w H3 h':=λb ob e=>by
  refine(I4.hok b ob e).stay (λc w' hc q=>(sb.2 c ?_).trans q) (λ_ q=>q) λ_ _ q=>q
  rintro rfl;have hfree:H3 c=none:=I4.free;rcases hc with rfl | hc
  ·rw [hfree] at e; cases e
  ·rw [hfree] at hc; cases hc
 refine I2.call' (s':={s4 with heap:=h'}) (ch:=fp) I4.os u' hok I4.bare λb hb=>?_
 obtain⟨_,f1,_,f3,f4,f5⟩:=f2 b hb;exact⟨f3,f1,f4,f5⟩
theorem mO {s0:Rf} {H0:Hp} {C:Rh} {fp:List Rh} {σ:St} {H:Hp} {s:Rf} (I:aC (qG X scope cl N s0 H0 fp C) [] σ H s) (hn:∀ b∈fp,H b=none):∀ b∈fp,qY (qG X scope cl N s0 H0 fp C) [] H b:=λb hb=>
 ⟨hn b hb,(I.ok.exf b hb).1,I.ok.exfs b hb,.inl hb,(I.ok.exf b hb).2,λp hp=>absurd hp (by simp [qG])⟩
theorem G4 (hc:X.calm=true) (Sc:oi X scope cl N cap) (hi:PI X tg iter wi) (hg:∀ s0 H0 ex C,PG (qG X scope cl N s0 H0 ex C) tg g) (he:∀ s0 H0 ex C,PE (qG X scope cl N s0 H0 ex C) elt te)
  (hs:∀ x,foldedSetIterable iter X.env x=pure x:=by intro _; rfl):PE X (.ListComp elt [⟨tg,iter,[],0⟩] scope pos) (Iq cap wi g te):=by
 intro Rw s σ H Q I h;rw [eval_ListComp];have hcell:∀ y∈scope.names,y.2≠.cell:=λy hy=>by simpa using QX.mp Sc.nocell y hy
 have hnames:∀ y∈scope.names,y.2=.local->scope.names.lookup y.1=some .local:=λy hy e=>by
  have:=QX.mp Sc.names y hy;rw [e] at this
  simpa using this
 refine wpAny_comprehension_free (use:=none) rfl hs Sc.clos Sc.kind hnames (cu (hi Rw s σ H _ I h) λv s1 h1=>cu h1 λitv s2 h2=>?_)
 obtain⟨it,fp,tn,J,H2,e,I2,T,st2,f2,hW⟩:=h2;subst e;refine Qs (wpAny_newFunctionEnv hcell (by intro y hy; simp at hy) (λh1 hns hsb=>?_) Sc.kind)
 obtain⟨W,⟨m0,w0⟩,turn⟩:=hW s2.heap.objs.size I2.fresh;dsimp only at hns hsb ⊢
 generalize hD:s2.heap.push {cls:=.type "list",dict:=none,data:=.seq ([]:List Rg).toArray}=h1' at hns hsb ⊢
 obtain⟨I3,un3⟩:=yQ (tk:=s2.toks+([]:List (Str×Rg)).length) Sc I2 f2 (λb hb=>let ⟨o,e,_⟩:=T.obj 0 _ st2 b hb; ⟨o,e⟩) hD hns hsb
 have hC:s2.heap.objs.size<=h1'.objs.size:=by rw [<- hD,QW]; exact Nat.le_succ _
 have k1:∀ b o,s2.heap.get? b=some o->h1.get? b=some o:=λb o e=>by
  have e1:h1'.get? b=some o:=by rw [<- hD]; exact PZ _ e
  exact(hsb.2 b (P_ (P3 e1))).trans (PZ _ e1)
 have st3:tn 0 h1:=T.keep 0 _ _ st2 λb _ o e=>k1 b o e
 have fr3:∀ b∈fp,(bS H2 s2.heap.objs.size (.lst [])) b=none:=λb hb=>by
  obtain⟨o,e,_⟩:=T.obj 0 _ st2 b hb;rw [aF (P_ (P3 e))];exact(f2 b hb).1
 have loop:∀ s3:Rf,s3={s2 with heap:=h1,toks:=s2.toks+([]:List (Str×Rg)).length}->
   codeAny (model X.prog X.w) X.A (.compLoop (.ListComp elt [⟨tg,iter,[],0⟩] scope pos) 0 (.ref it) (.ref s2.heap.objs.size) (compEnvC scope cl h1'.objs.size X.env))
    (compPost (model X.prog X.w) X.A X.xe none (EP X Rw σ Q) (.ref s2.heap.objs.size) h1'.objs.size) s3:=by
  rintro s3 rfl;refine wW (λn s'=>∃ i σ' H',aC (qG X scope cl N {s2 with heap:=h1'} (bS H2 s2.heap.objs.size (.lst [])) fp h1'.objs.size) [] σ' H' s'/\tn i s'.heap/\(∀ b∈fp,H' b=none)/\W i n σ' H') ?_ m0 ⟨0,_,_,I3,st3,fr3,w0⟩
  rintro n s3 ⟨i,σ3,H3,I3,st3,fr3,w3⟩;rcases turn i n σ3 H3 w3 with ⟨stop,qn⟩ | ⟨go,Nn,hN,step⟩
  ·refine cu (T.done (qG X scope cl N {s2 with heap:=h1'} (bS H2 s2.heap.objs.size (.lst [])) fp h1'.objs.size) rfl rfl rfl hc i [] s3 σ3 H3 qH I3 (mO I3 fr3) st3 stop) λr s4 z9=>?_
   obtain⟨hr,I4⟩:=z9;subst hr;obtain⟨m,hm,_⟩:=I4.loc;exact⟨m,hm,λh' sb=>⟨.ref _,H3,xP Sc I2 f2 un3 I4 hC sb,rfl,qn⟩⟩
  ·refine cu (T.item (qG X scope cl N {s2 with heap:=h1'} (bS H2 s2.heap.objs.size (.lst [])) fp h1'.objs.size) rfl rfl rfl hc i [] s3 σ3 H3 qH I3 (mO I3 fr3) st3 go) λr s4 z9=>?_
   obtain⟨u,hr,h4⟩:=z9;subst hr;refine cu h4 λ_ s5 z9=>?_
   obtain⟨x,H5,I5,r5,y5,st5,fr5⟩:=z9;have I5':=I5.pinned (mO I5 fr5) (T.obj _ _ st5);refine cu (hg _ _ _ _ _ s5 σ3 H5 x u _ I5' r5 (step x H5 y5)) λ_ s6 z9=>?_
   obtain⟨σ6,H6,I6,q6⟩:=z9;refine cu (he _ _ _ _ _ s6 σ6 H6 _ I6 q6) λuv s7 z9=>?_
   obtain⟨v,H7,I7,r7,ys,hy,hl,q7⟩:=z9;refine cu (pU (X:=qG X scope cl N {s2 with heap:=h1'} (bS H2 s2.heap.objs.size (.lst [])) fp h1'.objs.size) _ s7 σ6 H7 (.ref s2.heap.objs.size) [v] (.ref s2.heap.objs.size) [uv] (λ_ H8=>Nn σ6 H8) I7 rfl (.cons r7 .nil) ⟨_,ys,v,rfl,rfl,hy,hl,q7⟩) λ_ s8 z9=>?_
   obtain⟨_,H8,I8,_,n8⟩:=z9;obtain⟨m',hm,w8⟩:=hN σ6 H8 n8;refine⟨m',hm,i+1,σ6,H8,I8.unpinned,T.keep _ _ _ st5 λb hb o e=>(I8.pin (b,o) (Qd _ (Qd _ (gT hb e)))).1,λb hb=>?_,w8⟩
   obtain⟨o,e,d⟩:=T.obj _ _ st5 b hb;exact(I8.pin (b,o) (Qd _ (Qd _ (gT hb e)))).2.1
 exact codeAny_compStart_list (loop _ rfl) (T.self _ 0 _ _ _ st3 (loop _ rfl))
theorem B5 (hc:X.calm=true) (Sc:oi X scope cl N cap) (hi:PI X tg iter wi) (hg:∀ s0 H0 ex C,PG (qG X scope cl N s0 H0 ex C) tg g) (hcnd:∀ s0 H0 ex C,PT (qG X scope cl N s0 H0 ex C) c tc) (he:∀ s0 H0 ex C,PE (qG X scope cl N s0 H0 ex C) elt te)
  (hs:∀ x,foldedSetIterable iter X.env x=pure x:=by intro _; rfl):PE X (.ListComp elt [⟨tg,iter,[c],0⟩] scope pos) (G5 cap wi g tc te):=by
 intro Rw s σ H Q I h;rw [eval_ListComp];have hcell:∀ y∈scope.names,y.2≠.cell:=λy hy=>by simpa using QX.mp Sc.nocell y hy
 have hnames:∀ y∈scope.names,y.2=.local->scope.names.lookup y.1=some .local:=λy hy e=>by
  have:=QX.mp Sc.names y hy;rw [e] at this
  simpa using this
 refine wpAny_comprehension_free (use:=none) rfl hs Sc.clos Sc.kind hnames (cu (hi Rw s σ H _ I h) λv s1 h1=>cu h1 λitv s2 h2=>?_)
 obtain⟨it,fp,tn,J,H2,e,I2,T,st2,f2,hW⟩:=h2;subst e;refine Qs (wpAny_newFunctionEnv hcell (by intro y hy; simp at hy) (λh1 hns hsb=>?_) Sc.kind)
 obtain⟨W,⟨m0,w0⟩,turn⟩:=hW s2.heap.objs.size I2.fresh;dsimp only at hns hsb ⊢
 generalize hD:s2.heap.push {cls:=.type "list",dict:=none,data:=.seq ([]:List Rg).toArray}=h1' at hns hsb ⊢
 obtain⟨I3,un3⟩:=yQ (tk:=s2.toks+([]:List (Str×Rg)).length) Sc I2 f2 (λb hb=>let ⟨o,e,_⟩:=T.obj 0 _ st2 b hb; ⟨o,e⟩) hD hns hsb
 have hC:s2.heap.objs.size<=h1'.objs.size:=by rw [<- hD,QW]; exact Nat.le_succ _
 have k1:∀ b o,s2.heap.get? b=some o->h1.get? b=some o:=λb o e=>by
  have e1:h1'.get? b=some o:=by rw [<- hD]; exact PZ _ e
  exact(hsb.2 b (P_ (P3 e1))).trans (PZ _ e1)
 have st3:tn 0 h1:=T.keep 0 _ _ st2 λb _ o e=>k1 b o e
 have fr3:∀ b∈fp,(bS H2 s2.heap.objs.size (.lst [])) b=none:=λb hb=>by
  obtain⟨o,e,_⟩:=T.obj 0 _ st2 b hb;rw [aF (P_ (P3 e))];exact(f2 b hb).1
 have loop:∀ s3:Rf,s3={s2 with heap:=h1,toks:=s2.toks+([]:List (Str×Rg)).length}->
   codeAny (model X.prog X.w) X.A (.compLoop (.ListComp elt [⟨tg,iter,[c],0⟩] scope pos) 0 (.ref it) (.ref s2.heap.objs.size) (compEnvC scope cl h1'.objs.size X.env))
    (compPost (model X.prog X.w) X.A X.xe none (EP X Rw σ Q) (.ref s2.heap.objs.size) h1'.objs.size) s3:=by
  rintro s3 rfl;refine xl (λn s'=>∃ i σ' H',aC (qG X scope cl N {s2 with heap:=h1'} (bS H2 s2.heap.objs.size (.lst [])) fp h1'.objs.size) [] σ' H' s'/\tn i s'.heap/\(∀ b∈fp,H' b=none)/\W i n σ' H') ?_ m0 ⟨0,_,_,I3,st3,fr3,w0⟩
  rintro n s3 ⟨i,σ3,H3,I3,st3,fr3,w3⟩;rcases turn i n σ3 H3 w3 with ⟨stop,qn⟩ | ⟨go,Nn,hN,step⟩
  ·refine cu (T.done (qG X scope cl N {s2 with heap:=h1'} (bS H2 s2.heap.objs.size (.lst [])) fp h1'.objs.size) rfl rfl rfl hc i [] s3 σ3 H3 qH I3 (mO I3 fr3) st3 stop) λr s4 z9=>?_
   obtain⟨hr,I4⟩:=z9;subst hr;obtain⟨m,hm,_⟩:=I4.loc;exact⟨m,hm,λh' sb=>⟨.ref _,H3,xP Sc I2 f2 un3 I4 hC sb,rfl,qn⟩⟩
  ·refine cu (T.item (qG X scope cl N {s2 with heap:=h1'} (bS H2 s2.heap.objs.size (.lst [])) fp h1'.objs.size) rfl rfl rfl hc i [] s3 σ3 H3 qH I3 (mO I3 fr3) st3 go) λr s4 z9=>?_
   obtain⟨u,hr,h4⟩:=z9;subst hr;refine cu h4 λ_ s5 z9=>?_
   obtain⟨x,H5,I5,r5,y5,st5,fr5⟩:=z9;have I5':=I5.pinned (mO I5 fr5) (T.obj _ _ st5);refine cu (hg _ _ _ _ _ s5 σ3 H5 x u _ I5' r5 (step x H5 y5)) λ_ s6 z9=>?_
   obtain⟨σ6,H6,I6,q6⟩:=z9;have again:∀ {s8:Rf} {H8:Hp},aC (qG X scope cl N {s2 with heap:=h1'} (bS H2 s2.heap.objs.size (.lst [])) fp h1'.objs.size) ([]++sG fp s5.heap) σ6 H8 s8->Nn σ6 H8->
     ∃ m,m < n/\∃ i σ' H',aC (qG X scope cl N {s2 with heap:=h1'} (bS H2 s2.heap.objs.size (.lst [])) fp h1'.objs.size) [] σ' H' s8/\tn i s8.heap/\(∀ b∈fp,H' b=none)/\W i m σ' H':=λ{s8 H8} I8 n8=>by
    obtain⟨m',hm,w8⟩:=hN σ6 H8 n8;refine⟨m',hm,i+1,σ6,H8,I8.unpinned,T.keep _ _ _ st5 λb hb o e=>(I8.pin (b,o) (Qd _ (Qd _ (gT hb e)))).1,λb hb=>?_,w8⟩
    obtain⟨o,e,d⟩:=T.obj _ _ st5 b hb;exact(I8.pin (b,o) (Qd _ (Qd _ (gT hb e)))).2.1
   refine cu (hcnd _ _ _ _ _ s6 σ6 H6 _ I6 q6) λb s6' z9=>?_
   obtain⟨H6',I6',q6'⟩:=z9;cases b with
   | true=>
    rw [if_pos rfl] at q6' ⊢;refine cu (he _ _ _ _ _ s6' σ6 H6' _ I6' q6') λuv s7 z9=>?_
    obtain⟨v,H7,I7,r7,ys,hy,hl,q7⟩:=z9;refine cu (pU (X:=qG X scope cl N {s2 with heap:=h1'} (bS H2 s2.heap.objs.size (.lst [])) fp h1'.objs.size) _ s7 σ6 H7 (.ref s2.heap.objs.size) [v] (.ref s2.heap.objs.size) [uv] (λ_ H8=>Nn σ6 H8) I7 rfl (.cons r7 .nil) ⟨_,ys,v,rfl,rfl,hy,hl,q7⟩) λ_ s8 z9=>?_
    obtain⟨_,H8,I8,_,n8⟩:=z9;exact again I8 n8
   | false=>
    rw [if_neg P7] at q6' ⊢;exact again I6' q6'
 exact codeAny_compStart_list (loop _ rfl) (T.self _ 0 _ _ _ st3 (loop _ rfl))
end
end L2
namespace DL
open PySem PySem.Spec PyProof.Rows L2
abbrev Fg:=PySem.W.Frag
inductive Ty where
 | non | bool | int | str | tup | lst | dic | verr
def Ty.name:Ty->Rs
 | .non=>"NoneType" | .bool=>"bool" | .int=>"int" | .str=>"str" | .tup=>"tuple" | .lst=>"list" | .dic=>"dict" | .verr=>"ValueError"
inductive D where
 | non | bl (b:Rr) | int (i:Int) | str (x:Str) | tup (ds:List D) | rl (ds:List D) | ref (a:Rh) | ty (n:Ty)
def Ll (K:Fg) (H:Hp) (a:Rh) (xs:List V):Prop:=
 (∃ o,H a=some (.frz o (.lst xs)))\/∃ (o:Rv) (its:Rq Rg) (n:Nat),K.lookup a=some o/\o.cls=.type "list"/\o.dict=none/\o.data=.seq its n/\its.size<=sizeLine/\bf xs its.toList
theorem Ll.sq {K:Fg} {H:Hp} {a:Rh} {xs:List V} (h:Ll K H a xs):jv K H a xs:=by
 rcases h with h | h
 ·exact .inl (.inr h)
 ·exact .inr h
mutual
def cq (K:Fg) (H:Hp):D->V->Prop
 | .non,v=>v=.non
 | .bl b,v=>v=.bl b
 | .int i,v=>v=.int i
 | .str x,v=>v=.str x
 | .tup ds,v=>∃ a xs,v=.ref a/\lU K H a xs/\IsDs K H ds xs
 | .rl ds,v=>∃ a xs,v=.ref a/\Ll K H a xs/\IsDs K H ds xs
 | .ref a,v=>v=.ref a
 | .ty n,v=>v=.ty n.name
def IsDs (K:Fg) (H:Hp):List D->List V->Prop
 | [],vs=>vs=[]
 | d::ds,vs=>∃ v r,vs=v::r/\cq K H d v/\IsDs K H ds r
end
def NK:HO->Prop
 | .tup _=>True
 | .frz _ _=>True
 | _=>False
def Kp (H H':Hp):Prop:=∀ a o,H a=some o->NK o->H' a=some o
theorem Kp.refl (H:Hp):Kp H H:=λ_ _ h _=>h
theorem Kp.trans {H H1 H2:Hp} (a:Kp H H1) (b:Kp H1 H2):Kp H H2:=λc o h i=>b c o (a c o h i) i
theorem Kp.tup {K:Fg} {H H':Hp} {a:Rh} {xs:List V} (k:Kp H H') (h:lU K H a xs):lU K H' a xs:=by
 rcases h with (h | ⟨o,h⟩) | h
 ·exact .inl (.inl (k _ _ h trivial))
 ·exact .inl (.inr ⟨o,k _ _ h trivial⟩)
 ·exact .inr h
theorem Kp.fro {K:Fg} {H H':Hp} {a:Rh} {xs:List V} (k:Kp H H') (h:Ll K H a xs):Ll K H' a xs:=by
 rcases h with ⟨o,h⟩ | h
 ·exact .inl ⟨o,k _ _ h trivial⟩
 ·exact .inr h
theorem Kp.new {H:Hp} {p:Rh} {o:HO} (h:H p=none):Kp H (bS H p o):=λb u e _=>by rw [aF (a9 e h)]; exact e
theorem Kp.mut {H:Hp} {p:Rh} {o u:HO} (h:H p=some u) (n:¬ NK u):Kp H (bS H p o):=λb z e i=>by
 rw [aF (λq=>by subst q; rw [h] at e; cases e; exact n i)]; exact e
mutual
theorem cq.kp {K:Fg} {H H':Hp} (k:Kp H H'):∀ {d:D} {v:V},cq K H d v->cq K H' d v
 | .non,_,h=>by unfold cq at *; exact h
 | .bl _,_,h=>by unfold cq at *; exact h
 | .int _,_,h=>by unfold cq at *; exact h
 | .str _,_,h=>by unfold cq at *; exact h
 | .ref _,_,h=>by unfold cq at *; exact h
 | .ty _,_,h=>by unfold cq at *; exact h
 | .tup ds,_,h=>by
  unfold cq at*
  obtain⟨a,xs,e,t,r⟩:=h;exact⟨a,xs,e,k.tup t,IsDs.kp k r⟩
 | .rl ds,_,h=>by
  unfold cq at*
  obtain⟨a,xs,e,t,r⟩:=h;exact⟨a,xs,e,k.fro t,IsDs.kp k r⟩
theorem IsDs.kp {K:Fg} {H H':Hp} (k:Kp H H'):∀ {ds:List D} {vs:List V},IsDs K H ds vs->IsDs K H' ds vs
 | [],_,h=>by unfold IsDs at *; exact h
 | d::ds,_,h=>by
  unfold IsDs at*
  obtain⟨v,r,e,h1,h2⟩:=h;exact⟨v,r,e,cq.kp k h1,IsDs.kp k h2⟩
end
section
variable {K:Fg} {H:Hp}
theorem isInt {i:Int} {v:V}:cq K H (.int i) v↔v=.int i:=by unfold cq; exact Iff.rfl
theorem cU {b:Rr} {v:V}:cq K H (.bl b) v↔v=.bl b:=by unfold cq; exact Iff.rfl
theorem j4 {b:Str} {v:V}:cq K H (.str b) v↔v=.str b:=by unfold cq; exact Iff.rfl
theorem fY {v:V}:cq K H .non v↔v=.non:=by unfold cq; exact Iff.rfl
theorem aZ {a:Rh} {v:V}:cq K H (.ref a) v↔v=.ref a:=by unfold cq; exact Iff.rfl
theorem Oi {a:Ty} {v:V}:cq K H (.ty a) v↔v=.ty a.name:=by unfold cq; exact Iff.rfl
theorem fe {ds:List D} {v:V}:cq K H (.tup ds) v↔∃ a xs,v=.ref a/\lU K H a xs/\IsDs K H ds xs:=by unfold cq; exact Iff.rfl
theorem zU {ds:List D} {v:V}:cq K H (.rl ds) v↔∃ a xs,v=.ref a/\Ll K H a xs/\IsDs K H ds xs:=by unfold cq; exact Iff.rfl
theorem k_ {vs:List V}:IsDs K H [] vs↔vs=[]:=by unfold IsDs; exact Iff.rfl
theorem dJ {d:D} {ds:List D} {vs:List V}:IsDs K H (d::ds) vs↔∃ v r,vs=v::r/\cq K H d v/\IsDs K H ds r:=by
 constructor
 ·intro h; unfold IsDs at h; exact h
 ·intro h; unfold IsDs; exact h
theorem IsDs.nil:IsDs K H [] []:=k_.mpr rfl
theorem IsDs.cons {d:D} {ds:List D} {v:V} {vs:List V} (h1:cq K H d v) (h2:IsDs K H ds vs):IsDs K H (d::ds) (v::vs):=dJ.mpr ⟨v,vs,rfl,h1,h2⟩
theorem IsDs.length:∀ {ds:List D} {vs:List V},IsDs K H ds vs->ds.length=vs.length
 | [],_,h=>by rw [k_.mp h]; rfl
 | d::ds,_,h=>by
  obtain⟨v,r,rfl,_,h2⟩:=dJ.mp h;rw [Qf,Qf,IsDs.length h2]
theorem IsDs.get:∀ {ds:List D} {vs:List V} {i:Nat} {d:D},IsDs K H ds vs->ds[i]?=some d->∃ v,vs[i]?=some v/\cq K H d v
 | [],_,_,_,_,e=>by simp at e
 | c::ds,_,0,d,h,e=>by
  obtain⟨v,r,rfl,h1,h2⟩:=dJ.mp h;simp at e;subst e;exact⟨v,rfl,h1⟩
 | c::ds,_,i+1,d,h,e=>by
  obtain⟨v,r,rfl,h1,h2⟩:=dJ.mp h;obtain⟨u,q1,q2⟩:=IsDs.get (i:=i) (d:=d) h2 (by simpa using e)
  exact⟨u,by simpa using q1,q2⟩
theorem IsDs.set:∀ {ds:List D} {vs:List V} {d:D} {v:V} (i:Nat),IsDs K H ds vs->cq K H d v->IsDs K H (ds.set i d) (vs.set i v)
 | [],_,_,_,_,h,_=>by rw [k_.mp h]; exact IsDs.nil
 | c::ds,_,d,v,0,h,hd=>by
  obtain⟨u,r,rfl,h1,h2⟩:=dJ.mp h;exact IsDs.cons hd h2
 | c::ds,_,d,v,i+1,h,hd=>by
  obtain⟨u,r,rfl,h1,h2⟩:=dJ.mp h;exact IsDs.cons h1 (IsDs.set i h2 hd)
theorem IsDs.append:∀ {ds es:List D} {vs us:List V},IsDs K H ds vs->IsDs K H es us->IsDs K H (ds++es) (vs++us)
 | [],_,_,_,h,h'=>by rw [k_.mp h]; exact h'
 | c::ds,_,_,_,h,h'=>by
  obtain⟨u,r,rfl,h1,h2⟩:=dJ.mp h;exact IsDs.cons h1 (IsDs.append h2 h')
theorem IsDs.drop:∀ {ds:List D} {vs:List V} (n:Nat),IsDs K H ds vs->IsDs K H (ds.drop n) (vs.drop n)
 | _,_,0,h=>h
 | [],_,n+1,h=>by rw [k_.mp h]; exact IsDs.nil
 | c::ds,_,n+1,h=>by
  obtain⟨u,r,rfl,h1,h2⟩:=dJ.mp h;exact IsDs.drop n h2
theorem IsDs.take:∀ {ds:List D} {vs:List V} (n:Nat),IsDs K H ds vs->IsDs K H (ds.take n) (vs.take n)
 | _,_,0,h=>by simpa using IsDs.nil
 | [],_,n+1,h=>by rw [k_.mp h]; exact IsDs.nil
 | c::ds,_,n+1,h=>by
  obtain⟨u,r,rfl,h1,h2⟩:=dJ.mp h;exact IsDs.cons h1 (IsDs.take n h2)
end
def lq (ks:List Int):Int:=reduceHash (Builtin.Tuple.tupleHashOf (ks.map hashInt))
def eT (x:List Int×Rh×Rg):Ru:=⟨lq x.1,.ref x.2.1,x.2.2⟩
def lD (es:Rq Ru) (ep:Nat):Rv:={cls:=.type "dict",dict:=none,data:=.dict es ep,slots:=#[]}
def md (a:Rh) (xs:List (List Int×Rh×Rg)) (ep:Nat):Ro->Prop:=λh=>(a == sysModules)=false/\xs.length<=sizeLine/\(xs.map (·.1)).Nodup/\h.get? a=some (lD (xs.map eT).toArray ep)
inductive Iz where
 | dT (kvs:List (List Int×D)) (ep:Nat)
 | dK (kvs:List (eG×D))
abbrev m9 (K:Fg) (H:Hp):List (List Int×D)->List (List Int×Rh×Rg)->Prop:=Paired λp q=>p.1=q.1/\lU K H q.2.1 (p.1.map V.int)/\∃ v,aP v q.2.2/\cq K H p.2 v
def qd (K:Fg) (H:Hp) (a:Rh):Iz->Prop
 | .dT kvs ep=>∃ xs,H a=some (.ext (md a xs ep))/\m9 K H kvs xs
 | .dK kvs=>∃ ys,H a=some (.dK ys)/\Paired (λ(p:eG×D) (q:eG×V)=>p.1=q.1/\cq K H p.2 q.2) kvs ys
theorem m9.kp {K:Fg} {H H':Hp} {kvs:List (List Int×D)} {xs:List (List Int×Rh×Rg)} (r:m9 K H kvs xs) (k:Kp H H'):m9 K H' kvs xs:=
 Paired.mapP r λ_ _ z9=>by obtain⟨a,b,v,c,d⟩:=z9; exact⟨a,k.tup b,v,c,d.kp k⟩
theorem qd.there {K:Fg} {H:Hp} {a:Rh} {g:Iz} (h:qd K H a g):∃ o,H a=some o/\¬ NK o:=by
 cases g with
 | dT kvs ep=>obtain⟨xs,e,_⟩:=h; exact⟨_,e,λz=>z⟩
 | dK kvs=>obtain⟨xs,e,_⟩:=h; exact⟨_,e,λz=>z⟩
theorem qd.step {K:Fg} {H H':Hp} {a:Rh} {g:Iz} (h:qd K H a g) (k:Kp H H') (s:H' a=H a):qd K H' a g:=by
 cases g with
 | dT kvs ep=>obtain⟨xs,e,r⟩:=h; exact⟨xs,s.trans e,r.kp k⟩
 | dK kvs=>obtain⟨xs,e,r⟩:=h; exact⟨xs,s.trans e,Paired.mapP r λ_ _ z=>⟨z.1,z.2.kp k⟩⟩
inductive DO where
 | lst (ds:List D)
 | dic
 | exc (C:Rh)
 | fn (φ:Hp->Prop)
 | tbl (ψ:Hp->Rq Rg->Prop)
 | gen (g:Iz)
abbrev DH:=Rh->Ri DO
def put (S:DH) (a:Rh) (o:DO):DH:=λb=>if b=a then some o else S b
theorem aq {S:DH} {a:Rh} {o:DO}:put S a o a=some o:=by unfold put; rw [if_pos rfl]
theorem bV {S:DH} {a b:Rh} {o:DO} (h:b≠a):put S a o b=S b:=by unfold put; rw [if_neg h]
theorem vL {S:DH} {a:Rh} {o u:DO}:put (put S a o) a u=put S a u:=by funext b; unfold put; split <;> rfl
theorem jR {S:DH} {a p:Rh} {o:DO} (h:S a=some o) (h':S p=none):a≠p:=by intro e; subst e; rw [h] at h'; cases h'
def BZ (K:Fg) (H:Hp) (a:Rh):DO->Prop
 | .lst ds=>∃ xs,H a=some (.lst xs)/\IsDs K H ds xs
 | .dic=>∃ kvs,H a=some (.dK kvs)
 | .exc C=>∃ o u,H a=some (.frz o u)/\o.cls=.ref C
 | .fn φ=>(∃ o u,H a=some (.frz o u))/\∀ H',Kp H H'->φ H'
 | .tbl ψ=>∃ ps,H a=some (.tbl ps)/\∀ H',Kp H H'->ψ H' ps
 | .gen g=>qd K H a g
def Hs (K:Fg) (H:Hp) (S:DH):Prop:=∀ a o,S a=some o->BZ K H a o
section
variable {K:Fg} {H H':Hp} {S:DH} {p:Rh}
theorem Hs.lst {ds:List D} (h:Hs K H S) (e:S p=some (.lst ds)):∃ xs,H p=some (.lst xs)/\IsDs K H ds xs:=h p _ e
theorem Hs.free (h:Hs K H S) (e:H p=none):S p=none:=by
 cases q:S p with
 | none=>rfl
 | some o=>
  have z:=h p o q;cases o with
  | lst ds=>obtain⟨xs,z,_⟩:=z; rw [e] at z; cases z
  | dic=>obtain⟨xs,z⟩:=z; rw [e] at z; cases z
  | exc C=>obtain⟨_,_,z,_⟩:=z; rw [e] at z; cases z
  | fn φ=>obtain⟨⟨_,_,z⟩,_⟩:=z; rw [e] at z; cases z
  | tbl ψ=>obtain⟨_,z,_⟩:=z; rw [e] at z; cases z
  | gen g=>obtain⟨_,z,_⟩:=qd.there z; rw [e] at z; cases z
theorem Hs.step (h:Hs K H S) (k:Kp H H') (s:∀ a o,S a=some o->H' a=H a):Hs K H' S:=λa o e=>by
 have z:=h a o e;cases o with
 | lst ds=>obtain⟨xs,z,r⟩:=z; exact⟨xs,by rw [s a _ e]; exact z,r.kp k⟩
 | dic=>obtain⟨xs,z⟩:=z; exact⟨xs,by rw [s a _ e]; exact z⟩
 | exc C=>obtain⟨x,y,z,r⟩:=z; exact⟨x,y,by rw [s a _ e]; exact z,r⟩
 | fn φ=>obtain⟨⟨x,y,z⟩,r⟩:=z; exact⟨⟨x,y,by rw [s a _ e]; exact z⟩,λH2 k2=>r H2 (k.trans k2)⟩
 | tbl ψ=>obtain⟨ps,z,r⟩:=z; exact⟨ps,by rw [s a _ e]; exact z,λH2 k2=>r H2 (k.trans k2)⟩
 | gen g=>exact qd.step z k (s a _ e)
theorem Hs.new {o:HO} (h:Hs K H S) (e:H p=none):Hs K (bS H p o) S:=h.step (Kp.new e) λa u q=>by
 rw [aF]; intro z; subst z; rw [h.free e] at q; cases q
theorem Hs.newL {xs:List V} {ds:List D} (h:Hs K H S) (e:H p=none) (r:IsDs K H ds xs):Hs K (bS H p (.lst xs)) (put S p (.lst ds)):=λa o q=>by
 by_cases z:a=p
 ·subst z;rw [aq] at q;cases q;exact⟨xs,br,r.kp (Kp.new e)⟩
 ·rw [bV z] at q;exact(h.new e) a o q
theorem Hs.setL {xs ys:List V} {ds:List D} (h:Hs K H S) (e:H p=some (.lst xs)) (r:IsDs K H ds ys):Hs K (bS H p (.lst ys)) (put S p (.lst ds)):=λa o q=>by
 have k:Kp H (bS H p (.lst ys)):=Kp.mut e (λz=>z)
 by_cases z:a=p
 ·subst z;rw [aq] at q;cases q;exact⟨ys,br,r.kp k⟩
 ·rw [bV z] at q;have w:=h a o q;cases o with
  | lst ds=>obtain⟨xs,w,r⟩:=w; exact⟨xs,by rw [aF z]; exact w,r.kp k⟩
  | dic=>obtain⟨xs,w⟩:=w; exact⟨xs,by rw [aF z]; exact w⟩
  | exc C=>obtain⟨x,y,w,r⟩:=w; exact⟨x,y,by rw [aF z]; exact w,r⟩
  | fn φ=>obtain⟨⟨x,y,w⟩,r⟩:=w; exact⟨⟨x,y,by rw [aF z]; exact w⟩,λH2 k2=>r H2 (k.trans k2)⟩
  | tbl ψ=>obtain⟨ps,w,r⟩:=w; exact⟨ps,by rw [aF z]; exact w,λH2 k2=>r H2 (k.trans k2)⟩
  | gen g=>exact qd.step w k (aF z)
end
abbrev Lo:=List (Ri D)
def Lc (K:Fg) (H:Hp):Lo->L2.St->Prop
 | [],σ=>σ=[]
 | none::L,σ=>∃ x r,σ=x::r/\Lc K H L r
 | some d::L,σ=>∃ v r,σ=some v::r/\cq K H d v/\Lc K H L r
section
variable {K:Fg} {H H':Hp}
theorem Lc.kp (k:Kp H H'):∀ {L:Lo} {σ:L2.St},Lc K H L σ->Lc K H' L σ
 | [],_,h=>h
 | none::L,_,h=>by
  obtain⟨x,r,e,h⟩:=h;exact⟨x,r,e,Lc.kp k h⟩
 | some d::L,_,h=>by
  obtain⟨v,r,e,h1,h⟩:=h;exact⟨v,r,e,h1.kp k,Lc.kp k h⟩
theorem Lc.get:∀ {L:Lo} {σ:L2.St} {i:Nat} {d:D},Lc K H L σ->L[i]?=some (some d)->∃ v,σ[i]?=some (some v)/\cq K H d v
 | [],_,_,_,_,e=>by simp at e
 | none::L,_,0,_,_,e=>by simp at e
 | some c::L,_,0,d,h,e=>by
  obtain⟨v,r,rfl,h1,h⟩:=h;simp at e;subst e;exact⟨v,rfl,h1⟩
 | none::L,_,i+1,d,h,e=>by
  obtain⟨x,r,rfl,h⟩:=h;obtain⟨u,q1,q2⟩:=Lc.get (i:=i) (d:=d) h (by simpa using e)
  exact⟨u,by simpa using q1,q2⟩
 | some c::L,_,i+1,d,h,e=>by
  obtain⟨v,r,rfl,_,h⟩:=h;obtain⟨u,q1,q2⟩:=Lc.get (i:=i) (d:=d) h (by simpa using e)
  exact⟨u,by simpa using q1,q2⟩
theorem Lc.set {d:D} {v:V} (hd:cq K H d v):∀ {L:Lo} {σ:L2.St} (i:Nat),Lc K H L σ->Lc K H (L.set i (some d)) (σ.set i (some v))
 | [],_,_,h=>by
  have e:_=[]:=h;subst e;exact rfl
 | none::L,_,0,h=>by
  obtain⟨x,r,rfl,h⟩:=h;exact⟨v,r,rfl,hd,h⟩
 | some c::L,_,0,h=>by
  obtain⟨x,r,rfl,_,h⟩:=h;exact⟨v,r,rfl,hd,h⟩
 | none::L,_,i+1,h=>by
  obtain⟨x,r,rfl,h⟩:=h;exact⟨x,r.set i (some v),rfl,Lc.set hd i h⟩
 | some c::L,_,i+1,h=>by
  obtain⟨x,r,rfl,h1,h⟩:=h;exact⟨x,r.set i (some v),rfl,h1,Lc.set hd i h⟩
theorem Lc.none:∀ (n:Nat),Lc K H (List.replicate n .none) (List.replicate n .none)
 | 0=>rfl
 | n+1=>⟨_,_,rfl,Lc.none n⟩
theorem Lc.start:∀ {ds:List D} {vs:List V} (n:Nat),IsDs K H ds vs->Lc K H (ds.map some++List.replicate n .none) (vs.map some++List.replicate n .none)
 | [],_,n,h=>by rw [k_.mp h]; exact Lc.none n
 | d::ds,_,n,h=>by
  obtain⟨v,r,rfl,h1,h2⟩:=dJ.mp h;exact⟨v,_,rfl,h1,Lc.start n h2⟩
end
abbrev DK:=D->DH->Prop
abbrev DE:=Lo->DH->DK->Prop
abbrev DT:=Lo->DH->(Rr->DH->Prop)->Prop
abbrev DA:=Lo->DH->(List D->DH->Prop)->Prop
structure oN where
 nx:Lo->DH->Prop
 rt:DK
 bk:Lo->DH->Prop:=λ_ _=>False
 ct:Lo->DH->Prop:=λ_ _=>False
abbrev DS:=oN->Lo->DH->Prop
def up (K:Fg) (g:DE):TE:=fun σ H Q=>∃ L S k,Lc K H L σ/\Hs K H S/\g L S k/\∀ d S' v H',k d S'->Kp H H'->Hs K H' S'->cq K H' d v->Q v H'
def Ai (K:Fg) (g:DT):TT:=fun σ H Q=>∃ L S k,Lc K H L σ/\Hs K H S/\g L S k/\∀ b S' H',k b S'->Kp H H'->Hs K H' S'->Q b H'
def yA (K:Fg) (g:DA):TA:=fun σ H Q=>∃ L S k,Lc K H L σ/\Hs K H S/\g L S k/\∀ ds S' vs H',k ds S'->Kp H H'->Hs K H' S'->IsDs K H' ds vs->Q vs H'
structure xq (K:Fg) (H:Hp) (M:oN) (N:s9):Prop where
 nx:∀ L S σ H',M.nx L S->Kp H H'->Lc K H' L σ->Hs K H' S->N.nx σ H'
 rt:∀ d S v H',M.rt d S->Kp H H'->Hs K H' S->cq K H' d v->N.rt v H'
 bk:∀ L S σ H',M.bk L S->Kp H H'->Lc K H' L σ->Hs K H' S->N.bk σ H'
 ct:∀ L S σ H',M.ct L S->Kp H H'->Lc K H' L σ->Hs K H' S->N.ct σ H'
theorem xq.kp {K:Fg} {H H1:Hp} {M:oN} {N:s9} (r:xq K H M N) (k:Kp H H1):xq K H1 M N:=
 ⟨λL S σ H' h k'=>r.nx L S σ H' h (k.trans k'),λd S v H' h k'=>r.rt d S v H' h (k.trans k'),λL S σ H' h k'=>r.bk L S σ H' h (k.trans k'),λL S σ H' h k'=>r.ct L S σ H' h (k.trans k')⟩
def Ig (K:Fg) (g:DS):TS:=λN σ H=>∃ L S M,Lc K H L σ/\Hs K H S/\g M L S/\xq K H M N
theorem PE.imp {X:Cx} {e:Rj} {t t':TE} (h:PE X e t) (i:∀ σ H Q,t' σ H Q->t σ H Q):PE X e t':=λRw s σ H Q I q=>h Rw s σ H Q I (i σ H Q q)
theorem PT.imp {X:Cx} {e:Rj} {t t':TT} (h:PT X e t) (i:∀ σ H Q,t' σ H Q->t σ H Q):PT X e t':=λRw s σ H Q I q=>h Rw s σ H Q I (i σ H Q q)
theorem PW.imp {X:Cx} {e:Rj} {t t':TT} (h:PW X e t) (i:∀ σ H Q,t' σ H Q->t σ H Q):PW X e t':=λw Rw s σ H Q I q=>h w Rw s σ H Q I (i σ H Q q)
theorem PA.imp {X:Cx} {e:List Rj} {t t':TA} (h:PA X e t) (i:∀ σ H Q,t' σ H Q->t σ H Q):PA X e t':=λpos Rw s σ H Q I q=>h pos Rw s σ H Q I (i σ H Q q)
theorem PS.imp {X:Cx} {e:Rp} {t t':TS} (h:PS X e t) (i:∀ N σ H,t' N σ H->t N σ H):PS X e t':=λRw s σ H Q I q=>h Rw s σ H Q I (i Q σ H q)
theorem ub.imp {X:Cx} {e:List Rp} {t t':TS} (h:ub X e t) (i:∀ N σ H,t' N σ H->t N σ H):ub X e t':=λRw s σ H Q I q=>h Rw s σ H Q I (i Q σ H q)
theorem up.go {K:Fg} {g:DE} {σ:L2.St} {H:Hp} {Q:VK} {L:Lo} {S:DH} {k:DK} (hL:Lc K H L σ) (hS:Hs K H S) (h:g L S k)
  (n:∀ d S' v H',k d S'->Kp H H'->Lc K H' L σ->Hs K H' S'->cq K H' d v->Q v H'):up K g σ H Q:=
 ⟨L,S,k,hL,hS,h,λd S' v H' a b c e=>n d S' v H' a b (hL.kp b) c e⟩
theorem Ai.go {K:Fg} {g:DT} {σ:L2.St} {H:Hp} {Q:Rr->Hp->Prop} {L:Lo} {S:DH} {k:Rr->DH->Prop} (hL:Lc K H L σ) (hS:Hs K H S) (h:g L S k)
  (n:∀ b S' H',k b S'->Kp H H'->Lc K H' L σ->Hs K H' S'->Q b H'):Ai K g σ H Q:=
 ⟨L,S,k,hL,hS,h,λb S' H' a c e=>n b S' H' a c (hL.kp c) e⟩
theorem yA.go {K:Fg} {g:DA} {σ:L2.St} {H:Hp} {Q:List V->Hp->Prop} {L:Lo} {S:DH} {k:List D->DH->Prop} (hL:Lc K H L σ) (hS:Hs K H S) (h:g L S k)
  (n:∀ ds S' vs H',k ds S'->Kp H H'->Lc K H' L σ->Hs K H' S'->IsDs K H' ds vs->Q vs H'):yA K g σ H Q:=
 ⟨L,S,k,hL,hS,h,λd S' v H' a b c e=>n d S' v H' a b (hL.kp b) c e⟩
section
variable {X:Cx} {a b c:Rj} {ga gb gc:DE} {pos:Pos}
def qj (i:Nat):DE:=λL S k=>match L[i]? with
 | some (some d)=>k d S
 | _=>False
def dC (d:D):DE:=λ_ S k=>k d S
theorem LH {e:Rj} {d:D} {v:V} (h:PE X e (tC v)) (hd:∀ H,cq X.K H d v):PE X e (up X.K (dC d)):=
 PE.imp h fun σ H Q z9=>by obtain⟨L,S,k,hL,hS,h,n⟩:=z9; exact n d S v H h (Kp.refl H) hS (hd H)
def IP:Rj->Rr
 | .Starred _ _=>true
 | _=>false
theorem cQ {a:Rj} {es:List Rj} {env:Env} (h:IP a=false):starEach (a::es) env=(false,eval a env)::starEach es env:=by
 cases a <;> first | rfl | cases h
theorem fi {pos:Pos} {env:Env}:∀ {es:List Rj},(es.all λe=>!IP e)=true->(backTo pos (starEach es env)).any (·.1)=false
 | [],_=>rfl
 | e::es,h=>by
  rw [List.all_cons,QG] at h;rw [cQ (by simpa using h.1)]
  exact fi h.2
def M8:DA:=λ_ S k=>k [] S
def Aw (g:DE) (t:DA):DA:=λL S k=>g L S λd S1=>t L S1 λds S2=>k (d::ds) S2
def LQ (t:DA):DE:=λL S k=>t L S λds S1=>ds.length<=sizeLine/\k (.tup ds) S1
def Ot (t:DA):DE:=λL S k=>t L S λds S1=>ds.length<=sizeLine/\∀ p,S1 p=none->k (.ref p) (put S1 p (.lst ds))
abbrev D2:=D->D->DH->DK->Prop
def mM (K:Fg) (r:D2):R2:=λx y H Q=>∃ d e S k,cq K H d x/\cq K H e y/\Hs K H S/\r d e S k/\∀ d' S' v H',k d' S'->Kp H H'->Hs K H' S'->cq K H' d' v->Q v H'
def CY (r:D2) (ga gb:DE):DE:=λL S k=>ga L S λx S1=>gb L S1 λy S2=>r x y S2 k
theorem wj {K:Fg} {r:D2}:∀ σ H Q,up K (CY r ga gb) σ H Q->Mi (mM K r) (up K ga) (up K gb) σ H Q:=fun σ H Q ⟨L,S,k,hL,hS,h,n⟩=>
 up.go hL hS h λd S1 v H1 h1 k1 hL1 hS1 i1=>up.go hL1 hS1 h1 λe S2 u H2 h2 k2 hL2 hS2 i2=>
  ⟨d,e,S2,k,i1.kp k2,i2,hS2,h2,λd' S' v H' q k3 z1 z2=>n d' S' v H' q (k1.trans (k2.trans k3)) z1 z2⟩
abbrev D1:=D->DH->DK->Prop
def O2 (K:Fg) (r:D1):V->Hp->VK->Prop:=λx H Q=>∃ d S k,cq K H d x/\Hs K H S/\r d S k/\∀ d' S' v H',k d' S'->Kp H H'->Hs K H' S'->cq K H' d' v->Q v H'
def OR (r:D1) (ga:DE):DE:=λL S k=>ga L S λx S1=>r x S1 k
def DQ (g:DE):DT:=λL S k=>g L S λd S1=>match d with
 | .bl c=>k c S1
 | _=>False
theorem xK {K:Fg} {g:DE}:∀ σ H Q,Ai K (DQ g) σ H Q->IL (up K g) σ H Q:=fun σ H Q ⟨L,S,k,hL,hS,h,n⟩=>
 up.go hL hS h λd S1 v H1 h1 k1 hL1 hS1 i1=>by
  cases d with
  | bl c=>
   have e:=cU.mp i1;subst e;exact⟨c,rfl,n c S1 H1 h1 k1 hS1⟩
  | _=>exact(show False from h1).elim
variable {tA tB':DT} {av:List Rj}
def Nf (t u:DT):DT:=λL S k=>t L S λc S1=>if c=true then u L S1 k else k false S1
def OE (t u:DT):DT:=λL S k=>t L S λc S1=>if c=true then k true S1 else u L S1 k
def LJ (t:DT):DT:=λL S k=>t L S λc S1=>k (!c) S1
def MF (ga gb:DE):DE:=λL S k=>ga L S λx S1=>match x with
 | .bl c=>if c=true then gb L S1 k else k (.bl false) S1
 | _=>False
def Pr (t:DT) (ga gb:DE):DE:=λL S k=>t L S λc S1=>if c=true then ga L S1 k else gb L S1 k
end
section
variable {X:Cx}
theorem om {K:Fg} {H:Hp} {S:DH} {k:DK} {Q:VK} {d:D} {v:V} (n:∀ d' S' v H',k d' S'->Kp H H'->Hs K H' S'->cq K H' d' v->Q v H') (hS:Hs K H S) (h:k d S) (i:cq K H d v):Q v H:=n d S v H h (Kp.refl H) hS i
def Lf (C:Int->Int->Prop) (g:Int->Int->D):D2:=λd e S k=>match d,e with
 | .int i,.int j=>C i j/\k (g i j) S
 | _,_=>False
theorem EY {f:Rg->Rg->Sem Rg} {C:Int->Int->Prop} {g:Int->Int->D} {gV:Int->Int->V} (ho:jf X f (rI C gV)) (hg:∀ i j H,cq X.K H (g i j) (gV i j)):jf X f (mM X.K (Lf C g)):=by
 intro Rw s σ H x y v u Q I rx ry h;obtain⟨d,e,S,k,i1,i2,hS,r,n⟩:=h;cases d with
 | int i=>
  cases e with
  | int j=>
   have e1:=isInt.mp i1;have e2:=isInt.mp i2;subst e1;subst e2;exact ho Rw s σ H _ _ v u Q I rx ry ⟨i,j,rfl,rfl,r.1,om n hS r.2 (hg i j H)⟩
  | _=>exact(show False from r).elim
 | _=>exact(show False from r).elim
def FR (g:Int->Int->D):D2:=λd e S k=>match d,e with
 | .int i,.int j=>k (g i j) S
 | _,_=>False
theorem As {f:Rg->Rg->Sem Rg} {g:Int->Int->D} {gV:Int->Int->V} (ho:jf X f (Ix gV)) (hg:∀ i j H,cq X.K H (g i j) (gV i j)):jf X f (mM X.K (FR g)):=by
 intro Rw s σ H x y v u Q I rx ry h;obtain⟨d,e,S,k,i1,i2,hS,r,n⟩:=h;cases d with
 | int i=>
  cases e with
  | int j=>
   have e1:=isInt.mp i1;have e2:=isInt.mp i2;subst e1;subst e2;exact ho Rw s σ H _ _ v u Q I rx ry ⟨i,j,rfl,rfl,om n hS r (hg i j H)⟩
  | _=>exact(show False from r).elim
 | _=>exact(show False from r).elim
def uU (i j:Int):Prop:=j≠0/\j.natAbs.log2 < 9000
abbrev N4:D2:=FR λi j=>.int (i - j)
abbrev N7:D2:=Lf IntMulOk λi j=>.int (i*j)
abbrev LL:D2:=Lf uU λi j=>.int (i.fdiv j)
abbrev NP:D2:=Lf (λ_ j=>j≠0) λi j=>.int (i.fmod j)
abbrev Os:D2:=Lf CM λi j=>.int (i ^ j.toNat)
abbrev NU:D2:=Lf CM λi j=>.int (i*2 ^ j.toNat)
abbrev O':D2:=FR λi j=>.bl (decide (i < j))
abbrev Pi:D2:=FR λi j=>.bl (decide (j < i))
abbrev Ph:D2:=FR λi j=>.bl (decide (j<=i))
theorem yH:jf X (binaryOp .Sub) (mM X.K N4):=As Jk λ_ _ _=>isInt.mpr rfl
theorem bT:jf X (binaryOp .Mult) (mM X.K N7):=EY (C:=IntMulOk) (gV:=λi j=>.int (i*j)) (M5 λ_ _ _ _ _ _ _ hc q=>mul_int q hc) λ_ _ _=>isInt.mpr rfl
theorem hG:jf X (binaryOp .FloorDiv) (mM X.K LL):=EY (C:=uU) (gV:=λi j=>.int (i.fdiv j)) (M5 λ_ _ _ _ _ _ _ hc q=>floordiv_int hc.1 q (.inl (PyProof.noPylong_of_log2 hc.2))) λ_ _ _=>isInt.mpr rfl
theorem o0:jf X (binaryOp .Mod) (mM X.K NP):=EY GM λ_ _ _=>isInt.mpr rfl
theorem Iw:jf X (binaryOp .Pow) (mM X.K Os):=EY KQ λ_ _ _=>isInt.mpr rfl
theorem Mz:jf X (binaryOp .LShift) (mM X.K NU):=EY Kt λ_ _ _=>isInt.mpr rfl
theorem zn:jf X (compareOp .Lt) (mM X.K O'):=As MQ λ_ _ _=>cU.mpr rfl
theorem Jp:jf X (compareOp .Gt) (mM X.K Pi):=As LU λ_ _ _=>cU.mpr rfl
theorem Ob:jf X (compareOp .GtE) (mM X.K Ph):=As Me λ_ _ _=>cU.mpr rfl
def Nk:D2:=λd e S k=>match d,e with
 | .int i,.int j=>k (.int (i+j)) S
 | .str x,.str y=>x.length+y.length<=sizeLine/\k (.str (x++y)) S
 | .tup xs,.tup ys=>xs≠[]/\ys≠[]/\xs.length+ys.length<=sizeLine/\k (.tup (xs++ys)) S
 | .ref a,.ref b=>∃ xs ys,S a=some (.lst xs)/\S b=some (.lst ys)/\xs.length+ys.length<=sizeLine/\∀ p,S p=none->k (.ref p) (put S p (.lst (xs++ys)))
 | _,_=>False
theorem uM {K:Fg} {H:Hp} {ds:List D} {vs:List V} (i:IsDs K H ds vs) (h:ds≠[]):vs≠[]:=by
 intro e;subst e;have:=i.length;exact h (Rc.mp this)
theorem eO:jf X (binaryOp .Add) (mM X.K Nk):=by
 intro Rw s σ H x y v u Q I rx ry h;obtain⟨d,e,S,k,i1,i2,hS,r,n⟩:=h;cases d with
 | int i=>
  cases e with
  | int j=>
   have e1:=isInt.mp i1;have e2:=isInt.mp i2;subst e1;subst e2;exact Jv Rw s σ H _ _ v u Q I rx ry ⟨i,j,rfl,rfl,om n hS r (isInt.mpr rfl)⟩
  | _=>exact(show False from r).elim
 | str i=>
  cases e with
  | str j=>
   have e1:=j4.mp i1;have e2:=j4.mp i2;subst e1;subst e2;exact zx Rw s σ H _ _ v u Q I rx ry ⟨i,j,rfl,rfl,r.1,om n hS r.2 (j4.mpr rfl)⟩
  | _=>exact(show False from r).elim
 | tup xs=>
  cases e with
  | tup ys=>
   obtain⟨a,vs,rfl,t1,j1⟩:=fe.mp i1;obtain⟨b,us,rfl,t2,j2⟩:=fe.mp i2;obtain⟨h1,h2,h3,r⟩:=r;refine GX Rw s σ H _ _ v u Q I rx ry ⟨a,b,vs,us,rfl,rfl,t1,t2,uM j1 h1,by rw [<- j1.length,<- j2.length]; exact h3,λz=>absurd z (uM j2 h2),λ_ p hp=>?_⟩
   have kp:Kp H (bS H p (.tup (vs++us))):=Kp.new hp;exact n _ S _ _ r kp (hS.new hp) (fe.mpr ⟨p,_,rfl,lU.of br,(j1.append j2).kp kp⟩)
  | _=>exact(show False from r).elim
 | ref a=>
  cases e with
  | ref b=>
   have e1:=aZ.mp i1;have e2:=aZ.mp i2;subst e1;subst e2;obtain⟨xs,ys,h1,h2,h3,r⟩:=r;obtain⟨vs,q1,j1⟩:=hS.lst h1;obtain⟨us,q2,j2⟩:=hS.lst h2;refine Kc Rw s σ H _ _ v u Q I rx ry ⟨a,b,vs,us,rfl,rfl,q1,q2,by rw [<- j1.length,<- j2.length]; exact h3,λp hp=>?_⟩
   exact n _ _ _ _ (r p (hS.free hp)) (Kp.new hp) (hS.newL hp (j1.append j2)) (aZ.mpr rfl)
  | _=>exact(show False from r).elim
 | _=>exact(show False from r).elim
def Lq:D->D->Ri Rr
 | .int i,.int j=>some (decide (i=j))
 | .bl i,.bl j=>some (decide (i=j))
 | .str i,.str j=>some (decide (i=j))
 | _,_=>none
def O1:D2:=λd e S k=>match Lq d e with
 | some b=>k (.bl b) S
 | none=>False
def OW:D2:=λd e S k=>match Lq d e with
 | some b=>k (.bl (!b)) S
 | none=>False
theorem IH {K:Fg} {H:Hp} {d e:D} {x y:V} {b:Rr} (h:Lq d e=some b) (i1:cq K H d x) (i2:cq K H e y):KY x y=true/\decide (x=y)=b:=by
 unfold Lq at h
 split at h
 ·have e1:=isInt.mp i1;have e2:=isInt.mp i2;subst e1; subst e2
  cases h;exact⟨rfl,by simp⟩
 ·have e1:=cU.mp i1;have e2:=cU.mp i2;subst e1; subst e2
  cases h;exact⟨rfl,by simp⟩
 ·have e1:=j4.mp i1;have e2:=j4.mp i2;subst e1; subst e2
  cases h;exact⟨rfl,by simp⟩
 ·cases h
theorem jV:jf X (compareOp .Eq) (mM X.K O1):=by
 intro Rw s σ H x y v u Q I rx ry h;obtain⟨d,e,S,k,i1,i2,hS,r,n⟩:=h;unfold O1 at r;cases q:Lq d e with
 | none=>rw [q] at r; exact r.elim
 | some b=>
  rw [q] at r;obtain⟨h1,h2⟩:=IH q i1 i2;exact Ml Rw s σ H _ _ v u Q I rx ry ⟨h1,by rw [h2]; exact om n hS r (cU.mpr rfl)⟩
theorem JH:jf X (compareOp .NotEq) (mM X.K OW):=by
 intro Rw s σ H x y v u Q I rx ry h;obtain⟨d,e,S,k,i1,i2,hS,r,n⟩:=h;unfold OW at r;cases q:Lq d e with
 | none=>rw [q] at r; exact r.elim
 | some b=>
  rw [q] at r;obtain⟨h1,h2⟩:=IH q i1 i2;exact Nv Rw s σ H _ _ v u Q I rx ry ⟨h1,by rw [h2]; exact om n hS r (cU.mpr rfl)⟩
def zk:D->Rr
 | .non=>true
 | _=>false
def O3:D2:=λd e S k=>match d,e with
 | .bl c,.bl b=>k (.bl (c == b)) S
 | d,.non=>k (.bl (zk d)) S
 | _,_=>False
def Ey:D2:=λd e S k=>match d,e with
 | .bl c,.bl b=>k (.bl (!(c == b))) S
 | d,.non=>k (.bl (!zk d)) S
 | _,_=>False
theorem yM {K:Fg} {H:Hp} {d:D} {x:V} (i:cq K H d x):decide (x=.non)=zk d:=by
 cases d with
 | non=>rw [fY.mp i]; rfl
 | bl b=>rw [cU.mp i]; rfl
 | int b=>rw [isInt.mp i]; rfl
 | str b=>rw [j4.mp i]; rfl
 | ref b=>rw [aZ.mp i]; rfl
 | ty b=>rw [Oi.mp i]; rfl
 | tup b=>obtain⟨a,xs,rfl,_⟩:=fe.mp i; rfl
 | rl b=>obtain⟨a,xs,rfl,_⟩:=zU.mp i; rfl
theorem Dk:jf X (compareOp .Is) (mM X.K O3):=by
 intro Rw s σ H x y v u Q I rx ry h;obtain⟨d,e,S,k,i1,i2,hS,r,n⟩:=h;unfold O3 at r
 split at r
 ·rename_i c b
  have e1:=cU.mp i1;have e2:=cU.mp i2;subst e1; subst e2
  cases rx; cases ry
  exact is_bool ⟨.bl _,H,I,rfl,om n hS r (cU.mpr rfl)⟩
 ·have e2:=fY.mp i2;exact KO Rw s σ H _ _ v u Q I rx ry ⟨e2,by rw [yM i1]; exact om n hS r (cU.mpr rfl)⟩
 ·exact r.elim
theorem vN:jf X (compareOp .IsNot) (mM X.K Ey):=by
 intro Rw s σ H x y v u Q I rx ry h;obtain⟨d,e,S,k,i1,i2,hS,r,n⟩:=h;unfold Ey at r
 split at r
 ·rename_i c b
  have e1:=cU.mp i1;have e2:=cU.mp i2;subst e1; subst e2
  cases rx; cases ry
  exact isnot_bool ⟨.bl _,H,I,rfl,om n hS r (cU.mpr rfl)⟩
 ·have e2:=fY.mp i2;exact Go Rw s σ H _ _ v u Q I rx ry ⟨e2,by rw [yM i1]; exact om n hS r (cU.mpr rfl)⟩
 ·exact r.elim
def NN:D1:=λd S k=>match d with
 | .int i=>k (.int (-i)) S
 | _=>False
theorem DY:Mj X (unaryOp .USub) (O2 X.K NN):=by
 intro Rw s σ H x v Q I rx h;obtain⟨d,S,k,i1,hS,r,n⟩:=h;cases d with
 | int i=>
  have e1:=isInt.mp i1;subst e1;exact Je Rw s σ H _ v Q I rx ⟨i,rfl,om n hS r (isInt.mpr rfl)⟩
 | _=>exact(show False from r).elim
def xv:D2:=λd e S k=>match d,e with
 | .tup ds,.int i=>(match atI ds i with
  | some c=>k c S
  | none=>False)
 | .rl ds,.int i=>(match atI ds i with
  | some c=>k c S
  | none=>False)
 | .ref a,.int i=>(match S a with
  | some (.lst ds)=>(match atI ds i with
   | some c=>k c S
   | none=>False)
  | _=>False)
 | _,_=>False
theorem IsDs.atI {K:Fg} {H:Hp} {ds:List D} {vs:List V} {i:Int} {d:D} (r:IsDs K H ds vs) (h:atI ds i=some d):∃ v,L2.atI vs i=some v/\cq K H d v:=by
 unfold L2.atI at h ⊢;rw [<- r.length];cases q:F8 ds.length i with
 | none=>rw [q] at h; cases h
 | some j=>
  rw [q] at h;exact r.get h
theorem LW:AS X (mM X.K xv):=by
 intro value slice Rw s σ H x y v u Q I rx ry h hs;obtain⟨d,e,S,k,i1,i2,hS,r,n⟩:=h;cases e with
 | int i=>
  have e2:=isInt.mp i2;subst e2;cases d with
  | tup ds=>
   obtain⟨a,vs,rfl,t,j⟩:=fe.mp i1;cases q:atI ds i with
   | none=>simp only [xv,q] at r
   | some c=>
    simp only [xv,q] at r;obtain⟨w,e1,e2⟩:=j.atI q;exact KA value slice Rw s σ H _ _ v u Q I rx ry ⟨a,vs,i,w,rfl,rfl,t,e1,om n hS r e2⟩ hs
  | rl ds=>
   obtain⟨a,vs,rfl,t,j⟩:=zU.mp i1;cases q:atI ds i with
   | none=>simp only [xv,q] at r
   | some c=>
    simp only [xv,q] at r;obtain⟨w,e1,e2⟩:=j.atI q;exact Aq value slice Rw s σ H _ _ v u Q I rx ry ⟨a,vs,i,w,rfl,rfl,t.sq,e1,om n hS r e2⟩ hs
  | ref a=>
   have e1:=aZ.mp i1;subst e1;cases z:S a with
   | none=>simp only [xv,z] at r
   | some o=>
    cases o with
    | dic=>simp only [xv,z] at r
    | exc _=>simp only [xv,z] at r
    | fn _=>simp only [xv,z] at r
    | tbl _=>simp only [xv,z] at r
    | gen _=>simp only [xv,z] at r
    | lst ds=>
     obtain⟨vs,hl,j⟩:=hS.lst z;cases q:atI ds i with
     | none=>simp only [xv,z,q] at r
     | some c=>
      simp only [xv,z,q] at r;obtain⟨w,e1,e2⟩:=j.atI q;exact Aq value slice Rw s σ H _ _ v u Q I rx ry ⟨a,vs,i,w,rfl,rfl,jv.of hl,e1,om n hS r e2⟩ hs
  | _=>exact(show False from r).elim
 | _=>
  cases d <;> exact(show False from r).elim
end
abbrev ce:=List D->DH->DK->Prop
def xn (K:Fg) (r:ce):List V->Hp->VK->Prop:=λxs H Q=>∃ ds S k,IsDs K H ds xs/\Hs K H S/\r ds S k/\∀ d' S' v H',k d' S'->Kp H H'->Hs K H' S'->cq K H' d' v->Q v H'
def vD (r:ce) (t:DA):DE:=λL S k=>t L S λds S1=>r ds S1 k
section
variable {X:Cx} {x:Str} {p pos:Pos} {e:Rj} {es:List Rj} {t:DA} {id T:Rs} {r:ce}
theorem xO {K:Fg}:∀ σ H Q,up K (vD r t) σ H Q->OG (xn K r) (yA K t) σ H Q:=fun σ H Q ⟨L,S,k,hL,hS,h,n⟩=>
 yA.go hL hS h λds S1 vs H1 h1 k1 hL1 hS1 i1=>⟨ds,S1,k,i1,hS1,h1,λd' S' v H' q k3 z1 z2=>n d' S' v H' q (k1.trans k3) z1 z2⟩
def cX (K:Fg) (F:ce):Sp:=λvs H Q _=>xn K F vs H Q
structure aN (P:Rk) (w:Rn) (K:Fg) (mg:Str->Ri Rg) (base:Ro) (x:Str) (n:Nat) (F:ce):Prop where
 ex:∃ f fd ps,aL P w K mg base cN n f fd ps (cX K F)/\mg x=some (.ref f)/\PySem.W.keepIn K (.ref f)=true/\ju K fd ps []
theorem Ju {n:Nat} {F:ce} (c:aN X.prog X.w X.K X.mg X.base x n F) (hr:b3 n X.A) (hg:Gl X x) (ha:PA X (e::es) (yA X.K t)) (hdb:(x == ("__debug__":Str))=false:=by decide)
  (he:starEach (e::es) X.env=(false,eval e X.env)::starEach es X.env:=by exact cQ rfl) (hpl:(backTo pos (starEach es X.env)).any (·.1)=false:=by exact fi rfl):
  PE X (.Call (.Name x p) (e::es) [] pos) (up X.K (vD F t)):=by
 obtain⟨f,fd,ps,F1,h1,h2,h3⟩:=c.ex;refine PE.imp (A8 F1 hr hg h1 h2 h3 .nil LI ha hdb he hpl) fun σ H Q z9=>?_
 obtain⟨L,S,k,hL,hS,h,n⟩:=z9;refine yA.go hL hS h λds S1 vs H1 h1 k1 hL1 hS1 i1=>?_
 show cX X.K F (vs++[]) H1 Q E0
 rw [Qn];exact⟨ds,S1,k,i1,hS1,h1,λd' S' v H' q k3 z1 z2=>n d' S' v H' q (k1.trans k3) z1 z2⟩
def LB:ce:=λds S k=>match ds with
 | [.int i]=>k (.int (if i < 0 then -i else i)) S
 | _=>False
theorem jl {K:Fg} {H:Hp} {d:D} {xs:List V} (h:IsDs K H [d] xs):∃ x,xs=[x]/\cq K H d x:=by
 obtain⟨v,r,rfl,h1,h2⟩:=dJ.mp h;rw [k_.mp h2];exact⟨v,rfl,h1⟩
theorem Bf {K:Fg} {H:Hp} {d e:D} {xs:List V} (h:IsDs K H [d,e] xs):∃ x y,xs=[x,y]/\cq K H d x/\cq K H e y:=by
 obtain⟨v,r,rfl,h1,h2⟩:=dJ.mp h;obtain⟨y,rfl,h3⟩:=jl h2;exact⟨v,y,rfl,h1,h3⟩
theorem Bh:dw X (.builtin "abs") (xn X.K LB):=by
 intro Rw s σ H xs us Q I rs h;obtain⟨ds,S,k,i,hS,r,n⟩:=h;unfold LB at r
 split at r
 ·obtain⟨x,rfl,i1⟩:=jl i;have e1:=isInt.mp i1;subst e1;exact E3 Rw s σ H _ us Q I rs ⟨_,rfl,om n hS r (isInt.mpr rfl)⟩
 ·exact r.elim
def Jo:ce:=λds S k=>match ds with
 | [.tup xs]=>k (.int xs.length) S
 | [.rl xs]=>k (.int xs.length) S
 | [.ref a]=>(match S a with
  | some (.lst xs)=>k (.int xs.length) S
  | _=>False)
 | _=>False
theorem Ni:dw X (.builtin "len") (xn X.K Jo):=by
 intro Rw s σ H xs us Q I rs h;obtain⟨ds,S,k,i,hS,r,n⟩:=h;unfold Jo at r
 split at r
 ·obtain⟨x,rfl,i1⟩:=jl i;obtain⟨a,vs,rfl,t,j⟩:=fe.mp i1;exact kN Rw s σ H _ us Q I rs ⟨a,vs,rfl,.inr t,by rw [<- j.length]; exact om n hS r (isInt.mpr rfl)⟩
 ·obtain⟨x,rfl,i1⟩:=jl i;obtain⟨a,vs,rfl,t,j⟩:=zU.mp i1;exact kN Rw s σ H _ us Q I rs ⟨a,vs,rfl,.inl t.sq,by rw [<- j.length]; exact om n hS r (isInt.mpr rfl)⟩
 ·obtain⟨x,rfl,i1⟩:=jl i;have e1:=aZ.mp i1;subst e1
  split at r
  ·rename_i z
   obtain⟨vs,hl,j⟩:=hS.lst z;exact kN Rw s σ H _ us Q I rs ⟨_,vs,rfl,.inl (jv.of hl),by rw [<- j.length]; exact om n hS r (isInt.mpr rfl)⟩
  ·exact r.elim
 ·exact r.elim
def J0:ce:=λds S k=>match ds with
 | [.int i,.int j]=>k (.int (if j > i then j else i)) S
 | _=>False
def L7:ce:=λds S k=>match ds with
 | [.int i,.int j]=>k (.int (if j < i then j else i)) S
 | _=>False
theorem Ii (hc:X.calm=true:=by rfl):dw X (.builtin "max") (xn X.K J0):=by
 intro Rw s σ H xs us Q I rs h;obtain⟨ds,S,k,i,hS,r,n⟩:=h;unfold J0 at r
 split at r
 ·obtain⟨x,y,rfl,i1,i2⟩:=Bf i;have e1:=isInt.mp i1;have e2:=isInt.mp i2;subst e1; subst e2
  exact BN hc Rw s σ H _ us Q I rs ⟨_,_,rfl,om n hS r (isInt.mpr rfl)⟩
 ·exact r.elim
theorem MD (hc:X.calm=true:=by rfl):dw X (.builtin "min") (xn X.K L7):=by
 intro Rw s σ H xs us Q I rs h;obtain⟨ds,S,k,i,hS,r,n⟩:=h;unfold L7 at r
 split at r
 ·obtain⟨x,y,rfl,i1,i2⟩:=Bf i;have e1:=isInt.mp i1;have e2:=isInt.mp i2;subst e1; subst e2
  exact CU hc Rw s σ H _ us Q I rs ⟨_,_,rfl,om n hS r (isInt.mpr rfl)⟩
 ·exact r.elim
def Nb:D1:=λd S k=>match d with
 | .int i=>k (.int ((Builtin.Int.intBits i:Nat):Int)) S
 | _=>False
def DM (xs:List D) (lo hi:Ri Int):List D:=(xs.drop (HT.xu xs.length 0 lo)).take (HT.xu xs.length xs.length hi - HT.xu xs.length 0 lo)
abbrev Lh:=Lo->DH->(Ri Int->DH->Prop)->Prop
def Pt (K:Fg) (g:Lh):TO:=fun σ H Q=>∃ L S k,Lc K H L σ/\Hs K H S/\g L S k/\∀ i S' H',k i S'->Kp H H'->Hs K H' S'->Q i H'
def Lv:Lh:=λ_ S k=>k none S
def L5 (g:DE):Lh:=λL S k=>g L S λd S1=>match d with
 | .int i=>k (some i) S1
 | _=>False
end
section
variable {X:Cx} {st:Rp} {av:List Rp} {g h:DS} {e:Rj} {ge:DE} {pos:Pos}
def LM:DS:=λM L S=>M.nx L S
def ES (g h:DS):DS:=λM L S=>g {M with nx:=h M} L S
theorem Ia {K:Fg}:∀ N σ H,Ig K (ES g h) N σ H->Mf (Ig K g) (Ig K h) N σ H:=λN σ H ⟨L,S,M,hL,hS,q,r⟩=>
 ⟨L,S,{M with nx:=h M},hL,hS,q,⟨λL' S' σ' H' q' k' hL' hS'=>⟨L',S',M,hL',hS',q',r.kp k'⟩,r.rt,r.bk,r.ct⟩⟩
def MW (ge:DE):DS:=λM L S=>ge L S λ_ S1=>M.nx L S1
def LD (ge:DE):DS:=λM L S=>ge L S M.rt
def JX (c:DT) (g h:DS):DS:=λM L S=>c L S λb S1=>if b=true then g M L S1 else h M L S1
def Kx:DS:=λ_ _ _=>False
def L9 (i:Nat) (ge:DE):DS:=λM L S=>ge L S λd S1=>M.nx (L.set i (some d)) S1
def Oc (i j:Nat) (ta:DA):DS:=λM L S=>ta L S λds S1=>match ds with
 | [d,e]=>M.nx ((L.set i (some d)).set j (some e)) S1
 | _=>False
abbrev DG:=D->Lo->DH->(Lo->DH->Prop)->Prop
def Lk (K:Fg) (g:DG):TG:=λv σ H Q=>∃ d L S k,cq K H d v/\Lc K H L σ/\Hs K H S/\g d L S k/\∀ L' S' σ' H',k L' S'->Kp H H'->Lc K H' L' σ'->Hs K H' S'->Q σ' H'
theorem PG.imp {e:Rj} {t t':TG} (h:PG X e t) (i:∀ v σ H Q,t' v σ H Q->t v σ H Q):PG X e t':=λRw s σ H v u Q I rv q=>h Rw s σ H v u Q I rv (i v σ H Q q)
def tE (i:Nat):DG:=λd L S k=>k (L.set i (some d)) S
abbrev Gk:=List D->Lo->DH->(Lo->DH->Prop)->Prop
def NS (K:Fg) (g:Gk):C6:=λv σ H Q=>∃ d L S k,IsDs K H d v/\Lc K H L σ/\Hs K H S/\g d L S k/\∀ L' S' σ' H',k L' S'->Kp H H'->Lc K H' L' σ'->Hs K H' S'->Q σ' H'
theorem EB.imp {e:List Rj} {t t':C6} (h:EB X e t) (i:∀ v σ H Q,t' v σ H Q->t v σ H Q):EB X e t':=λRw s σ H v u Q I rv q=>h Rw s σ H v u Q I rv (i v σ H Q q)
def Ij:Gk:=λds L S k=>ds=[]/\k L S
def zi (t:DG) (u:Gk):Gk:=λds L S k=>match ds with
 | d::r=>t d L S λL1 S1=>u r L1 S1 k
 | []=>False
def Nz (ge:DE) (g:DG):DS:=λM L S=>ge L S λd S1=>g d L S1 M.nx
def JP (c:DT) (b:DS):DS:=λM L S=>∃ W:Nat->Lo->DH->Prop,(∃ m,W m L S)/\∀ m L S,W m L S->
 c L S λt S1=>if t=true then ∃ N:Lo->DH->Prop,(∀ L' S',N L' S'->∃ m',m' < m/\W m' L' S')/\b {M with nx:=N,ct:=N,bk:=M.nx} L S1 else M.nx L S1
def fJ (ok:DH->Prop) (g:DG) (b:DS) (M:oN):List D->Lo->DH->Prop
 | [],L,S=>ok S/\M.nx L S
 | d::r,L,S=>ok S/\g d L S λL1 S1=>b {M with nx:=λL2 S2=>fJ ok g b M r L2 S2,ct:=λL2 S2=>fJ ok g b M r L2 S2,bk:=M.nx} L1 S1
theorem sf {K:Fg} {ok:DH->Prop} {gg:DG} {b:DS} {M:oN} {ds:List D} {L:Lo} {S:DH} {N:s9} {σ:L2.St} {H:Hp} {J:It} (hL:Lc K H L σ) (hS:Hs K H S) (h:fJ ok gg b M ds L S) (r:xq K H M N)
  (hgo:∀ i d S1 H1,ds[i]?=some d->Kp H H1->Hs K H1 S1->ok S1->J.go i H1/\∀ x H',J.yld i H1 x H'->H'=H1/\cq K H1 d x)
  (hst:∀ S1 H1,Kp H H1->Hs K H1 S1->ok S1->J.stop ds.length H1):
  ∃ W:Nat->Nat->L2.St->Hp->Prop,(∃ m,W 0 m σ H)/\∀ i m σ H,W i m σ H->
   (J.stop i H/\N.nx σ H)\/(J.go i H/\∃ N':L2.St->Hp->Prop,(∀ σ' H',N' σ' H'->∃ m',m' < m/\W (i+1) m' σ' H')/\∀ x H',J.yld i H x H'->Lk K gg x σ H' fun σ2 H2=>Ig K b {N with nx:=N',ct:=N',bk:=N.nx} σ2 H2):=by
 refine⟨λi m σ1 H1=>m=ds.length - i/\i<=ds.length/\∃ L1 S1,Lc K H1 L1 σ1/\Hs K H1 S1/\Kp H H1/\fJ ok gg b M (ds.drop i) L1 S1,⟨ds.length,by simp,QU _,L,S,hL,hS,Kp.refl H,h⟩,?_⟩
 rintro i m σ1 H1 ⟨rfl,hi,L1,S1,hL1,hS1,k1,w1⟩
 by_cases hlt:i < ds.length
 ·have e:ds.drop i=ds[i]::ds.drop (i+1):=QQ hlt;rw [e] at w1;obtain⟨o1,w1⟩:=w1;obtain⟨g1,y1⟩:=hgo i ds[i] S1 H1 (by simp [hlt]) k1 hS1 o1
  refine .inr ⟨g1,fun σ' H'=>i+1<=ds.length/\∃ L' S',Lc K H' L' σ'/\Hs K H' S'/\Kp H H'/\fJ ok gg b M (ds.drop (i+1)) L' S',fun σ' H' z9=>by obtain⟨q1,q2⟩:=z9; exact⟨ds.length - (i+1),by omega,rfl,q1,q2⟩,λx H' y=>?_⟩
  obtain⟨rfl,ix⟩:=y1 x H' y;refine⟨ds[i],L1,S1,_,ix,hL1,hS1,w1,λL2 S2 σ2 H2 q k2 hL2 hS2=>⟨L2,S2,_,hL2,hS2,q,?_⟩⟩
  have r2:=r.kp (k1.trans k2);exact⟨λL3 S3 σ3 H3 q3 k3 hL3 hS3=>⟨hlt,L3,S3,hL3,hS3,(k1.trans k2).trans k3,q3⟩,r2.rt,r2.nx,λL3 S3 σ3 H3 q3 k3 hL3 hS3=>⟨hlt,L3,S3,hL3,hS3,(k1.trans k2).trans k3,q3⟩⟩
 ·have e:i=ds.length:=by omega
  subst e;rw [List.drop_length] at w1;obtain⟨o1,w1⟩:=w1;exact .inl ⟨hst S1 H1 k1 hS1 o1,r.nx L1 S1 σ1 H1 w1 k1 hL1 hS1⟩
def bh (S:DH):D->Ri (List D×Ri Rh)
 | .tup ds=>some (ds,none)
 | .rl ds=>some (ds,none)
 | .ref a=>(match S a with
  | some (.lst ds)=>some (ds,some a)
  | _=>none)
 | _=>none
def fQ:List D×Ri Rh->DH->Prop
 | (_,none)=>λ_=>True
 | (ds,some a)=>λS=>S a=some (.lst ds)
theorem PI.imp {tg e:Rj} {w w':TI} (h:PI X tg e w) (i:∀ σ H R,w' σ H R->w σ H R):PI X tg e w':=λRw s σ H R I q=>h Rw s σ H R I (i σ H R q)
def Oy (K:Fg) (t:TE):TI:=fun σ H R=>t σ H λx H1=>∃ a,x=.ref a/\(((∃ xs,jv K H1 a xs)/\R (M_ K a) H1)\/((∃ xs,lU K H1 a xs)/\R (MA K a) H1))
theorem EG {tg l:Rj} {tl:TE} (hl:PE X l tl):PI X tg l (Oy X.K tl):=by
 intro Rw s σ H R I h;refine cu (hl Rw s σ H _ I h) λv s1 z9=>?_
 obtain⟨x,H1,I1,r1,q1⟩:=z9;obtain⟨a,e,q1⟩:=q1;subst e;cases r1;rcases q1 with ⟨⟨xs,hq⟩,q⟩ | ⟨⟨xs,hq⟩,q⟩
 ·obtain⟨its,rv,p,hz⟩:=I1.list hq;refine wpAny_pyIter_list p.isList ?_;refine⟨s1.heap.objs.size,[s1.heap.objs.size],_,_,H1,rfl,I1.kept (t':=s1.toks) λb o e=>PZ _ e,Bw a _,⟨_,P1 _ rfl,rfl,rfl⟩,λb hb=>?_,q⟩
  have e:b=s1.heap.objs.size:=by simpa using hb
  subst e;exact I1.fpOk (P4 _) (I1.hok.fresh (P4 _))
 ·obtain⟨its,rv,p,hz⟩:=I1.tuple hq;refine wpAny_pyIter_tuple (show s1.heap.IsTuple a its.toArray from p) ?_
  refine⟨s1.heap.objs.size,[s1.heap.objs.size],_,_,H1,rfl,I1.kept (t':=s1.toks) λb o e=>PZ _ e,yW a _,⟨_,P1 _ rfl,rfl,rfl⟩,λb hb=>?_,q⟩
  have e:b=s1.heap.objs.size:=by simpa using hb
  subst e;exact I1.fpOk (P4 _) (I1.hok.fresh (P4 _))
def NB (ta:DA) (g:DG) (b:DS):DS:=λM L S=>ta L S λds S1=>match ds with
 | [.int n]=>(-(2 ^ 62)<=n/\n < 2 ^ 62)/\fJ (λ_=>True) g b M ((List.range n.toNat).map λi=>D.int (i:Nat)) L S1
 | _=>False
end
section
variable {P:Rk} {w:Rn} {K:Fg} {mg:Str->Ri Rg} {base:Ro}
theorem _root_.L2.xo.okD {x Rx:Str} {st:Rp} {f:Rh} {fd:FuncData} {N ps:List Str} {k:Nat} {F:ce} (Fn:xo K x Rx st f fd) (Sc:ar N ps (aj st)) (len:∀ ds S k,F ds S k->ds.length=ps.length)
  (hbody:∀ (cdv:Rg) (A:Rm) (outer:List Env) (s:Rf) (H:Hp) (E:XK),b3 k (A.deeper (envOfC Rx (aj st) s.heap.objs.size f cdv))->
   ∃ g,ub (de cN P w K mg base N Rx (aj st) f cdv A outer s H E).nox (bL st) (Ig K g)/\
    ∀ ds S k,F ds S k->g {nx:=λ_ S'=>k .non S',rt:=k} (ds.map some++List.replicate (N.length - ps.length) none) S):aL P w K mg base cN (k+1) f fd ps (cX K F):=by
 refine Fn.ok Sc (λvs H Q E h=>?_) (λcdv A outer s H vs Q E hr h=>?_)
 ·obtain⟨ds,S,k,i,_,q,_⟩:=h;rw [<- i.length];exact len ds S k q
 ·obtain⟨g,hg,q⟩:=hbody cdv A outer s H E hr;obtain⟨ds,S,k',i,hS,h,n⟩:=h;refine⟨_,hg,ds.map some++List.replicate (N.length - ps.length) none,S,_,?_,hS,q ds S k' h,?_⟩
  ·unfold L2.start;rw [<- i.length,len ds S k' h];exact Lc.start _ i
  ·exact⟨λL S' σ H' h1 k1 _ hS'=>n _ S' _ H' h1 k1 hS' (fY.mpr rfl),λd S' v H' h1 k1 hS' i1=>n d S' v H' h1 k1 hS' i1,λ_ _ _ _ h1=>h1.elim,λ_ _ _ _ h1=>h1.elim⟩
theorem aN.mk' {x Rx:Str} {st:Rp} {f:Rh} {fd:FuncData} {ps:List Str} {n:Nat} {F:ce} (Fn:xo K x Rx st f fd) (h:aL P w K mg base cN n f fd ps (cX K F)) (hm:mg x=some (.ref f)) (hb:ju K fd ps []):aN P w K mg base x n F:=
 ⟨f,fd,ps,h,hm,Fn.kp,hb⟩
end
end DL
namespace DL
open PySem PySem.Spec PyProof.Rows L2 HM
theorem JC {K:Fg} {H:Hp} {a:Rh} {ns:List Int} {F:ce} {E:XK} (ho:GH H) (hS:jv K H a (ns.map V.int)) (h:F [.rl (ns.map D.int)] (λ_=>none) (λd _=>d=.bl true)):cX K F [.ref a] H (λv _=>v=.bl true) E:=by
 refine⟨[.rl (ns.map D.int)],λ_=>none,λd _=>d=.bl true,IsDs.cons (zU.mpr ⟨a,ns.map V.int,rfl,?_,?_⟩) IsDs.nil,λa o e=>(by cases e),h,λd' S' v H' e _ _ i=>?_⟩
 ·rcases hS with (h1 | h1) | h1
  ·rcases ho a with z | ⟨o,xs,z⟩
   ·rw [z] at h1; cases h1
   ·rw [z] at h1; cases h1
  ·exact .inl h1
  ·exact .inr h1
 ·clear h hS
  induction ns with
  | nil=>exact IsDs.nil
  | cons n ns ih=>exact IsDs.cons (isInt.mpr rfl) ih
 ·subst e;exact cU.mp i
theorem kZ {m n:Nat} {x y:Int} (hx:Bt m x) (hy:Bt n y) (h:m+n<=134217728:=by decide):IntMulOk x y:=IntMulOk.of_le (intBits_le_iff.mpr hx) (intBits_le_iff.mpr hy) h
theorem zr {m:Nat} {y:Int} (h0:y≠0) (hy:Bt m y) (h:m<=9000:=by decide):uU x y:=⟨h0,(Nat.log2_lt (by omega)).mpr (hy.mono h)⟩
def pr (a b:Int):D:=.tup [.int a,.int b]
def fr (q:Rat):D:=pr q.num (q.den:Int)
end DL
namespace DL
theorem m_ {x:D} {r:List D}:L2.atI (x::r) 0=some x:=L2.mT (j:=0) rfl
theorem HY {x y:D} {r:List D}:L2.atI (x::y::r) 1=some y:=L2.mT (j:=1) rfl
theorem MM {x y z:D} {r:List D}:L2.atI (x::y::z::r) 2=some z:=L2.mT (j:=2) rfl
theorem OC {x y z u:D} {r:List D}:L2.atI (x::y::z::u::r) 3=some u:=L2.mT (j:=3) rfl
theorem Nw {n:Nat}:L2.F8 (n+1) 0=some 0:=by
 unfold L2.F8;rw [if_pos (by decide),if_pos (by omega)]
 rfl
end DL
namespace DL
open PySem PySem.Spec PyProof.Rows L2
def JS:D->D->Ri Rr
 | .int i,.int j=>some (i == j)
 | .bl i,.bl j=>some (i == j)
 | .str i,.str j=>some (i == j)
 | .non,.non=>some true
 | .non,.int _=>some false
 | .int _,.non=>some false
 | .non,.bl _=>some false
 | .bl _,.non=>some false
 | .bl a,.int j=>some ((if a then 1 else 0) == j)
 | .int i,.bl b=>some (i == (if b then 1 else 0))
 | _,_=>none
def l_ (f:D->D->Ri Rr):List D->List D->Ri Rr
 | [],[]=>some true
 | [],_::_=>some false
 | _::_,[]=>some false
 | x::xs,y::ys=>match f x y,l_ f xs ys with
  | some a,some b=>some (a && b)
  | _,_=>none
def qE:Nat->D->D->Ri Rr
 | 0,d,e=>JS d e
 | n+1,.tup xs,.tup ys=>l_ (qE n) xs ys
 | _+1,d,e=>JS d e
theorem yJ (n:Nat) (d e:D):qE (n+1) d e=(match d,e with | .tup xs,.tup ys=>l_ (qE n) xs ys | d,e=>JS d e):=by
 cases d <;> cases e <;> rfl
def lm (f:D->D->Ri Rr):List D->List D->Nat->Rr
 | x::_,y::_,0=>(f x y).getD false
 | _::xs,_::ys,j+1=>lm f xs ys j
 | _,_,_=>false
theorem F_ (e:Nat->Rr) (m:Nat):(List.range (m+1)).all e=(e 0 && (List.range m).all λj=>e (j+1)):=by
 rw [List.range_succ_eq_map,List.all_cons,List.all_map]
 rfl
theorem tw {f:D->D->Ri Rr}:∀ {xs ys:List D} {b:Rr},l_ f xs ys=some b->((List.range (min xs.length ys.length)).all (lm f xs ys) && xs.length == ys.length)=b
 | [],[],b,h=>by unfold l_ at h; cases h; rfl
 | [],_::_,b,h=>by unfold l_ at h; cases h; simp
 | _::_,[],b,h=>by unfold l_ at h; cases h; simp
 | x::xs,y::ys,b,h=>by
  unfold l_ at h
  split at h
  ·rename_i a c e1 e2
   cases h;have ih:=tw e2;rw [Qf,Qf,Nat.succ_min_succ,F_];have e3:lm f (x::xs) (y::ys) 0=a:=by unfold lm; rw [e1]; rfl
   rw [e3,Bool.and_assoc];have e4:(λj=>lm f (x::xs) (y::ys) (j+1))=lm f xs ys:=by funext j; rfl
   rw [e4];have e5:(xs.length+1 == ys.length+1)=(xs.length == ys.length):=by simp
   rw [e5,ih]
  ·cases h
theorem vR {f:D->D->Ri Rr}:∀ {xs ys:List D} {b:Rr} {j:Nat} {x y:D},l_ f xs ys=some b->xs[j]?=some x->ys[j]?=some y->f x y=some (lm f xs ys j)
 | [],_,_,_,_,_,_,e,_=>by simp at e
 | _::_,[],_,_,_,_,_,_,e=>by simp at e
 | x::xs,y::ys,b,0,x',y',h,e1,e2=>by
  simp at e1 e2
  subst e1; subst e2
  unfold l_ at h
  split at h
  ·rename_i a c q1 q2
   unfold lm;rw [q1]
   rfl
  ·cases h
 | x::xs,y::ys,b,j+1,x',y',h,e1,e2=>by
  unfold l_ at h
  split at h
  ·rename_i a c q1 q2
   unfold lm;exact vR q2 (by simpa using e1) (by simpa using e2)
  ·cases h
section
variable {X:Cx} {Rw:List (Rh×Rv)} {σ:L2.St} {H:Hp} {s:Rf}
theorem A4 {K:Fg} {ds es:List D} {xs ys:List V} {us ws:List Rg} {j:Nat} (i1:IsDs K H ds xs) (i2:IsDs K H es ys) (r1:bf xs us) (r2:bf ys ws) (h1:j < us.length) (h2:j < ws.length):
  ∃ d e x y,ds[j]?=some d/\es[j]?=some e/\cq K H d x/\cq K H e y/\aP x us[j]/\aP y ws[j]:=by
 have l1:=i1.length;have l2:=i2.length;have l3:=r1.length;have l4:=r2.length;have e1:ds[j]?=some ds[j]:=by simp [show j < ds.length by omega]
 have e2:es[j]?=some es[j]:=by simp [show j < es.length by omega]
 obtain⟨x,q1,d1⟩:=i1.get e1;obtain⟨y,q2,d2⟩:=i2.get e2;obtain⟨u,q3,rx⟩:=r1.get q1;obtain⟨w,q4,ry⟩:=r2.get q2;have f1:us[j]=u:=(QC.mp q3).2;have f2:ws[j]=w:=(QC.mp q4).2;exact⟨_,_,x,y,e1,e2,d1,d2,by rw [f1]; exact rx,by rw [f2]; exact ry⟩
theorem Dl {K:Fg} {A:Rm} {d e:D} {x y:V} {u w:Rg} {b:Rr} (h:JS d e=some b) (i1:cq K H d x) (i2:cq K H e y) (rx:aP x u) (ry:aP y w):SeqAt.EqAt A s u w b/\SeqAt.RcAt A s u w b:=by
 unfold JS at h
 split at h
 ·cases h; rw [isInt.mp i1] at rx; rw [isInt.mp i2] at ry; obtain⟨t,rfl⟩:=rx; obtain⟨t',rfl⟩:=ry; exact⟨(SeqAt.EqAt.int_int _ _ _ _),(SeqAt.RcAt.int_int _ _ _ _)⟩
 ·cases h; rw [cU.mp i1] at rx; rw [cU.mp i2] at ry; cases rx; cases ry; exact⟨(SeqAt.EqAt.bool_bool _ _),(SeqAt.RcAt.bool_bool _ _)⟩
 ·cases h; rw [j4.mp i1] at rx; rw [j4.mp i2] at ry; obtain⟨t,rfl⟩:=rx; obtain⟨t',rfl⟩:=ry; exact⟨(SeqAt.EqAt.str_str _ _ _ _),(SeqAt.RcAt.str_str _ _ _ _)⟩
 ·cases h; rw [fY.mp i1] at rx; rw [fY.mp i2] at ry; cases rx; cases ry; exact⟨SeqAt.EqAt.same _,SeqAt.RcAt.none_none⟩
 ·cases h; rw [fY.mp i1] at rx; rw [isInt.mp i2] at ry; cases rx; obtain⟨t',rfl⟩:=ry; exact⟨(SeqAt.EqAt.none_int _ _),(SeqAt.RcAt.none_int _ _)⟩
 ·cases h; rw [isInt.mp i1] at rx; rw [fY.mp i2] at ry; obtain⟨t,rfl⟩:=rx; cases ry; exact⟨(SeqAt.EqAt.int_none _ _),(SeqAt.RcAt.int_none _ _)⟩
 ·cases h; rw [fY.mp i1] at rx; rw [cU.mp i2] at ry; cases rx; cases ry; exact⟨(SeqAt.EqAt.none_bool _),(SeqAt.RcAt.none_bool _)⟩
 ·cases h; rw [cU.mp i1] at rx; rw [fY.mp i2] at ry; cases rx; cases ry; exact⟨(SeqAt.EqAt.bool_none _),(SeqAt.RcAt.bool_none _)⟩
 ·cases h; rw [cU.mp i1] at rx; rw [isInt.mp i2] at ry; cases rx; obtain⟨t',rfl⟩:=ry; exact⟨(SeqAt.EqAt.bool_int _ _ _),(SeqAt.RcAt.bool_int _ _ _)⟩
 ·cases h; rw [isInt.mp i1] at rx; rw [cU.mp i2] at ry; obtain⟨t,rfl⟩:=rx; cases ry; exact⟨(SeqAt.EqAt.int_bool _ _ _),(SeqAt.RcAt.int_bool _ _ _)⟩
 ·cases h
theorem xV {K:Fg} {d e:D} {x:V} {b:Rr} (h:JS d e=some b) (i1:cq K H d x) (i2:cq K H e x):b=true:=by
 unfold JS at h
 split at h
 ·cases h; have e1:=isInt.mp i1; have e2:=isInt.mp i2; rw [e1] at e2; cases e2; simp
 ·cases h; have e1:=cU.mp i1; have e2:=cU.mp i2; rw [e1] at e2; cases e2; simp
 ·cases h; have e1:=j4.mp i1; have e2:=j4.mp i2; rw [e1] at e2; cases e2; simp
 ·cases h; rfl
 ·have e1:=fY.mp i1; have e2:=isInt.mp i2; rw [e1] at e2; cases e2
 ·have e1:=isInt.mp i1; have e2:=fY.mp i2; rw [e1] at e2; cases e2
 ·have e1:=fY.mp i1; have e2:=cU.mp i2; rw [e1] at e2; cases e2
 ·have e1:=cU.mp i1; have e2:=fY.mp i2; rw [e1] at e2; cases e2
 ·have e1:=cU.mp i1; have e2:=isInt.mp i2; rw [e1] at e2; cases e2
 ·have e1:=isInt.mp i1; have e2:=cU.mp i2; rw [e1] at e2; cases e2
 ·cases h
theorem uQ {K:Fg} {f:D->D->Ri Rr} (hf:∀ d e x b,f d e=some b->cq K H d x->cq K H e x->b=true):∀ {ds es:List D} {xs:List V} {b:Rr},l_ f ds es=some b->IsDs K H ds xs->IsDs K H es xs->b=true
 | [],[],_,_,h,_,_=>by unfold l_ at h; cases h; rfl
 | [],_::_,_,_,_,i1,i2=>by
  have e1:=k_.mp i1;obtain⟨v,r,e2,_⟩:=dJ.mp i2;rw [e1] at e2; cases e2
 | _::_,[],_,_,_,i1,i2=>by
  have e1:=k_.mp i2;obtain⟨v,r,e2,_⟩:=dJ.mp i1;rw [e1] at e2; cases e2
 | d::ds,e::es,xs,b,h,i1,i2=>by
  obtain⟨v,r,e1,h1,h2⟩:=dJ.mp i1;obtain⟨v',r',e2,h3,h4⟩:=dJ.mp i2;rw [e1] at e2;cases e2;unfold l_ at h
  split at h
  ·rename_i a c q1 q2
   cases h;rw [hf _ _ _ _ q1 h1 h3,uQ hf q2 h2 h4]
   rfl
  ·cases h
theorem xL (I:aC X Rw σ H s):∀ (n:Nat) (d e:D) (x:V) (b:Rr),qE n d e=some b->cq X.K H d x->cq X.K H e x->b=true
 | 0,d,e,x,b,h,i1,i2=>xV (by unfold qE at h; exact h) i1 i2
 | n+1,d,e,x,b,h,i1,i2=>by
  rw [yJ] at h
  split at h
  ·rename_i xs ys
   obtain⟨a,vs,e1,t1,j1⟩:=fe.mp i1;obtain⟨a',vs',e2,t2,j2⟩:=fe.mp i2;rw [e1] at e2;cases e2;have q:=I.tuple_inj t1 t2;subst q;exact uQ (λd e x b=>xL I n d e x b) h j1 j2
  ·exact xV h i1 i2
theorem vJ (I:aC X Rw σ H s):∀ (n:Nat) (A:Rm) (d e:D) (x y:V) (u w:Rg) (b:Rr),A.units+n < cLine->qE n d e=some b->cq X.K H d x->cq X.K H e y->aP x u->aP y w->SeqAt.EqAt A s u w b/\SeqAt.RcAt A s u w b
 | 0,A,d,e,x,y,u,w,b,hu,h,i1,i2,rx,ry=>Dl (by unfold qE at h; exact h) i1 i2 rx ry
 | n+1,A,d,e,x,y,u,w,b,hu,h,i1,i2,rx,ry=>by
  have h0:=h;rw [yJ] at h
  split at h
  ·rename_i xs ys
   obtain⟨p,vs,rfl,t1,j1⟩:=fe.mp i1;obtain⟨q,vs',rfl,t2,j2⟩:=fe.mp i2;cases rx;cases ry;obtain⟨us,r1,p1,_⟩:=I.tuple t1;obtain⟨ws,r2,p2,_⟩:=I.tuple t2;have l1:=j1.length;have l2:=j2.length;have l3:=r1.length;have l4:=r2.length;have rc:SeqAt.RcAt A s (.ref p) (.ref q) b:=by
    have e:=tw h;have z:=SeqAt.RcAt.tuples (A:=A) (s:=s) (items:=us.toArray) (items2:=ws.toArray) (e:=lm (qE n) xs ys) (show s.heap.IsTuple p us.toArray from p1) (show s.heap.IsTuple q ws.toArray from p2) (by omega) (λj h1 h2=>by
     simp only [P8] at h1 h2
     obtain⟨d,e,x,y,q1,q2,d1,d2,rx,ry⟩:=A4 j1 j2 r1 r2 h1 h2;have:=(vJ I n A.in1 d e x y us[j] ws[j] _ (by show A.units+1+n < cLine; omega) (vR h q1 q2) d1 d2 rx ry).1
     simpa using this)
    simp only [P8] at z;rw [<- l3,<- l4,<- l1,<- l2,e] at z;exact z
   refine⟨?_,rc⟩
   by_cases hpq:p=q
   ·subst hpq;have:=xL I (n+1) _ _ _ _ h0 i1 i2;subst this;exact SeqAt.EqAt.same _
   ·exact SeqAt.EqAt.of_refs hpq rc
  ·exact Dl h i1 i2 rx ry
end
structure EJ (X:Cx) (e:Rj) (g:DE):Prop where
 h:PE X e (up X.K g)
structure TJ (X:Cx) (e:Rj) (g:DT):Prop where
 h:PT X e (Ai X.K g)
structure WJ (X:Cx) (e:Rj) (g:DT):Prop where
 h:PW X e (Ai X.K g)
structure AJ (X:Cx) (e:List Rj) (g:DA):Prop where
 h:PA X e (yA X.K g)
structure SJ (X:Cx) (e:Rp) (g:DS):Prop where
 h:PS X e (Ig X.K g)
structure zo (X:Cx) (e:List Rp) (g:DS):Prop where
 h:ub X e (Ig X.K g)
structure GJ (X:Cx) (e:Rj) (g:DG):Prop where
 h:PG X e (Lk X.K g)
structure MN (X:Cx) (e:List Rj) (g:Gk):Prop where
 h:EB X e (NS X.K g)
structure OJ (X:Cx) (e:Ri Rj) (g:Lh):Prop where
 h:PO X e (Pt X.K g)
theorem WJ.pt {X:Cx} {e:Rj} {g:DT} (h:WJ X e g):TJ X e g:=⟨PW.pt h.h⟩
section
variable {X:Cx} {a b c:Rj} {ga gb gc:DE} {pos:Pos}
theorem ai (i:Nat) {x:Str} (hN:X.N[i]?=some x:=by rfl) (hv:Af X.env.scope x:=by first | exact Or.inl rfl | exact Or.inr (Or.inl rfl) | exact Or.inr (Or.inr rfl)) (hd:(x == ("__debug__":Str))=false:=by decide) (hcd:(x == ("__classdict__":Str))=false:=by decide):EJ X (.Name x pos) (qj i):=⟨PE.imp (KH hN hv hd hcd) fun σ H Q ⟨L,S,k,hL,hS,h,n⟩=>by
  unfold qj at h
  split at h
  ·rename_i d e
   obtain⟨v,e1,e2⟩:=hL.get e;exact⟨v,e1,n d S v H h (Kp.refl H) hS e2⟩
  ·exact h.elim⟩
theorem ak {i j pos}:EJ X (.Constant (.int i) j pos) (dC (.int i)):=⟨LH K7 λ_=>isInt.mpr rfl⟩
theorem pk {i j pos}:EJ X (.Constant (.bool i) j pos) (dC (.bl i)):=⟨LH Lx λ_=>cU.mpr rfl⟩
theorem fT {j pos}:EJ X (.Constant .none j pos) (dC .non):=⟨LH JF λ_=>fY.mpr rfl⟩
theorem ik {i j pos}:EJ X (.Constant (.str i) j pos) (dC (.str i)):=⟨LH KU λ_=>j4.mpr rfl⟩
theorem ac:AJ X [] M8:=⟨PA.imp pM fun σ H Q z9=>by obtain⟨L,S,k,hL,hS,h,n⟩:=z9; exact n [] S [] H h (Kp.refl H) hS IsDs.nil⟩
theorem aa {es:List Rj} {t:DA} (ha:EJ X a ga) (hr:AJ X es t) (hs:starEach (a::es) X.env=(false,eval a X.env)::starEach es X.env:=by exact cQ rfl):AJ X (a::es) (Aw ga t):=⟨have ha:=ha.h; have hr:=hr.h; PA.imp (mU ha hr hs) fun σ H Q ⟨L,S,k,hL,hS,h,n⟩=>up.go hL hS h λd S1 v H1 h1 k1 hL1 hS1 i1=>yA.go hL1 hS1 h1 λds S2 vs H2 h2 k2 hL2 hS2 i2=>
  n (d::ds) S2 (v::vs) H2 h2 (k1.trans k2) hS2 (IsDs.cons (i1.kp k2) i2)⟩
theorem aw {X:Cx} {x:Str} {pos:Pos} {es:List Rj} {t:DA} (n:Nat) (hr:AJ X es t) (hN:X.N[n]?=some x:=by rfl) (hv:Af X.env.scope x:=by first | exact Or.inl rfl | exact Or.inr (Or.inl rfl) | exact Or.inr (Or.inr rfl)) (hd:(x == ("__debug__":Str))=false:=by decide) (hcd:(x == ("__classdict__":Str))=false:=by decide) (hs:starEach (.Name x pos::es) X.env=(false,eval (.Name x pos) X.env)::starEach es X.env:=by exact cQ rfl):AJ X (.Name x pos::es) (Aw (qj n) t):=aa (ai n hN hv hd hcd) hr hs
theorem au {es:List Rj} {x1} {t:DA} (h:AJ X es t):EJ X (.Tuple es x1 pos) (LQ t):=⟨have h:=h.h; PE.imp (K1 h) fun σ H Q ⟨L,S,k,hL,hS,h,n⟩=>yA.go hL hS h λds S1 vs H1 h1 k1 hL1 hS1 i1=>by
  refine⟨by rw [<- i1.length]; exact h1.1,λp hp=>?_⟩
  have k2:Kp H1 (bS H1 p (.tup vs)):=Kp.new hp;exact n (.tup ds) S1 _ _ h1.2 (k1.trans k2) (hS1.new hp) (fe.mpr ⟨p,vs,rfl,lU.of br,i1.kp k2⟩)⟩
theorem fX {es:List Rj} {t:DA} (h:AJ X es t):EJ X (.List es pos) (Ot t):=⟨have h:=h.h; PE.imp (K4 h) fun σ H Q ⟨L,S,k,hL,hS,h,n⟩=>yA.go hL hS h λds S1 vs H1 h1 k1 hL1 hS1 i1=>by
  refine⟨by rw [<- i1.length]; exact h1.1,λp hp=>?_⟩
  exact n (.ref p) _ _ _ (h1.2 p (hS1.free hp)) (k1.trans (Kp.new hp)) (hS1.newL hp i1) (aZ.mpr rfl)⟩
theorem az {op:Operator} {r:D2} (ho:jf X (binaryOp op) (mM X.K r)) (ha:EJ X a ga) (hb:EJ X b gb):EJ X (.BinOp a op b pos) (CY r ga gb):=⟨have ha:=ha.h; have hb:=hb.h; PE.imp (M7 ho ha hb) wj⟩
theorem wJ {op:CmpOp} {r:D2} (ho:jf X (compareOp op) (mM X.K r)) (ha:EJ X a ga) (hb:EJ X b gb) (hm:behindInMarks op b=false):EJ X (.Compare a [op] [b] pos) (CY r ga gb):=⟨have ha:=ha.h; have hb:=hb.h; PE.imp (GD ho ha hb hm) wj⟩
theorem cA {r:D2} (hr:AS X (mM X.K r)) (ha:EJ X a ga) (hb:EJ X b gb) (hs:rJ b):EJ X (.Subscript a b pos) (CY r ga gb):=⟨have ha:=ha.h; have hb:=hb.h; PE.imp (Nq hr ha hb hs) wj⟩
theorem Eg {op:UnaryOp} {r:D1} (ho:Mj X (unaryOp op) (O2 X.K r)) (ha:EJ X a ga):EJ X (.UnaryOp op a pos) (OR r ga):=⟨have ha:=ha.h; PE.imp (LV ho ha) fun σ H Q z9=>by obtain⟨L,S,k,hL,hS,h,n⟩:=z9; exact up.go hL hS h λd S1 v H1 h1 k1 hL1 hS1 i1=>⟨d,S1,k,i1,hS1,h1,λd' S' v H' q k3 z1 z2=>n d' S' v H' q (k1.trans k3) z1 z2⟩⟩
theorem aG {op:CmpOp} {r:D2} (ho:jf X (compareOp op) (mM X.K r)) (ha:EJ X a ga) (hb:EJ X b gb) (hm:behindInMarks op b=false):TJ X (.Compare a [op] [b] pos) (DQ (CY r ga gb)):=⟨have ha:=ha.h; have hb:=hb.h; PT.imp (PT.imp (G6 ho ha hb hm) fun σ H Q h=>wj σ H _ h) xK⟩
theorem fo {e:Rj} {g:DE} (h:EJ X e g) (he:∀ whole,isTrue e X.env whole=(do let v <- whole; standAt e.pos; holding [v] (truthy v)):=by intro _; rfl):TJ X e (DQ g):=⟨have h:=h.h; PT.imp (JE h he) xK⟩
end
section
variable {X:Cx} {a b c:Rj} {ga gb gc:DE} {pos:Pos}
variable {tA tB':DT} {av:List Rj}
theorem Dg (ha:TJ X a tA):WJ X (.BoolOp .And [a] pos) tA:=⟨have ha:=ha.h; Hm ha⟩
theorem rp (ha:TJ X a tA):WJ X (.BoolOp .Or [a] pos) tA:=⟨have ha:=ha.h; Jg ha⟩
theorem HA (ha:TJ X a tA) (hb:WJ X (.BoolOp .And (b::av) pos) tB'):WJ X (.BoolOp .And (a::b::av) pos) (Nf tA tB'):=⟨have ha:=ha.h; have hb:=hb.h; PW.imp (JO ha hb) fun σ H Q ⟨L,S,k,hL,hS,h,n⟩=>Ai.go hL hS h λc S1 H1 h1 k1 hL1 hS1=>by
  cases c with
  | true=>
   rw [if_pos rfl] at h1 ⊢;exact Ai.go hL1 hS1 h1 λc2 S2 H2 h2 k2 _ hS2=>n c2 S2 H2 h2 (k1.trans k2) hS2
  | false=>
   rw [if_neg P7] at h1 ⊢;exact n false S1 H1 h1 k1 hS1⟩
theorem wu (ha:TJ X a tA) (hb:WJ X (.BoolOp .Or (b::av) pos) tB'):WJ X (.BoolOp .Or (a::b::av) pos) (OE tA tB'):=⟨have ha:=ha.h; have hb:=hb.h; PW.imp (NC ha hb) fun σ H Q ⟨L,S,k,hL,hS,h,n⟩=>Ai.go hL hS h λc S1 H1 h1 k1 hL1 hS1=>by
  cases c with
  | true=>
   rw [if_pos rfl] at h1 ⊢;exact n true S1 H1 h1 k1 hS1
  | false=>
   rw [if_neg P7] at h1 ⊢;exact Ai.go hL1 hS1 h1 λc2 S2 H2 h2 k2 _ hS2=>n c2 S2 H2 h2 (k1.trans k2) hS2⟩
theorem kf (ha:TJ X a tA):TJ X (.UnaryOp .Not a pos) (LJ tA):=⟨have ha:=ha.h; PT.imp (Kj ha) fun σ H Q z9=>by obtain⟨L,S,k,hL,hS,h,n⟩:=z9; exact Ai.go hL hS h λc S1 H1 h1 k1 hL1 hS1=>n _ S1 H1 h1 k1 hS1⟩
theorem JQ {op} (h:EJ X a ga):EJ X (.BoolOp op [a] pos) ga:=⟨have h:=h.h; Kn h⟩
theorem Kk (ha:EJ X a ga) (hb:EJ X (.BoolOp .And (b::av) pos) gb):EJ X (.BoolOp .And (a::b::av) pos) (MF ga gb):=⟨have ha:=ha.h; have hb:=hb.h; PE.imp (J' ha hb) fun σ H Q ⟨L,S,k,hL,hS,h,n⟩=>up.go hL hS h λd S1 v H1 h1 k1 hL1 hS1 i1=>by
  cases d with
  | bl c=>
   have e:=cU.mp i1;subst e;refine⟨c,rfl,?_⟩;have h1:if c=true then _ else _:=h1
   cases c with
   | true=>
    rw [if_pos rfl] at h1 ⊢;exact up.go hL1 hS1 h1 λd2 S2 v2 H2 h2 k2 _ hS2 i2=>n d2 S2 v2 H2 h2 (k1.trans k2) hS2 i2
   | false=>
    rw [if_neg P7] at h1 ⊢;exact n _ S1 _ H1 h1 k1 hS1 (cU.mpr rfl)
  | _=>exact(show False from h1).elim⟩
theorem x_ {c:Rj} (hc:TJ X c tA) (ha:EJ X a ga) (hb:EJ X b gb):EJ X (.IfExp c a b pos) (Pr tA ga gb):=⟨have hc:=hc.h; have ha:=ha.h; have hb:=hb.h; PE.imp (E6 hc ha hb) fun σ H Q ⟨L,S,k,hL,hS,h,n⟩=>Ai.go hL hS h λd S1 H1 h1 k1 hL1 hS1=>by
  cases d with
  | true=>
   rw [if_pos rfl] at h1 ⊢;exact up.go hL1 hS1 h1 λd2 S2 v2 H2 h2 k2 _ hS2 i2=>n d2 S2 v2 H2 h2 (k1.trans k2) hS2 i2
  | false=>
   rw [if_neg P7] at h1 ⊢;exact up.go hL1 hS1 h1 λd2 S2 v2 H2 h2 k2 _ hS2 i2=>n d2 S2 v2 H2 h2 (k1.trans k2) hS2 i2⟩
end
section
variable {X:Cx} {x:Str} {p pos:Pos} {e:Rj} {es:List Rj} {t:DA} {id T:Rs} {r:ce}
theorem cm (hc:dw X (.builtin id) (xn X.K r)) (hg:Gl X x) (hm:X.mg x=none) (hv:bootBuiltins x=some (.builtin id)) (ha:AJ X (e::es) t) (hn:x≠"__name__":=by decide) (hdb:(x == ("__debug__":Str))=false:=by decide) (he:starEach (e::es) X.env=(false,eval e X.env)::starEach es X.env:=by exact cQ rfl) (hpl:(backTo pos (starEach es X.env)).any (·.1)=false:=by exact fi rfl):EJ X (.Call (.Name x p) (e::es) [] pos) (vD r t):=⟨have ha:=ha.h; PE.imp (yn hc hg hm hv ha hn hdb he hpl) xO⟩
theorem xA (hc:dw X (.type T) (xn X.K r)) (hg:Gl X x) (hm:X.mg x=none) (hv:bootBuiltins x=some (.type T)) (ha:AJ X (e::es) t) (hn:x≠"__name__":=by decide) (hdb:(x == ("__debug__":Str))=false:=by decide) (he:starEach (e::es) X.env=(false,eval e X.env)::starEach es X.env:=by exact cQ rfl) (hpl:(backTo pos (starEach es X.env)).any (·.1)=false:=by exact fi rfl):EJ X (.Call (.Name x p) (e::es) [] pos) (vD r t):=⟨have ha:=ha.h; PE.imp (pN hc hg hm hv ha hn hdb he hpl) xO⟩
theorem GB {n:Nat} {F:ce} (c:aN X.prog X.w X.K X.mg X.base x n F) (hr:b3 n X.A) (hg:Gl X x) (ha:AJ X (e::es) t) (hdb:(x == ("__debug__":Str))=false:=by decide) (he:starEach (e::es) X.env=(false,eval e X.env)::starEach es X.env:=by exact cQ rfl) (hpl:(backTo pos (starEach es X.env)).any (·.1)=false:=by exact fi rfl):EJ X (.Call (.Name x p) (e::es) [] pos) (vD F t):=⟨Ju (c:=c) (hr:=hr) (hg:=hg) (ha:=ha.h) (hdb:=hdb) (he:=he) (hpl:=hpl)⟩
theorem dq {n m:Nat} {F:ce} (c:aN X.prog X.w X.K X.mg X.base x n F) (hr:b3 m X.A) (ha:AJ X (e::es) t) (hg:Gl X x:=by exact rfl) (le:n<=m:=by decide) (hdb:(x == ("__debug__":Str))=false:=by decide) (he:starEach (e::es) X.env=(false,eval e X.env)::starEach es X.env:=by exact cQ rfl) (hpl:(backTo pos (starEach es X.env)).any (·.1)=false:=by exact fi rfl):EJ X (.Call (.Name x p) (e::es) [] pos) (vD F t):=GB c (hr.mono le) hg ha hdb he hpl
theorem GL {o:Rj} {g:DE} {apos cpos:Pos} (ho:EJ X o g) (hbase:attributeBase o "bit_length" X.env (eval o X.env)=eval o X.env:=by rfl) (hline:(apos.endLine == cpos.line)=true:=by rfl):EJ X (.Call (.Attribute o "bit_length" apos) [] [] cpos) (OR Nb g):=⟨by
 have ho:=ho.h;refine PE.imp (KW PySem.F.plainAttrs_int PySem.F.slot_int_bit_length PySem.F.type_int_bit_length (r:=λx xs H Q=>∃ i,x=.int i/\xs=[]/\Q (.int ((Builtin.Int.intBits i:Nat):Int)) H) ?_ ho hbase hline) fun σ H Q ⟨L,S,k,hL,hS,h,n⟩=>?_
 ·intro Rw s σ H x xs v us Q I rx rs h;obtain⟨i,rfl,rfl,q⟩:=h;obtain⟨t,rfl⟩:=rx;cases rs;exact call_int_bit_length ⟨.int _,H,I.tok _,⟨_,rfl⟩,q⟩
 ·refine up.go hL hS h λd S1 v H1 h1 k1 hL1 hS1 i1=>?_
  cases d with
  | int i=>
   have e1:=isInt.mp i1;subst e1;exact⟨rfl,i,rfl,rfl,n _ S1 _ H1 h1 k1 hS1 (isInt.mpr rfl)⟩
  | _=>exact(show False from h1).elim⟩
theorem FU:OJ X none Lv:=⟨by
 intro Rw s σ H Q I h;obtain⟨L,S,k,hL,hS,h,n⟩:=h;exact HP Rw s σ H Q I (n none S H h (Kp.refl H) hS)⟩
theorem Ed {e:Rj} {g:DE} (he:EJ X e g):OJ X (some e) (L5 g):=⟨by
 have he:=he.h;intro Rw s σ H Q I h;obtain⟨L,S,k,hL,hS,h,n⟩:=h;refine G7 he Rw s σ H Q I (up.go hL hS h λd S1 v H1 h1 k1 hL1 hS1 i1=>?_)
 cases d with
 | int i=>
  have e1:=isInt.mp i1;subst e1;exact⟨i,rfl,n (some i) S1 H1 h1 k1 hS1⟩
 | _=>exact(show False from h1).elim⟩
end
section
variable {X:Cx} {st:Rp} {av:List Rp} {g h:DS} {e:Rj} {ge:DE} {pos:Pos}
theorem aO:zo X [] LM:=⟨ub.imp Hc λN σ H z9=>by obtain⟨L,S,M,hL,hS,h,r⟩:=z9; exact r.nx L S σ H h (Kp.refl H) hL hS⟩
theorem af (h1:SJ X st g) (h2:zo X av h):zo X (st::av) (ES g h):=⟨have h1:=h1.h; have h2:=h2.h; ub.imp (Fu h1 h2) Ia⟩
theorem ag (h1:SJ X st g):zo X [st] g:=⟨have h1:=h1.h; GW h1⟩
theorem cS (he:EJ X e ge) (hs:swapsWith e none pos.line X.env=pure false:=by rfl):SJ X (.Expr e pos) (MW ge):=⟨have he:=he.h; PS.imp (Gz he hs) λN σ H z9=>by obtain⟨L,S,M,hL,hS,h,r⟩:=z9; exact up.go hL hS h λd S1 v H1 h1 k1 hL1 hS1 _=>r.nx L S1 σ H1 h1 k1 hL1 hS1⟩
theorem am (he:EJ X e ge):SJ X (.Return (some e) pos) (LD ge):=⟨have he:=he.h; PS.imp (K9 he) λN σ H z9=>by obtain⟨L,S,M,hL,hS,h,r⟩:=z9; exact up.go hL hS h λd S1 v H1 h1 k1 _ hS1 i1=>r.rt d S1 v H1 h1 k1 hS1 i1⟩
theorem aK {c:Rj} {a b:List Rp} {gc:DT} (hc:TJ X c gc) (ha:zo X a g) (hb:zo X b h):SJ X (.If c a b pos) (JX gc g h):=⟨have hc:=hc.h; have ha:=ha.h; have hb:=hb.h; PS.imp (Lr hc ha hb) λN σ H ⟨L,S,M,hL,hS,q,r⟩=>Ai.go hL hS q λt S1 H1 h1 k1 hL1 hS1=>by
  cases t with
  | true=>
   rw [if_pos rfl] at h1 ⊢;exact⟨L,S1,M,hL1,hS1,h1,r.kp k1⟩
  | false=>
   rw [if_neg P7] at h1 ⊢;exact⟨L,S1,M,hL1,hS1,h1,r.kp k1⟩⟩
theorem eJ:SJ X st Kx:=⟨PS.imp El λN σ H z9=>by obtain⟨L,S,M,hL,hS,h,r⟩:=z9; exact h.elim⟩
theorem ah {i:Nat} {x:Str} {pos':Pos} (hN:X.N.Nodup) (he:EJ X e ge) (hi:X.N[i]?=some x:=by rfl) (hx:Gh X.env.scope x:=by first | exact Or.inl rfl | exact Or.inr rfl) (hs:swapsWith e (some (.Name x pos')) pos.line X.env=pure false:=by rfl) (hf:X.fn x=true\/X.env.scope.names.lookup x=some .local:=by first | exact .inl rfl | exact .inr rfl | assumption):SJ X (.Assign [.Name x pos'] e pos) (L9 i ge):=⟨have he:=he.h; PS.imp (KZ hN hi hx he hs hf) λN σ H z9=>by obtain⟨L,S,M,hL,hS,h,r⟩:=z9; exact up.go hL hS h λd S1 v H1 h1 k1 hL1 hS1 i1=>r.nx _ S1 _ H1 h1 k1 (hL1.set i1 i) hS1⟩
theorem DR {i j:Nat} {x y:Str} {a b:Rj} {ta:DA} {px py pt:Pos} {kt k2 pt2} (hc:X.calm=true) (hN:X.N.Nodup) (hij:i≠j) (ha:AJ X [a,b] ta) (hi:X.N[i]?=some x:=by rfl) (hj:X.N[j]?=some y:=by rfl) (hx:X.env.scope.names.lookup x=some .local:=by rfl) (hy:X.env.scope.names.lookup y=some .local:=by rfl) (hw:swappedStores [.Tuple [.Name x px,.Name y py] kt pt] (.Tuple [a,b] k2 pt2) X.env=pure (some [x,y]):=by rfl) (hs:swapsWithSole [.Tuple [.Name x px,.Name y py] kt pt] (.Tuple [a,b] k2 pt2) pos.line X.env=pure false:=by rfl):SJ X (.Assign [.Tuple [.Name x px,.Name y py] kt pt] (.Tuple [a,b] k2 pt2) pos) (Oc i j ta):=⟨have ha:=ha.h; PS.imp (Kl hc hN hi hj hij hx hy ha hw hs) λN σ H ⟨L,S,M,hL,hS,h,r⟩=>yA.go hL hS h λds S1 vs H1 h1 k1 hL1 hS1 i1=>by
  split at h1
  ·obtain⟨v,u,rfl,j1,j2⟩:=Bf i1;exact⟨v,u,rfl,r.nx _ S1 _ H1 h1 k1 ((hL1.set j1 i).set j2 j) hS1⟩
  ·exact h1.elim⟩
theorem aB {i:Nat} {x:Str} (hN:X.N.Nodup) (hi:X.N[i]?=some x:=by rfl) (hx:Gh X.env.scope x:=by first | exact Or.inl rfl | exact Or.inr rfl) (hf:X.fn x=true\/X.env.scope.names.lookup x=some .local:=by first | exact .inl rfl | exact .inr rfl | assumption):GJ X (.Name x pos) (tE i):=⟨PG.imp (Ha hN hi hx hf) λv σ H Q z9=>by obtain⟨d,L,S,k,i1,hL,hS,h,n⟩:=z9; exact n _ S _ H h (Kp.refl H) (hL.set i1 i) hS⟩
theorem cW:MN X [] Ij:=⟨EB.imp GO λv σ H Q ⟨d,L,S,k,i1,hL,hS,h,n⟩=>by
 obtain⟨rfl,h⟩:=h;exact⟨k_.mp i1,n L S σ H h (Kp.refl H) hL hS⟩⟩
theorem aH {es:List Rj} {t:DG} {u:Gk} (h1:GJ X e t) (h2:MN X es u) (hs:(assignEach (e::es) X.env).map (·.2)=assign e X.env::(assignEach es X.env).map (·.2):=by rfl):MN X (e::es) (zi t u):=⟨have h1:=h1.h; have h2:=h2.h; EB.imp (Ga h1 h2 hs) λvs σ H Q ⟨ds,L,S,k,i1,hL,hS,h,n⟩=>by
  cases ds with
  | nil=>exact(show False from h).elim
  | cons d r=>
   obtain⟨v,vr,rfl,j1,j2⟩:=dJ.mp i1;exact⟨v,vr,rfl,d,L,S,_,j1,hL,hS,h,λL1 S1 σ1 H1 q k1 hL1 hS1=>⟨r,L1,S1,k,j2.kp k1,hL1,hS1,q,λL' S' σ' H' q' k'=>n L' S' σ' H' q' (k1.trans k')⟩⟩⟩
theorem dU {tg e:Rj} {g:DG} (he:EJ X e ge) (hg:GJ X tg g) (hs:swapsWithSole [tg] e pos.line X.env=pure false:=by rfl) (hw:swappedStores [tg] e X.env=pure none:=by rfl) (h1:(assignEach [tg] X.env).map (·.2)=[assign tg X.env]:=by rfl):SJ X (.Assign [tg] e pos) (Nz ge g):=⟨have he:=he.h; have hg:=hg.h; PS.imp (La he hg hs hw h1) λN σ H z9=>by obtain⟨L,S,M,hL,hS,h,r⟩:=z9; exact up.go hL hS h λd S1 v H1 h1 k1 hL1 hS1 i1=>
  ⟨d,L,S1,M.nx,i1,hL1,hS1,h1,λL' S' σ' H' q k' hL' hS'=>r.nx L' S' σ' H' q (k1.trans k') hL' hS'⟩⟩
theorem kL {c:Rj} {body:List Rp} {gc:DT} (hp:PassesOwn (model X.prog X.w) X.A X.env X.xe) (hc:TJ X c gc) (hb:zo X body g):SJ X (.While c body [] pos) (JP gc g):=⟨have hc:=hc.h; have hb:=hb.h; PS.imp (EQ hp hc hb) λN σ H ⟨L,S,M,hL,hS,⟨W,⟨m0,w0⟩,turn⟩,r⟩=>by
  refine⟨λm σ H1=>∃ L S,Lc X.K H1 L σ/\Hs X.K H1 S/\W m L S/\Kp H H1,⟨m0,L,S,hL,hS,w0,Kp.refl H⟩,?_⟩
  rintro m σ1 H1 ⟨L1,S1,hL1,hS1,w1,k1⟩;refine Ai.go hL1 hS1 (turn m L1 S1 w1) λt S2 H2 h2 k2 hL2 hS2=>?_
  cases t with
  | true=>
   rw [if_pos rfl] at h2 ⊢;obtain⟨N',hN,hb⟩:=h2;refine⟨fun σ' H'=>∃ L' S',Lc X.K H' L' σ'/\Hs X.K H' S'/\N' L' S'/\Kp H H',?_,L1,S2,_,hL2,hS2,hb,?_⟩
   ·rintro σ' H' ⟨L',S',hL',hS',n',k'⟩;obtain⟨m',hm,w'⟩:=hN L' S' n';exact⟨m',hm,L',S',hL',hS',w',k'⟩
   ·have r2:=r.kp (k1.trans k2);exact⟨λL' S' σ' H' n' k' hL' hS'=>⟨L',S',hL',hS',n',(k1.trans k2).trans k'⟩,r2.rt,r2.nx,λL' S' σ' H' n' k' hL' hS'=>⟨L',S',hL',hS',n',(k1.trans k2).trans k'⟩⟩
  | false=>
   rw [if_neg P7] at h2 ⊢;exact(r.kp (k1.trans k2)).nx L1 S2 σ1 H2 h2 (Kp.refl H2) hL2 hS2⟩
theorem u_ {tg a:Rj} {body:List Rp} {ta:DA} {gg:DG} {p pos':Pos} (hp:PassesOwn (model X.prog X.w) X.A X.env X.xe) (hc:X.calm=true) (hgl:Gl X "range") (hm:X.mg "range"=none) (ha:AJ X [a] ta) (hg:GJ X tg gg) (hb:zo X body g) (hs1:starEach [a] X.env=[(false,eval a X.env)]:=by rfl) (hs:∀ x,foldedSetIterable (.Call (.Name "range" p) [a] [] pos') X.env x=pure x:=by intro _; rfl):SJ X (.For tg (.Call (.Name "range" p) [a] [] pos') body [] pos) (NB ta gg g):=⟨have ha:=ha.h; have hg:=hg.h; have hb:=hb.h; PS.imp (tK hp hc (CG hgl hm ha hs1) hg hb hs) λN σ H ⟨L,S,M,hL,hS,h,r⟩=>yA.go hL hS h λds S1 vs H1 h1 k1 hL1 hS1 i1=>by
  split at h1
  ·obtain⟨v,rfl,j⟩:=jl i1;have e:=isInt.mp j;subst e;obtain⟨⟨h2,h3⟩,h1⟩:=h1;refine⟨_,rfl,h2,h3,sf hL1 hS1 h1 (r.kp k1) (λi d S2 H2 e k2 hS2 _=>?_) λS2 H2 k2 hS2 _=>?_⟩
   ·rw [Qt] at e;cases q:(List.range (Int.toNat _))[i]? with
    | none=>rw [q] at e; cases e
    | some z=>
     rw [q] at e;cases e;have hz:=QC.mp q;obtain⟨hz1,hz2⟩:=hz;rw [List.length_range] at hz1;rw [List.getElem_range] at hz2;subst hz2;exact⟨hz1,λx H' y=>⟨y.1,by rw [y.2]; exact isInt.mpr (by rw [Int.zero_add])⟩⟩
   ·rw [P6,List.length_range];exact P4 _
  ·exact h1.elim⟩
end
section
variable {P:Rk} {w:Rn} {K:Fg} {mg:Str->Ri Rg} {base:Ro}
theorem _root_.L2.xo.okJ {x Rx:Str} {st:Rp} {f:Rh} {fd:FuncData} {N ps:List Str} {k:Nat} {F:ce} (Fn:xo K x Rx st f fd) (Sc:ar N ps (aj st)) (len:∀ ds S k,F ds S k->ds.length=ps.length)
  (hbody:∀ (cdv:Rg) (A:Rm) (outer:List Env) (s:Rf) (H:Hp) (E:XK),b3 k (A.deeper (envOfC Rx (aj st) s.heap.objs.size f cdv))->
   ∃ g,zo (de cN P w K mg base N Rx (aj st) f cdv A outer s H E).nox (bL st) g/\
    ∀ ds S k,F ds S k->g {nx:=λ_ S'=>k .non S',rt:=k} (ds.map some++List.replicate (N.length - ps.length) none) S):aL P w K mg base cN (k+1) f fd ps (cX K F):=
 Fn.okD Sc len λcdv A outer s H E hr=>let ⟨g,h,q⟩:=hbody cdv A outer s H E hr; ⟨g,h.h,q⟩
end
end DL
namespace L2
open PySem PySem.Spec PyProof.Rows
section
variable {X:Cx} {pos:Pos}
def Ox (K:PySem.W.Frag) (n:Nat) (t:C6):TG:=λv σ H Q=>∃ a xs,v=.ref a/\jv K H a xs/\xs.length=n/\t xs σ H Q
theorem J3 {es:List Rj} {k:Nat} {t:C6} {n:Nat} (hc:X.calm=true) (h:EB X es t)
  (hn:(assignEach es X.env).length=n:=by rfl) (hst:(assignEach es X.env).findIdx? (·.1)=none:=by rfl):PG X (.Tuple es k pos) (Ox X.K n t):=by
 intro Rw s σ H v u Q I r hw;obtain⟨a,xs,e1,hq,hl,hw⟩:=hw;subst e1;cases r;obtain⟨its,rv,ht,hz⟩:=I.list hq;have e2:(assignEach es X.env).length=its.toArray.size:=by simp [hn,<- hl,rv.length]
 rw [arm_assign_Tuple];refine gt (wpAny_standAt ?_);unfold unpack;rw [e2,hst];refine gt (Qq (PySem.W.kun_itemsOf (I.ok.hd hc) ht.isList λh' hx=>?_))
 have I1:aC X Rw σ H {s with heap:=h'}:=I.kept (t':=s.toks) λb o e=>hx b o (P_ (P3 e)) e
 exact h Rw _ σ H xs _ Q I1 (by simpa using rv) hw
theorem PG.or {e:Rj} {t t':TG} (h:PG X e t) (h':PG X e t'):PG X e (λv σ H Q=>t v σ H Q\/t' v σ H Q):=by
 intro Rw s σ H v u Q I r q;rcases q with q | q
 ·exact h Rw s σ H v u Q I r q
 ·exact h' Rw s σ H v u Q I r q
end
def qD (X:Cx) (scope:Scope):List (Ri Nat)->List Str->Prop
 | some j::r,x::xs=>(X.N[j]?=some x/\(X.env.scope.names.lookup x=some .cell\/X.env.scope.names.lookup x=some .free)/\((relabel scope X.env).names.lookup x=some .cell\/(relabel scope X.env).names.lookup x=some .free))/\qD X scope r xs
 | none::r,_::xs=>qD X scope r xs
 | _,_=>True
theorem qD.get {X:Cx} {scope:Scope}:∀ {cap:List (Ri Nat)} {N:List Str},qD X scope cap N->∀ (i j:Nat) (x:Str),cap[i]?=some (some j)->N[i]?=some x->
  X.N[j]?=some x/\(X.env.scope.names.lookup x=some .cell\/X.env.scope.names.lookup x=some .free)/\((relabel scope X.env).names.lookup x=some .cell\/(relabel scope X.env).names.lookup x=some .free)
 | [],_,_,_,_,_,h,_=>by simp at h
 | _::_,[],_,_,_,_,_,h=>by simp at h
 | some _::_,_::_,h,0,j,x,h1,h2=>by
  simp at h1 h2
  subst h1 h2;exact h.1
 | none::_,_::_,_,0,j,x,h1,_=>by simp at h1
 | some _::_,_::_,h,i+1,j,x,h1,h2=>qD.get h.2 i j x (by simpa using h1) (by simpa using h2)
 | none::r,_::xs,h,i+1,j,x,h1,h2=>qD.get (show qD X scope r xs from h) i j x (by simpa using h1) (by simpa using h2)
def yP (X:Cx):List (Str×Rh)->Prop
 | []=>True
 | p::r=>X.env.cells.lookup p.1=some p.2/\yP X r
theorem yP.mem {X:Cx}:∀ {cl:List (Str×Rh)},yP X cl->∀ p∈cl,X.env.cells.lookup p.1=some p.2
 | [],_,p,hp=>by simp at hp
 | q::r,h,p,hp=>by
  rcases P9.mp hp with e | e
  ·subst e; exact h.1
  ·exact yP.mem h.2 p e
theorem wy {X:Cx} {scope:Scope} {cl:List (Str×Rh)} {N:List Str} {cap:List (Ri Nat)} (h1:scope.kind=.function) (h2:closureFor scope X.env=pure cl) (h3:(scope.names.all λy=>y.2 != NameKind.cell)=true)
  (h4:(scope.names.all λy=>y.2 != NameKind.local || scope.names.lookup y.1 == some NameKind.local)=true) (h5:yP X cl)
  (h6:((relabel scope X.env).names.all λy=>(y.2 != NameKind.cell && y.2 != NameKind.free) || (cl.lookup y.1).isSome)=true) (h7:cap.length=N.length) (h8:qD X scope cap N):oi X scope cl N cap:=⟨h1,h2,h3,h4,h5.mem,h6,h7,h8.get⟩
end L2
namespace DL
open PySem PySem.Spec PyProof.Rows L2
section
variable {X:Cx} {pos:Pos}
def oJ (n:Nat) (t:Gk):DG:=λd L S k=>match bh S d with
 | some p=>p.1.length=n/\t p.1 L S k
 | none=>False
theorem KR {es:List Rj} {k:Nat} {t:Gk} {n:Nat} (hc:X.calm=true) (h:MN X es t) (hn:(assignEach es X.env).length=n:=by rfl) (hst:(assignEach es X.env).findIdx? (·.1)=none:=by rfl):GJ X (.Tuple es k pos) (oJ n t):=
 ⟨PG.imp (PG.or (Ka hc h.h hn hst) (J3 hc h.h hn hst)) λv σ H Q ⟨d,L,S,k,i1,hL,hS,h,m⟩=>by
  cases d with
  | tup ds=>
   obtain⟨a,xs,rfl,t1,j⟩:=fe.mp i1;exact .inl ⟨a,xs,rfl,t1,by rw [<- j.length]; exact h.1,ds,L,S,k,j,hL,hS,h.2,m⟩
  | rl ds=>
   obtain⟨a,xs,rfl,t1,j⟩:=zU.mp i1;exact .inr ⟨a,xs,rfl,t1.sq,by rw [<- j.length]; exact h.1,ds,L,S,k,j,hL,hS,h.2,m⟩
  | ref a=>
   have e1:=aZ.mp i1;subst e1;cases z:S a with
   | none=>simp only [oJ,bh,z] at h
   | some o=>
    cases o with
    | dic=>simp only [oJ,bh,z] at h
    | exc _=>simp only [oJ,bh,z] at h
    | fn _=>simp only [oJ,bh,z] at h
    | tbl _=>simp only [oJ,bh,z] at h
    | gen _=>simp only [oJ,bh,z] at h
    | lst ds=>
     simp only [oJ,bh,z] at h;obtain⟨xs,hl,j⟩:=hS.lst z;exact .inr ⟨a,xs,rfl,jv.of hl,by rw [<- j.length]; exact h.1,ds,L,S,k,j,hL,hS,h.2,m⟩
  | _=>exact(show False from h).elim⟩
end
def HJ (cap:List (Ri Nat)) (L:Lo):Lo:=cap.map λo=>match o with
 | some j=>(L[j]?).join
 | none=>none
theorem Lc.cap {K:Fg} {H:Hp} {L:Lo} {σ:L2.St} (hL:Lc K H L σ):∀ cap:List (Ri Nat),Lc K H (HJ cap L) (oC cap σ)
 | []=>rfl
 | Option.none::r=>⟨_,_,rfl,Lc.cap hL r⟩
 | Option.some j::r=>by
  show Lc K H ((L[j]?).join::HJ r L) ((σ[j]?).join::oC r σ)
  cases e:L[j]? with
  | none=>exact⟨_,_,rfl,Lc.cap hL r⟩
  | some o=>
   cases o with
   | none=>exact⟨_,_,rfl,Lc.cap hL r⟩
   | some d=>
    obtain⟨v,e1,e2⟩:=hL.get e;rw [e1];exact⟨v,_,rfl,e2,Lc.cap hL r⟩
abbrev DB:=Lo->DH->(Ri D->DH->Prop)->Prop
def tG (ge:DE):DB:=λL S k=>ge L S λv S1=>k (some v) S1
def GF (c:DT) (ge:DE):DB:=λL S k=>c L S λb S1=>if b=true then ge L S1 λv S2=>k (some v) S2 else k none S1
def gE (ok:DH->Prop) (p:Rh) (g:DG) (bd:DB) (k:DK):List D->List D->Lo->DH->Prop
 | [],_,_,S=>ok S/\k (.ref p) S
 | d::r,acc,L,S=>ok S/\g d L S λL1 S1=>bd L1 S1 λo S2=>match o with
  | some v=>S2 p=some (.lst acc)/\acc.length < sizeLine/\gE ok p g bd k r (acc++[v]) L1 (put S2 p (.lst (acc++[v])))
  | none=>gE ok p g bd k r acc L1 S2
section
variable {K:Fg} {ok:DH->Prop} {gg:DG} {ge:DE} {gc:DT} {k:DK} {ds:List D} {L:Lo} {S:DH} {σ:L2.St} {H:Hp} {J:It} {Q:VK} {p:Rh}
theorem qw (hL:Lc K H L σ) (hS:Hs K H S) (hp:H p=none) (h:gE ok p gg (GF gc ge) k ds [] L (put S p (.lst [])))
  (n:∀ d S' v H',k d S'->Kp H H'->Hs K H' S'->cq K H' d v->Q v H')
  (hgo:∀ i d S1 H1,ds[i]?=some d->Kp H H1->Hs K H1 S1->ok S1->J.go i H1/\∀ x H',J.yld i H1 x H'->H'=H1/\cq K H1 d x)
  (hst:∀ S1 H1,Kp H H1->Hs K H1 S1->ok S1->J.stop ds.length H1):
  ∃ W:Nat->Nat->L2.St->Hp->Prop,(∃ m,W 0 m σ (bS H p (.lst [])))/\∀ i m σ' H',W i m σ' H'->
   (J.stop i H'/\Q (.ref p) H')\/(J.go i H'/\∃ N:L2.St->Hp->Prop,(∀ σ2 H2,N σ2 H2->∃ m',m' < m/\W (i+1) m' σ2 H2)/\∀ x H2,J.yld i H' x H2->Lk K gg x σ' H2 fun σ3 H3=>Ai K gc σ3 H3 λb H3'=>if b=true then up K ge σ3 H3' λv H4=>∃ ys,H4 p=some (.lst ys)/\ys.length < sizeLine/\N σ3 (bS H4 p (.lst (ys++[v]))) else N σ3 H3'):=by
 refine⟨λi m σ1 H1=>m=ds.length - i/\i<=ds.length/\∃ acc L1 S1,Lc K H1 L1 σ1/\Hs K H1 S1/\Kp H H1/\gE ok p gg (GF gc ge) k (ds.drop i) acc L1 S1,⟨ds.length,by simp,QU _,[],L,_,hL.kp (Kp.new hp),hS.newL hp IsDs.nil,Kp.new hp,h⟩,?_⟩
 rintro i m σ1 H1 ⟨rfl,hi,acc,L1,S1,hL1,hS1,k1,w1⟩
 by_cases hlt:i < ds.length
 ·have e:ds.drop i=ds[i]::ds.drop (i+1):=QQ hlt;rw [e] at w1;obtain⟨o1,w1⟩:=w1;obtain⟨g1,y1⟩:=hgo i ds[i] S1 H1 (by simp [hlt]) k1 hS1 o1
  refine .inr ⟨g1,fun σ' H'=>i+1<=ds.length/\∃ acc L' S',Lc K H' L' σ'/\Hs K H' S'/\Kp H H'/\gE ok p gg (GF gc ge) k (ds.drop (i+1)) acc L' S',fun σ' H' z9=>by obtain⟨q1,q2⟩:=z9; exact⟨ds.length - (i+1),by omega,rfl,q1,q2⟩,λx H' y=>?_⟩
  obtain⟨rfl,ix⟩:=y1 x H' y;refine⟨ds[i],L1,S1,_,ix,hL1,hS1,w1,λL2 S2 σ2 H2 q k2 hL2 hS2=>Ai.go hL2 hS2 q λb S2' H2' h2 k2' hL2' hS2'=>?_⟩
  cases b with
  | true=>
   rw [if_pos rfl] at h2 ⊢;refine up.go hL2' hS2' h2 λd S3 v H3 h3 k3 hL3 hS3 i3=>?_
   obtain⟨z1,z2,z3⟩:=h3;obtain⟨xs,hl,j⟩:=hS3.lst z1;have k4:Kp H3 (bS H3 p (.lst (xs++[v]))):=Kp.mut hl (λz=>z)
   exact⟨xs,hl,by rw [<- j.length]; exact z2,hlt,_,L2,_,hL3.kp k4,hS3.setL hl (j.append (IsDs.cons i3 IsDs.nil)),(((k1.trans k2).trans k2').trans k3).trans k4,z3⟩
  | false=>
   rw [if_neg P7] at h2 ⊢;exact⟨hlt,acc,L2,S2',hL2',hS2',(k1.trans k2).trans k2',h2⟩
 ·have e:i=ds.length:=by omega
  subst e;rw [List.drop_length] at w1;obtain⟨o1,w1⟩:=w1;exact .inl ⟨hst S1 H1 k1 hS1 o1,n _ S1 _ H1 w1 k1 hS1 (aZ.mpr rfl)⟩
end
def qv (K:Fg) (mg:Str->Ri Rg) (x:Str) (ns:List Int):Prop:=∃ p o its n,mg x=some (.ref p)/\K.lookup p=some o/\o.cls=.type "tuple"/\o.data=.seq its n/\its.size<=sizeLine/\bf (ns.map V.int) its.toList
theorem uY {K:Fg} {H:Hp}:∀ ns:List Int,IsDs K H (ns.map D.int) (ns.map V.int)
 | []=>IsDs.nil
 | _::ns=>IsDs.cons (isInt.mpr rfl) (uY ns)
theorem fx {X:Cx} {x:Str} {ns:List Int} {pos:Pos} (g:qv X.K X.mg x ns) (hg:Gl X x) (hd:(x == ("__debug__":Str))=false:=by decide):EJ X (.Name x pos) (dC (.tup (ns.map D.int))):=by
 obtain⟨p,o,its,n,hm,h1,h2,h3,h4,h5⟩:=g;exact⟨LH (Ho (v:=.ref p) hg hm rfl hd) λH=>fe.mpr ⟨p,_,rfl,.inr ⟨o,its,n,h1,h2,h3,h4,h5⟩,uY ns⟩⟩
theorem mM.imp {K:Fg} {r r':D2} (i:∀ d e S k,r' d e S k->r d e S k):∀ x y H Q,mM K r' x y H Q->mM K r x y H Q:=λx y H Q z9=>by obtain⟨d,e,S,k,a,b,c,h,n⟩:=z9; exact⟨d,e,S,k,a,b,c,i d e S k h,n⟩
theorem xn.imp {K:Fg} {r r':ce} (i:∀ ds S k,r' ds S k->r ds S k):∀ xs H Q,xn K r' xs H Q->xn K r xs H Q:=λxs H Q z9=>by obtain⟨ds,S,k,a,b,h,n⟩:=z9; exact⟨ds,S,k,a,b,i ds S k h,n⟩
theorem AS.imp {X:Cx} {r r':R2} (h:AS X r) (i:∀ x y H Q,r' x y H Q->r x y H Q):AS X r':=λvalue slice Rw s σ H x y v u Q I rx ry q=>h value slice Rw s σ H x y v u Q I rx ry (i x y H Q q)
theorem dw.imp {X:Cx} {f:Rg} {r r':List V->Hp->VK->Prop} (h:dw X f r) (i:∀ xs H Q,r' xs H Q->r xs H Q):dw X f r':=λRw s σ H xs us Q I rs q=>h Rw s σ H xs us Q I rs (i xs H Q q)
def BV:D2:=λd e S k=>match d,e with
 | .tup ds,.int i=>(match L2.atI ds i with
  | some c=>k c S
  | none=>False)
 | .rl ds,.int i=>∃ c,L2.atI ds i=some c/\k c S
 | .ref a,.int i=>∃ ds c,S a=some (.lst ds)/\L2.atI ds i=some c/\k c S
 | _,_=>False
theorem du {X:Cx}:AS X (mM X.K BV):=AS.imp LW (mM.imp λd e S k h=>by
 unfold BV at h
 split at h
 ·exact h
 ·obtain⟨c,h1,h2⟩:=h;simp only [xv,h1];exact h2
 ·obtain⟨ds,c,h0,h1,h2⟩:=h;simp only [xv,h0,h1];exact h2
 ·exact h.elim)
theorem aJ {X:Cx} {x:Str} {p1 p2 pos:Pos} {c:Int} {j} (n:Nat) (hN:X.N[n]?=some x:=by rfl) (hv:Af X.env.scope x:=by first | exact Or.inl rfl | exact Or.inr (Or.inl rfl) | exact Or.inr (Or.inr rfl)) (hd:(x == ("__debug__":Str))=false:=by decide) (hcd:(x == ("__classdict__":Str))=false:=by decide):EJ X (.Subscript (.Name x p1) (.Constant (.int c) j p2) pos) (CY BV (qj n) (dC (.int c))):=cA du (ai n hN hv hd hcd) ak Zf
def IA:ce:=λds S k=>match ds with
 | [.tup xs]=>k (.int xs.length) S
 | [.rl xs]=>k (.int xs.length) S
 | [.ref a]=>∃ xs,S a=some (.lst xs)/\k (.int xs.length) S
 | _=>False
theorem qg {X:Cx}:dw X (.builtin "len") (xn X.K IA):=dw.imp Ni (xn.imp λds S k h=>by
 unfold IA at h
 split at h
 ·exact h
 ·exact h
 ·obtain⟨xs,h1,h2⟩:=h;simp only [Jo,h1];exact h2
 ·exact h.elim)
def L0 (gi:DE) (g:DG) (b:DS):DS:=λM L S=>gi L S λd S1=>∃ p,bh S1 d=some p/\fJ (fQ p) g b M p.1 L S1
def EZ (n:Nat) (t:Gk):DG:=λd L S k=>∃ p,bh S d=some p/\p.1.length=n/\t p.1 L S k
theorem GJ.imp {X:Cx} {e:Rj} {g g':DG} (h:GJ X e g) (i:∀ d L S k,g' d L S k->g d L S k):GJ X e g':=⟨PG.imp h.h λv σ H Q z9=>by obtain⟨d,L,S,k,a,hL,hS,q,n⟩:=z9; exact⟨d,L,S,k,a,hL,hS,i d L S k q,n⟩⟩
theorem eC {X:Cx} {pos:Pos} {es:List Rj} {k:Nat} {t:Gk} {n:Nat} (hc:X.calm=true) (h:MN X es t) (hn:(assignEach es X.env).length=n:=by rfl) (hst:(assignEach es X.env).findIdx? (·.1)=none:=by rfl):GJ X (.Tuple es k pos) (EZ n t):=
 GJ.imp (KR hc h hn hst) λd L S k ⟨p,h1,h2⟩=>by
  simp only [oJ,h1];exact h2
section
variable {X:Cx} {pos:Pos}
def K6 (go gi:DE):DG:=λd L S k=>go L S λo S1=>gi L S1 λi S2=>match o,i with
 | .ref a,.int j=>∃ ds n,S2 a=some (.lst ds)/\F8 ds.length j=some n/\k L (put S2 a (.lst (ds.set n d)))
 | _,_=>False
theorem Bm {o i:Rj} {go gi:DE} (ho:EJ X o go) (hi:EJ X i gi)
  (ha:∀ v,assign (.Subscript o i pos) X.env v=(do
   let ov <- holding [v] (eval o X.env)
   let iv <- holding [v,ov] (eval i X.env)
   standAt pos
   holding [v,ov,iv] (setItem ov iv v)
   release [v,ov,iv] []):=by intro _; rfl):GJ X (.Subscript o i pos) (K6 go gi):=
 ⟨PG.imp (ze ho.h hi.h F2 ha) λv σ H Q ⟨d,L,S,k,i1,hL,hS,h,n⟩=>up.go hL hS h λc S1 u H1 h1 k1 hL1 hS1 j1=>up.go hL1 hS1 h1 λc2 S2 u2 H2 h2 k2 hL2 hS2 j2=>by
  cases c with
  | ref a=>
   cases c2 with
   | int z=>
    have e1:=aZ.mp j1;have e2:=isInt.mp j2;subst e1;subst e2;obtain⟨ds,m,w,q,h2⟩:=h2;obtain⟨vs,hl,j⟩:=hS2.lst w;refine⟨a,vs,z,m,rfl,rfl,hl,by rw [<- j.length]; exact q,?_⟩
    have k3:Kp H2 (bS H2 a (.lst (vs.set m v))):=Kp.mut hl (λz=>z)
    exact n L _ σ _ h2 (k1.trans (k2.trans k3)) (hL2.kp k3) (hS2.setL hl (j.set m (i1.kp (k1.trans k2))))
   | _=>exact(show False from h2).elim
  | _=>exact(show False from h2).elim⟩
theorem FI {K:Fg} {S1:DH} {H1:Hp} {d:D} {v:V} {p:List D×Ri Rh} (hS1:Hs K H1 S1) (i1:cq K H1 d v) (hp:bh S1 d=some p):∃ a,v=.ref a/\
  (((∃ xs, jv K H1 a xs) ∧ (∀ i c S2 H2, p.1[i]? = some c → Kp H1 H2 → Hs K H2 S2 → fQ p S2 → (M_ K a).go i H2 ∧ ∀ x H', (M_ K a).yld i H2 x H' → H' = H2 ∧ cq K H2 c x) ∧ ∀ S2 H2, Kp H1 H2 → Hs K H2 S2 → fQ p S2 → (M_ K a).stop p.1.length H2) ∨
   ((∃ xs,lU K H1 a xs)/\(∀ i c S2 H2,p.1[i]?=some c->Kp H1 H2->Hs K H2 S2->fQ p S2->(MA K a).go i H2/\∀ x H',(MA K a).yld i H2 x H'->H'=H2/\cq K H2 c x)/\∀ S2 H2,Kp H1 H2->Hs K H2 S2->fQ p S2->(MA K a).stop p.1.length H2)):=by
 cases d with
 | tup ds=>
  cases hp;obtain⟨a,xs,rfl,t,j⟩:=fe.mp i1;refine⟨a,rfl,.inr ⟨⟨xs,t⟩,λi d S2 H2 e k2 hS2 _=>?_,λS2 H2 k2 hS2 _=>⟨xs,k2.tup t,by rw [<- j.length]; exact P4 _⟩⟩⟩
  obtain⟨w,e1,e2⟩:=j.get e;refine⟨⟨xs,w,k2.tup t,e1⟩,λx H' y=>⟨y.1,?_⟩⟩
  have z:=y.2 xs (k2.tup t);rw [e1] at z;cases z;exact e2.kp k2
 | rl ds=>
  cases hp;obtain⟨a,xs,rfl,t,j⟩:=zU.mp i1;refine⟨a,rfl,.inl ⟨⟨xs,t.sq⟩,λi d S2 H2 e k2 hS2 _=>?_,λS2 H2 k2 hS2 _=>⟨xs,(k2.fro t).sq,by rw [<- j.length]; exact P4 _⟩⟩⟩
  obtain⟨w,e1,e2⟩:=j.get e;refine⟨⟨xs,w,(k2.fro t).sq,e1⟩,λx H' y=>⟨y.1,?_⟩⟩
  have z:=y.2 xs (k2.fro t).sq;rw [e1] at z;cases z;exact e2.kp k2
 | ref a=>
  have e1:=aZ.mp i1;subst e1;cases z:S1 a with
  | none=>simp only [bh,z] at hp; cases hp
  | some o=>
   cases o with
   | dic=>simp only [bh,z] at hp; cases hp
   | exc _=>simp only [bh,z] at hp; cases hp
   | fn _=>simp only [bh,z] at hp; cases hp
   | tbl _=>simp only [bh,z] at hp; cases hp
   | gen _=>simp only [bh,z] at hp; cases hp
   | lst ds=>
    simp only [bh,z] at hp;cases hp;obtain⟨xs,hl,j⟩:=hS1.lst z;refine⟨a,rfl,.inl ⟨⟨xs,jv.of hl⟩,λi d S2 H2 e k2 hS2 o2=>?_,λS2 H2 k2 hS2 o2=>?_⟩⟩
    ·obtain⟨ys,hl2,j2⟩:=hS2.lst o2;obtain⟨w,e1,e2⟩:=j2.get e;refine⟨⟨ys,w,jv.of hl2,e1⟩,λx H' y=>⟨y.1,?_⟩⟩
     have q:=y.2 ys (jv.of hl2);rw [e1] at q;cases q;exact e2
    ·obtain⟨ys,hl2,j2⟩:=hS2.lst o2;exact⟨ys,jv.of hl2,by rw [<- j2.length]; exact P4 _⟩
 | _=>cases hp
theorem iN {tg iter:Rj} {body:List Rp} {gi:DE} {gg:DG} {g:DS} (hp:PassesOwn (model X.prog X.w) X.A X.env X.xe) (hc:X.calm=true) (hi:EJ X iter gi) (hg:GJ X tg gg) (hb:zo X body g)
  (hs:∀ x,foldedSetIterable iter X.env x=pure x:=by intro _; rfl):SJ X (.For tg iter body [] pos) (L0 gi gg g):=
 ⟨PS.imp (tK hp hc (EG hi.h) hg.h hb.h hs) λN σ H ⟨L,S,M,hL,hS,h,r⟩=>up.go hL hS h λd S1 v H1 h1 k1 hL1 hS1 i1=>by
  obtain⟨p,hp,h1⟩:=h1;obtain⟨a,e,q⟩:=FI hS1 i1 hp;refine⟨a,e,?_⟩;rcases q with ⟨q1,q2,q3⟩ | ⟨q1,q2,q3⟩
  ·exact .inl ⟨q1,sf hL1 hS1 h1 (r.kp k1) q2 q3⟩
  ·exact .inr ⟨q1,sf hL1 hS1 h1 (r.kp k1) q2 q3⟩⟩
def JJ (cap:List (Ri Nat)) (gi:DE) (g:DG) (bd:DB):DE:=λL S k=>gi L S λd S1=>∃ q,bh S1 d=some q/\∀ p,S1 p=none->gE (fQ q) p g bd k q.1 [] (HJ cap L) (put S1 p (.lst []))
end
end DL
namespace L2
open PySem PySem.Spec PyProof.Rows
structure iV (P:Rk) (w:Rn) (it l:Rh) (st:Nat->Ro->Prop) (sq:Rq Rg->Ro->Prop):Prop where
 at_:∀ k h h',st k h->(∀ o,h.get? it=some o->h'.get? it=some o)->st k h'
 sqAt:∀ xs h h',sq xs h->(∀ o,h.get? l=some o->h'.get? l=some o)->sq xs h'
 obj:∀ k h,st k h->∃ o,h.get? it=some o/\∀ v,o.data≠.cell v
 item:∀ (A:Rm) (k:Nat) (s:Rf) (xs:Rq Rg) (x:Rg) (Q:Rg->Rf->Prop) (E:Rg->Rf->Prop),st k s.heap->sq xs s.heap->xs[k]?=some x->
  (∀ h',st (k+1) h'->Heap.SameBut it s.heap h'->Q x {s with heap:=h'})->wpAny (model P w) A (Builtin.SmallTypes.nextOf (.ref it)) Q E s
 fin:∀ (A:Rm) (k:Nat) (s:Rf) (xs:Rq Rg) (Q:Rg->Rf->Prop) (E:Rg->Rf->Prop),A.handled=none->st k s.heap->sq xs s.heap->xs[k]?=none->
  (∀ h' e,Heap.ExtBut it s.heap h'->(∃ o,h'.get? e=some o/\o.cls=.type "StopIteration")->E (.ref e) {s with heap:=h'})->wpAny (model P w) A (Builtin.SmallTypes.nextOf (.ref it)) Q E s
theorem iV.list {P:Rk} {w:Rn} (it l:Rh):iV P w it l (λk h=>h.IsListIter it l k) (λxs h=>h.IsList l xs) where
 at_:=λ_ _ _ x y=>x.at y
 sqAt:=λ_ _ _ x y=>x.at y
 obj:=λ_ _ z9=>by obtain⟨o,e,_,d⟩:=z9; exact⟨o,e,λv z=>by rw [d] at z; cases z⟩
 item:=λ_ _ _ _ _ _ _ a b c d=>wpAny_nextOf_list_item a b c d
 fin:=λ_ _ _ _ _ _ hh a b c d=>wpAny_nextOf_list_end hh a b c d
section
variable {prog:Rk} {w:Rn} {A:Rm} {E:Rg->Rf->Prop} {s:Rf}
theorem oA {it t:Rh} {i:Nat} {items} {x:Rg} {Q:Rg->Rf->Prop} (hit:s.heap.IsTupleIter it t i) (ht:s.heap.IsTuple t items) (hx:items[i]?=some x)
  (hQ:∀ h',h'.IsTupleIter it t (i+1)->Heap.SameBut it s.heap h'->Q x {s with heap:=h'}):wpAny (model prog w) A (Builtin.SmallTypes.nextOf (.ref it)) Q E s:=by
 obtain⟨o,ho,hc,hd⟩:=id hit;obtain⟨ol,hol,_,nl,hdl⟩:=ht;unfold Builtin.SmallTypes.nextOf;refine gt (Q1 (name:=Str.ofString "__next__") hit.typeIs F.slot_tuple_iterator_next (QN F.slot_tuple_iterator_next hit.typeIs F.entry_tuple_iterator_next ?_ (F.args_tuple_iterator_next_1 _)))
 refine gt (m:=field (.ref it) 0) (QE ho hd (x:=.ref t) rfl ?_)
 show wpAny _ _ (if (Value.ref t == Value.none)=true then _ else _) _ _ s
 rw [if_neg (show ¬ ((Value.ref t == Value.none)=true) from P7)]
 refine gt (m:=field (.ref it) 1) (QE ho hd (x:=.int i 0) rfl ?_);refine gt (m:=seqItems? (.ref t)) (Qy hol hdl ?_);simp only [Q2,hx];refine gt (wpAny_setField ho hd (by simp) (P0 ⟨x,rfl,P0 (hQ _ ⟨_,QJ _ ho (Obj.isFreed_of_fields (Obj.data_mapFields hd _)),(Obj.cls_mapFields ..).trans hc,?_⟩ (Re ..))⟩))
 rw [Obj.data_mapFields hd];simp [rawInt]
theorem pH {it t:Rh} {i:Nat} {items} {Q:Rg->Rf->Prop} (hh:A.handled=none) (hit:s.heap.IsTupleIter it t i) (ht:s.heap.IsTuple t items) (hx:items[i]?=none)
  (hE:∀ h' e,Heap.ExtBut it s.heap h'->(∃ o,h'.get? e=some o/\o.cls=.type "StopIteration")->E (.ref e) {s with heap:=h'}):wpAny (model prog w) A (Builtin.SmallTypes.nextOf (.ref it)) Q E s:=by
 obtain⟨o,ho,hc,hd⟩:=id hit;obtain⟨ol,hol,_,nl,hdl⟩:=ht;unfold Builtin.SmallTypes.nextOf;refine gt (Q1 (name:=Str.ofString "__next__") hit.typeIs F.slot_tuple_iterator_next (QN F.slot_tuple_iterator_next hit.typeIs F.entry_tuple_iterator_next ?_ (F.args_tuple_iterator_next_1 _)))
 refine gt (m:=field (.ref it) 0) (QE ho hd (x:=.ref t) rfl ?_)
 show wpAny _ _ (if (Value.ref t == Value.none)=true then _ else _) _ _ s
 rw [if_neg (show ¬ ((Value.ref t == Value.none)=true) from P7)]
 refine gt (m:=field (.ref it) 1) (QE ho hd (x:=.int i 0) rfl ?_);refine gt (m:=seqItems? (.ref t)) (Qy hol hdl ?_);simp only [Q2,hx];refine gt (wpAny_rule (gt (wpAny_setField ho hd (by simp) ?_)))
 refine gt (m:=newExc (.type "StopIteration") []) ?_
 simp only [newExc,newTuple];refine gt (Qs ?_ (by size_fits))
 refine gt (m:=firstArgMember _ _) (wpAny_of_eq (a:=Value.none) (by first | rfl | (simp only [firstArgMember]; rfl)) ?_)
 refine Qs ?_ (by size_fits)
 simp only [raiseNew];refine gt (wpAny_handled ?_)
 first | rw [show A.in1.handled=none from hh] | rw [hh]
 exact gt (P0 (wpAny_throw (hE _ _ (((Re ..).extBut.push _).push _) ⟨_,P1 _ rfl,rfl⟩)))
end
theorem iV.tuple {P:Rk} {w:Rn} (it l:Rh):iV P w it l (λk h=>h.IsTupleIter it l k) (λxs h=>h.IsTuple l xs) where
 at_:=λ_ _ _ x y=>x.at y
 sqAt:=λ_ _ _ x y=>x.at y
 obj:=λ_ _ z9=>by obtain⟨o,e,_,d⟩:=z9; exact⟨o,e,λv z=>by rw [d] at z; cases z⟩
 item:=λ_ _ _ _ _ _ _ a b c d=>oA a b c d
 fin:=λ_ _ _ _ _ _ hh a b c d=>pH hh a b c d
section
variable {prog:Rk} {w:Rn} {A:Rm} {E:Rg->Rf->Prop} {s:Rf} {z TI TO i1 i2 l1 l2:Rh} {st1 st2:Nat->Ro->Prop} {sq1 Ab:Rq Rg->Ro->Prop} {k1 k2:Nat} {xs ys:Rq Rg} {x y a b:Rg}
theorem Du {Q:Rg->Rf->Prop} (G1:iV prog w i1 l1 st1 sq1) (G2:iV prog w i2 l2 st2 Ab) (D:ZipApart z TI TO i1 i2 l1 l2) (hz:IsZip s.heap z TI TO .none) (hTI:IsPair s.heap TI (.ref i1) (.ref i2)) (hTO:IsPair s.heap TO a b)
  (h1:st1 k1 s.heap) (h2:st2 k2 s.heap) (hl1:sq1 xs s.heap) (hl2:Ab ys s.heap) (hx:xs[k1]?=some x) (hy:ys[k2]?=some y)
  (hQ:∀ h',IsZip h' z TI TO (rawInt s.heap.objs.size)->IsPair h' TO x y->st1 (k1+1) h'->st2 (k2+1) h'->IsPair h' s.heap.objs.size x y->h'.objs.size=s.heap.objs.size+1->
   (∀ c o,c≠z->c≠TO->c≠i1->c≠i2->s.heap.get? c=some o->h'.get? c=some o)->Q (.ref s.heap.objs.size) {s with heap:=h'}):
  wpAny (model prog w) A (Builtin.«zip.__next__» ⟨[.ref z],[]⟩) (λfin s'=>∃ v,fin=.done (.ret v)/\Q v s') E s:=by
 refine gt (m:=field (.ref z) 2) (QE hz rfl (x:=.bool false) rfl ?_);refine gt (m:=field (.ref z) 3) (QE hz rfl (x:=.ref TI) rfl ?_);refine gt (Qy hTI rfl ?_);refine gt (m:=Builtin.SmallTypes.ownedTupleIsFree (.ref z)) ?_;unfold Builtin.SmallTypes.ownedTupleIsFree;refine gt (QE hz rfl (x:=.none) rfl (P0 ?_));simp only [if_true];refine gt (wpAny_rule ?_);refine gt (QE hz rfl (x:=.ref TO) rfl ?_);refine gt (Qp hz (by simp) λg1 z1 e1=>?_)
 replace z1:IsZip g1 z TI TO .ellipsis:=z1;refine gt ?_;simp only [List.zipIdx_cons,List.zipIdx_nil,List.forIn_cons,List.forIn_nil];refine gt (gt (wpAny_onRaise ?_));refine gt (m:=Builtin.SmallTypes.nextOf (.ref i1)) (G1.item _ _ _ _ _ _ _ (G1.at_ _ _ _ h1 λo q=>e1.extBut _ _ D.i1z q) (G1.sqAt _ _ _ hl1 λo q=>e1.extBut _ _ D.l1z q) hx λg2 t1 e2=>P0 ?_)
 have o2:IsPair g2 TO a b:=e2.extBut _ _ D.TOi1 (e1.extBut _ _ D.TOz hTO);refine gt (Qy o2 rfl ?_);refine gt (wpAny_updateSeq_pair o2 λg3 o3 e3=>?_)
 replace o3:IsPair g3 TO x b:=o3;refine gt (Q5 (P0 ?_));refine gt (gt (wpAny_onRaise ?_));refine gt (m:=Builtin.SmallTypes.nextOf (.ref i2)) (G2.item _ _ _ _ _ _ _ (G2.at_ _ _ _ h2 λo q=>e3.extBut _ _ D.TOi2.symm (e2.extBut _ _ D.i12.symm (e1.extBut _ _ D.i2z q)))
  (G2.sqAt _ _ _ hl2 λo q=>e3.extBut _ _ D.l2TO (e2.extBut _ _ D.l2i1 (e1.extBut _ _ D.l2z q))) hy λg4 t2 e4=>P0 ?_)
 have o4:IsPair g4 TO x b:=e4.extBut _ _ D.TOi2 o3;refine gt (Qy o4 rfl ?_);refine gt (wpAny_updateSeq_pair o4 λg5 o5 e5=>?_)
 replace o5:IsPair g5 TO x y:=o5;refine gt (Q5 (P0 (P0 ?_)));refine gt (Qy o5 rfl ?_);refine gt (wpAny_newTuple ?_);have hsz:g5.objs.size=s.heap.objs.size:=by rw [e5.1,e4.1,e3.1,e2.1,e1.1]
 have z5:IsZip g5 z TI TO .ellipsis:=e5.extBut _ _ D.TOz.symm (e4.extBut _ _ D.i2z.symm (e3.extBut _ _ D.TOz.symm (e2.extBut _ _ D.i1z.symm z1)));have kk:∀ c o,c≠z->c≠TO->c≠i1->c≠i2->s.heap.get? c=some o->g5.get? c=some o:=λc o c1 c2 c3 c4 e=>
  e5.extBut _ _ c2 (e4.extBut _ _ c4 (e3.extBut _ _ c2 (e2.extBut _ _ c3 (e1.extBut _ _ c1 e))))
 have t15:st1 (k1+1) g5:=G1.at_ _ _ _ t1 λo q=>e5.extBut _ _ D.TOi1.symm (e4.extBut _ _ D.i12 (e3.extBut _ _ D.TOi1.symm q))
 have t25:st2 (k2+1) g5:=G2.at_ _ _ _ t2 λo q=>e5.extBut _ _ D.TOi2.symm q
 have hzlt:z < g5.objs.size:=P3 z5;refine gt (m:=Builtin.SmallTypes.ownedTupleHandOut (.ref z) (.ref g5.objs.size)) ?_;unfold Builtin.SmallTypes.ownedTupleHandOut;have z6:IsZip (g5.push {cls:=.type "tuple",data:=.seq #[x,y]}) z TI TO .ellipsis:=PZ _ z5
 refine gt (Qp z6 (by simp) λg7 z7 e7=>?_)
 replace z7:IsZip g7 z TI TO (rawInt g5.objs.size):=z7;refine Qp z7 (by simp) λg8 z8 e8=>?_
 replace z8:IsZip g8 z TI TO (rawInt g5.objs.size):=z8;have up:∀ c o,c≠z->g5.get? c=some o->g8.get? c=some o:=λc o c1 e=>e8.extBut _ _ c1 (e7.extBut _ _ c1 (PZ _ e))
 have t8:IsPair g8 g5.objs.size x y:=e8.extBut _ _ (Nat.ne_of_gt hzlt) (e7.extBut _ _ (Nat.ne_of_gt hzlt) (P1 _ rfl));have n8:g8.objs.size=g5.objs.size+1:=by rw [e8.1,e7.1,QW]
 rw [hsz] at z8 t8 n8
 refine P0 ⟨_,rfl,?_⟩
 show Q (.ref g5.objs.size) _
 rw [hsz];exact hQ g8 z8 (up _ _ D.TOz o5) (G1.at_ _ _ _ t15 λo e=>up _ o D.i1z e) (G2.at_ _ _ _ t25 λo e=>up _ o D.i2z e) t8 n8 λc o c1 c2 c3 c4 e=>up c o c1 (kk c o c1 c2 c3 c4 e)
theorem GZ {Q:Fin->Rf->Prop} (G1:iV prog w i1 l1 st1 sq1) (G2:iV prog w i2 l2 st2 Ab) (hh:A.handled=none) (D:ZipApart z TI TO i1 i2 l1 l2) (hz:IsZip s.heap z TI TO .none) (hTI:IsPair s.heap TI (.ref i1) (.ref i2)) (hTO:IsPair s.heap TO a b)
  (h1:st1 k1 s.heap) (h2:st2 k2 s.heap) (hl1:sq1 xs s.heap) (hl2:Ab ys s.heap) (hend:xs[k1]?=none\/ys[k2]?=none)
  (hE:∀ h' e,(∀ c o,c≠z->c≠TO->c≠i1->c≠i2->s.heap.get? c=some o->h'.get? c=some o)->(∃ o,h'.get? e=some o/\o.cls=.type "StopIteration")->E (.ref e) {s with heap:=h'}):
  wpAny (model prog w) A (Builtin.«zip.__next__» ⟨[.ref z],[]⟩) Q E s:=by
 refine gt (m:=field (.ref z) 2) (QE hz rfl (x:=.bool false) rfl ?_);refine gt (m:=field (.ref z) 3) (QE hz rfl (x:=.ref TI) rfl ?_);refine gt (Qy hTI rfl ?_);refine gt (m:=Builtin.SmallTypes.ownedTupleIsFree (.ref z)) ?_;unfold Builtin.SmallTypes.ownedTupleIsFree;refine gt (QE hz rfl (x:=.none) rfl (P0 ?_));simp only [if_true];refine gt (wpAny_rule ?_);refine gt (QE hz rfl (x:=.ref TO) rfl ?_);refine gt (Qp hz (by simp) λg1 z1 e1=>?_)
 replace z1:IsZip g1 z TI TO .ellipsis:=z1;refine gt ?_;simp only [List.zipIdx_cons,List.zipIdx_nil,List.forIn_cons,List.forIn_nil];refine gt (gt (wpAny_onRaise ?_));have a1:=G1.at_ _ _ g1 h1 λo q=>e1.extBut _ _ D.i1z q
 have b1:=G1.sqAt _ _ g1 hl1 λo q=>e1.extBut _ _ D.l1z q
 cases hx:xs[k1]? with
 | none=>
  refine gt (m:=Builtin.SmallTypes.nextOf (.ref i1)) (G1.fin _ _ _ _ _ _ hh a1 b1 hx λg2 e e2 he=>?_)
  obtain⟨oe,hoe,hce⟩:=he;have z2:IsZip g2 z TI TO .ellipsis:=e2 _ _ D.i1z.symm z1;have hez:e≠z:=λx=>by subst x; rw [z2] at hoe; cases hoe; simp at hce
  exact Qp z2 (by simp) λg3 _ e3=>hE g3 e (λc o c1 _ c3 _ x=>e3.extBut _ _ c1 (e2 _ _ c3 (e1.extBut _ _ c1 x))) ⟨oe,e3.extBut _ _ hez hoe,hce⟩
 | some x=>
  have hy:ys[k2]?=none:=by rcases hend with h | h; rw [hx] at h; cases h; exact h
  refine gt (m:=Builtin.SmallTypes.nextOf (.ref i1)) (G1.item _ _ _ _ _ _ _ a1 b1 hx λg2 t1 e2=>P0 ?_)
  have o2:IsPair g2 TO a b:=e2.extBut _ _ D.TOi1 (e1.extBut _ _ D.TOz hTO);refine gt (Qy o2 rfl ?_);refine gt (wpAny_updateSeq_pair o2 λg3 o3 e3=>?_)
  refine gt (Q5 (P0 ?_));refine gt (gt (wpAny_onRaise ?_));refine gt (m:=Builtin.SmallTypes.nextOf (.ref i2)) (G2.fin _ _ _ _ _ _ hh (G2.at_ _ _ _ h2 λo q=>e3.extBut _ _ D.TOi2.symm (e2.extBut _ _ D.i12.symm (e1.extBut _ _ D.i2z q)))
   (G2.sqAt _ _ _ hl2 λo q=>e3.extBut _ _ D.l2TO (e2.extBut _ _ D.l2i1 (e1.extBut _ _ D.l2z q))) hy λg4 e e4 he=>?_)
  obtain⟨oe,hoe,hce⟩:=he;have z4:IsZip g4 z TI TO .ellipsis:=e4 _ _ D.i2z.symm (e3.extBut _ _ D.TOz.symm (e2.extBut _ _ D.i1z.symm z1));have hez:e≠z:=λx=>by subst x; rw [z4] at hoe; cases hoe; simp at hce
  exact Qp z4 (by simp) λg5 _ e5=>hE g5 e (λc o c1 c2 c3 c4 x=>e5.extBut _ _ c1 (e4 _ _ c4 (e3.extBut _ _ c2 (e2.extBut _ _ c3 (e1.extBut _ _ c1 x))))) ⟨oe,e5.extBut _ _ hez hoe,hce⟩
theorem re {Q:Ri Rg->Rf->Prop} (G1:iV prog w i1 l1 st1 sq1) (G2:iV prog w i2 l2 st2 Ab) (D:ZipApart z TI TO i1 i2 l1 l2) (hz:IsZip s.heap z TI TO .none) (hTI:IsPair s.heap TI (.ref i1) (.ref i2)) (hTO:IsPair s.heap TO a b)
  (h1:st1 k1 s.heap) (h2:st2 k2 s.heap) (hl1:sq1 xs s.heap) (hl2:Ab ys s.heap) (hx:xs[k1]?=some x) (hy:ys[k2]?=some y)
  (hQ:∀ h',IsZip h' z TI TO (rawInt s.heap.objs.size)->IsPair h' TO x y->st1 (k1+1) h'->st2 (k2+1) h'->IsPair h' s.heap.objs.size x y->h'.objs.size=s.heap.objs.size+1->
   (∀ c o,c≠z->c≠TO->c≠i1->c≠i2->s.heap.get? c=some o->h'.get? c=some o)->Q (some (.ref s.heap.objs.size)) {s with heap:=h'}):wpAny (model prog w) A (pyNext (.ref z)) Q E s:=by
 have hT:s.TypeIs (.ref z) "zip":=⟨_,hz,rfl⟩
 unfold pyNext;exact gt (wpAny_attempt (Q1 (name:=Str.ofString "__next__") hT F.slot_zip_next
  (QN F.slot_zip_next hT F.entry_zip_next (Du G1 G2 D hz hTI hTO h1 h2 hl1 hl2 hx hy λh' a1 a2 a3 a4 a5 a6 a7=>P0 (hQ h' a1 a2 a3 a4 a5 a6 a7)) (F.args_zip_next_1 _))))
theorem sE {Q:Ri Rg->Rf->Prop} (G1:iV prog w i1 l1 st1 sq1) (G2:iV prog w i2 l2 st2 Ab) (hh:A.handled=none) (D:ZipApart z TI TO i1 i2 l1 l2) (hz:IsZip s.heap z TI TO .none) (hTI:IsPair s.heap TI (.ref i1) (.ref i2)) (hTO:IsPair s.heap TO a b)
  (h1:st1 k1 s.heap) (h2:st2 k2 s.heap) (hl1:sq1 xs s.heap) (hl2:Ab ys s.heap) (hend:xs[k1]?=none\/ys[k2]?=none)
  (hQ:∀ h',(∀ c o,c≠z->c≠TO->c≠i1->c≠i2->s.heap.get? c=some o->h'.get? c=some o)->Q none {s with heap:=h'}):wpAny (model prog w) A (pyNext (.ref z)) Q E s:=by
 have hT:s.TypeIs (.ref z) "zip":=⟨_,hz,rfl⟩
 unfold pyNext;refine gt (wpAny_attempt (Q1 (name:=Str.ofString "__next__") hT F.slot_zip_next
  (QN F.slot_zip_next hT F.entry_zip_next (GZ G1 G2 hh D hz hTI hTO h1 h2 hl1 hl2 hend λh' e hk he=>?_) (F.args_zip_next_1 _))))
 obtain⟨o,ho,hc⟩:=he;exact gt (wpAny_isInstance (T:="StopIteration") (b:=true) ⟨o,ho,hc⟩ isSubtype_stop (P0 (hQ _ hk)))
end
structure iZ (l:Rh) (nm:Rs) (sq:Rq Rg->Ro->Prop):Prop where
 iter:∀ (P:Rk) (w:Rn) (A:Rm) (s:Rf) (xs:Rq Rg) (Q:Rg->Rf->Prop) (E:Rg->Rf->Prop),sq xs s.heap->
  Q (.ref s.heap.objs.size) {s with heap:=s.heap.push {cls:=.type nm,data:=.fields #[.ref l,.int 0 0]}}->wpAny (model P w) A (pyIter (.ref l)) Q E s
 sqAt:∀ xs h h',sq xs h->(∀ o,h.get? l=some o->h'.get? l=some o)->sq xs h'
theorem iZ.list (l:Rh):iZ l "list_iterator" (λxs h=>h.IsList l xs):=⟨λ_ _ _ _ _ _ _ a b=>wpAny_pyIter_list a b,λ_ _ _ x y=>x.at y⟩
theorem iZ.tuple (l:Rh):iZ l "tuple_iterator" (λxs h=>h.IsTuple l xs):=⟨λ_ _ _ _ _ _ _ a b=>wpAny_pyIter_tuple a b,λ_ _ _ x y=>x.at y⟩
section
variable {l1 l2:Rh} {n1 n2:Rs} {sq1 Ab:Rq Rg->Ro->Prop}
abbrev Ir (h:Ro) (n1:Rs) (l1:Rh):Ro:=h.push {cls:=.type n1,data:=.fields #[.ref l1,.int 0 0]}
abbrev ND (h:Ro) (n1 n2:Rs) (l1 l2:Rh):Ro:=(Ir h n1 l1).push {cls:=.type n2,data:=.fields #[.ref l2,.int 0 0]}
abbrev NJ (h:Ro) (n1 n2:Rs) (l1 l2:Rh):Ro:=(ND h n1 n2 l1 l2).push {cls:=.type "tuple",data:=.seq #[.ref h.objs.size,.ref (Ir h n1 l1).objs.size]}
abbrev NH (h:Ro) (n1 n2:Rs) (l1 l2:Rh):Ro:=(NJ h n1 n2 l1 l2).push {cls:=.type "tuple",data:=.seq #[.none,.none]}
abbrev Lj (h:Ro) (n1 n2:Rs) (l1 l2:Rh):Ro:=(NH h n1 n2 l1 l2).push {cls:=.type "zip",data:=.fields #[.none,.bool false,.bool false,.ref (ND h n1 n2 l1 l2).objs.size,.ref (NJ h n1 n2 l1 l2).objs.size]}
theorem BF (B1:iZ l1 n1 sq1) (B2:iZ l2 n2 Ab) (xs ys:Rq Rg):
  Meets (Builtin.«zip.__new__» ⟨[.type "zip",.ref l1,.ref l2],[]⟩) (λ_ R s=>sq1 xs s.heap/\Ab ys s.heap/\
   R (.ok (.ret (.ref (NH s.heap n1 n2 l1 l2).objs.size))) {s with heap:=Lj s.heap n1 n2 l1 l2}):=
 .of_wp λprog w A R s h=>by
  obtain⟨hp,g,d,tk,os⟩:=s;obtain⟨a,b,h⟩:=h;have hsub:=sub_zip;have b':Ab ys (Shared.heap ⟨hp.push {cls:=.type n1,data:=.fields #[.ref l1,.int 0 0]},g,d,tk,os⟩):=B2.sqAt _ _ _ b λo q=>PZ _ q
  have a':sq1 xs (Shared.heap ⟨hp,g,d,tk,os⟩):=a
  wp_walk using B1.iter _ _ _ _ _ _ _ a',B2.iter _ _ _ _ _ _ _ b'
  exact⟨_,rfl,h⟩
variable {prog:Rk} {w:Rn} {A:Rm} {E:Rg->Rf->Prop} {s:Rf}
theorem E2 (B1:iZ l1 n1 sq1) (B2:iZ l2 n2 Ab) {xs ys:Rq Rg} {Q:Rg->Rf->Prop} (hl1:sq1 xs s.heap) (hl2:Ab ys s.heap)
  (h:∀ h',IsZip h' (s.heap.objs.size+4) (s.heap.objs.size+2) (s.heap.objs.size+3) .none->IsPair h' (s.heap.objs.size+2) (.ref s.heap.objs.size) (.ref (s.heap.objs.size+1))->
   IsPair h' (s.heap.objs.size+3) .none .none->h'.get? s.heap.objs.size=some {cls:=.type n1,data:=.fields #[.ref l1,.int 0 0]}->h'.get? (s.heap.objs.size+1)=some {cls:=.type n2,data:=.fields #[.ref l2,.int 0 0]}->
   (∀ c o,s.heap.get? c=some o->h'.get? c=some o)->Q (.ref (s.heap.objs.size+4)) {s with heap:=h'}):
  wpAny (model prog w) A (call (.type "zip") [.ref l1,.ref l2]) Q E s:=by
 refine callType_new F.called_zip (by decide) (F.typeCall_zip_2 _ _) (F.newCall_zip_2 _ _) (λobj=>F.args_object_init_3 obj _ _) F.entry_zip_new (BF B1 B2 xs ys) ⟨hl1,hl2,?_⟩
 have z1:(Ir s.heap n1 l1).objs.size=s.heap.objs.size+1:=QW ..;have z2:(ND s.heap n1 n2 l1 l2).objs.size=s.heap.objs.size+2:=by rw [QW,z1]
 have z3:(NJ s.heap n1 n2 l1 l2).objs.size=s.heap.objs.size+3:=by rw [QW,z2]
 have z4:(NH s.heap n1 n2 l1 l2).objs.size=s.heap.objs.size+4:=by rw [QW,z3]
 have g5:(Lj s.heap n1 n2 l1 l2).get? (NH s.heap n1 n2 l1 l2).objs.size=some _:=P1 _ rfl;have g4:(Lj s.heap n1 n2 l1 l2).get? (NJ s.heap n1 n2 l1 l2).objs.size=some _:=PZ _ (P1 _ rfl);have g3:(Lj s.heap n1 n2 l1 l2).get? (ND s.heap n1 n2 l1 l2).objs.size=some _:=PZ _ (PZ _ (P1 _ rfl));have g2:(Lj s.heap n1 n2 l1 l2).get? (Ir s.heap n1 l1).objs.size=some _:=PZ _ (PZ _ (PZ _ (P1 _ rfl)));have g1:(Lj s.heap n1 n2 l1 l2).get? s.heap.objs.size=some _:=PZ _ (PZ _ (PZ _ (PZ _ (P1 _ rfl))))
 show _/\_
 rw [z2,z3,z4] at g5;rw [z1,z2] at g3;rw [z3] at g4;rw [z1] at g2;rw [z4];exact⟨⟨_,g5,rfl⟩,h _ g5 g3 g4 g1 g2 λc o x=>PZ _ (PZ _ (PZ _ (PZ _ (PZ _ x))))⟩
end
section
variable {X:Cx} {Rw:List (Rh×Rv)} {σ:St} {H:Hp} {s:Rf} {h':Ro}
theorem aC.turnedL {t':Nat} (ch:List Rh) (I:aC X Rw σ H s) (k:∀ b o,b∉ch->s.heap.get? b=some o->h'.get? b=some o) (hf:∀ b∈ch,qY X Rw H b):aC X Rw σ H {s with heap:=h',toks:=t'}:=by
 have nit:∀ b u,H b=some u->b∉ch:=λb u e z=>by rw [(hf b z).1] at e; cases e
 refine I.step (g':=s.gens) (d':=s.drawn) (ch:=ch) (λb hb=>⟨(hf b hb).2.2.2.1,(hf b hb).2.1,(hf b hb).2.2.2.2.1,(hf b hb).2.2.2.2.2⟩) (λb o _ _ hc e _=>k b o hc e) (λb o _ _ hc e _=>⟨o.slots,k b o hc e⟩) (λ_ _ _ _ n=>n)
  (λb o hc e=>⟨o,k b o hc e⟩) (λ_ _ e=>e) (λ_ _ _ e=>e) (λb ps e=>⟨#[],by rw [e]; simp⟩) (λm hm=>?_) (λb u e=>?_) I.bare
 ·obtain⟨o,es,ep,ho,r⟩:=hm;exact⟨o,es,ep,k _ o (λz=>(hf _ z).2.1 rfl) ho,r⟩
 ·refine(I.hok b u e).stay (λc v hc q=>k c v ?_ q) (λ_ q=>q) λ_ _ q=>q
  rcases hc with z | z
  ·rw [z]; exact nit b u e
  ·exact nit c _ z
theorem aC.turnedNew {t':Nat} {T:Rh} {xs:List V} (ch:List Rh) (I:aC X Rw σ H s) (k:∀ b o,b∉ch->s.heap.get? b=some o->h'.get? b=some o) (hf:∀ b∈ch,qY X Rw H b) (hT:s.heap.objs.size<=T)
  (new:dY X.prog X.w (bS H T (.tup xs)) h' T (.tup xs)):aC X Rw σ (bS H T (.tup xs)) {s with heap:=h',toks:=t'}:=by
 have hn:H T=none:=I.hok.fresh hT;have nit:∀ b u,H b=some u->b∉ch:=λb u e z=>by rw [(hf b z).1] at e; cases e
 have neT:∀ b o,s.heap.get? b=some o->b≠T:=λb o e z=>by subst z; exact absurd (Qc (P3 e) hT) (QV _)
 refine I.step (g':=s.gens) (d':=s.drawn) (ch:=ch) (λb hb=>⟨(hf b hb).2.2.2.1,(hf b hb).2.1,(hf b hb).2.2.2.2.1,(hf b hb).2.2.2.2.2⟩) (λb o _ _ hc e _=>k b o hc e) (λb o _ _ hc e _=>⟨o.slots,k b o hc e⟩) (λb o _ e n=>by rw [aF (neT b o e)]; exact n)
  (λb o hc e=>⟨o,k b o hc e⟩) (λb _ e=>by rw [aF (a9 e hn)]; exact e) (λb _ _ e=>by rw [aF (a9 e hn)]; exact e) (λb ps e=>⟨#[],by rw [aF (a9 e hn),e]; simp⟩) (λm hm=>?_) (λb u e=>?_) I.bare
 ·obtain⟨o,es,ep,ho,r⟩:=hm;exact⟨o,es,ep,k _ o (λz=>(hf _ z).2.1 rfl) ho,r⟩
 ·by_cases hb:b=T
  ·subst hb;rw [br] at e;cases e;exact new
  ·rw [aF hb] at e;refine(I.hok b u e).stay (λc v hc q=>k c v ?_ q) (λc q=>by rw [aF (a9 q hn)]; exact q) λc _ q=>by rw [aF (a9 q hn)]; exact q
   rcases hc with z | z
   ·rw [z]; exact nit b u e
   ·exact nit c _ z
end
def vf (b:Rr) (K:PySem.W.Frag) (H:Hp) (a:Rh) (xs:List V):Prop:=match b with | true=>jv K H a xs | false=>lU K H a xs
def KP (b:Rr) (it l:Rh) (k:Nat) (h:Ro):Prop:=match b with | true=>h.IsListIter it l k | false=>h.IsTupleIter it l k
def sqB (b:Rr) (l:Rh) (xs:Rq Rg) (h:Ro):Prop:=match b with | true=>h.IsList l xs | false=>h.IsTuple l xs
def OT (b:Rr):Rs:=match b with | true=>"list_iterator" | false=>"tuple_iterator"
theorem cP {P:Rk} {w:Rn} (b:Rr) (it l:Rh):iV P w it l (KP b it l) (sqB b l):=match b with | true=>iV.list it l | false=>iV.tuple it l
theorem At (b:Rr) (l:Rh):iZ l (OT b) (sqB b l):=match b with | true=>iZ.list l | false=>iZ.tuple l
theorem Be {b:Rr} {it l:Rh} {h:Ro} (e:h.get? it=some {cls:=.type (OT b),data:=.fields #[.ref l,.int 0 0]}):KP b it l 0 h:=match b,e with | true,e=>⟨_,e,rfl,rfl⟩ | false,e=>⟨_,e,rfl,rfl⟩
section
variable {X:Cx} {Rw:List (Rh×Rv)} {σ:St} {H:Hp} {s:Rf} {a:Rh} {xs ys:List V} {b:Rr}
theorem aC.sqB (I:aC X Rw σ H s) (h:vf b X.K H a xs):∃ its:List Rg,bf xs its/\L2.sqB b a its.toArray s.heap:=by
 cases b with
 | true=>obtain⟨its,r,p,_⟩:=I.list h; exact⟨its,r,p.isList⟩
 | false=>obtain⟨its,r,p,_⟩:=I.tuple h; exact⟨its,r,p⟩
theorem aC.sqB_inj (I:aC X Rw σ H s) (h:vf b X.K H a xs) (h':vf b X.K H a ys):xs=ys:=by
 cases b with
 | true=>exact I.list_inj h h'
 | false=>exact I.tuple_inj h h'
theorem zS {its:Rq Rg} {h:Ro} (e:L2.sqB b a its h):a < h.objs.size:=by
 cases b with
 | true=>obtain⟨o,e,_⟩:=e; exact P3 e
 | false=>obtain⟨o,e,_⟩:=e; exact P3 e
end
def MI (K:PySem.W.Frag) (b1 b2:Rr) (a1 a2:Rh):It:=
 ⟨λi H => ∃ xs ys x y, vf b1 K H a1 xs ∧ vf b2 K H a2 ys ∧ xs[i]? = some x ∧ ys[i]? = some y,
  λi H v H'=>∃ T x y,v=.ref T/\H T=none/\H'=bS H T (.tup [x,y])/\∀ xs ys,vf b1 K H a1 xs->vf b2 K H a2 ys->xs[i]?=some x/\ys[i]?=some y,
  λi H=>∃ xs ys,vf b1 K H a1 xs/\vf b2 K H a2 ys/\(xs.length<=i\/ys.length<=i)⟩
def PN (b1 b2:Rr) (z TI TO i1 i2 a1 a2:Rh) (i:Nat) (h:Ro):Prop:=
 IsZip h z TI TO .none/\IsPair h TI (.ref i1) (.ref i2)/\(∃ a b,IsPair h TO a b)/\KP b1 i1 a1 i h/\KP b2 i2 a2 i h
theorem Fp {P:Rk} {w:Rn} {K:PySem.W.Frag} {es:List Rj} {k:Nat} {pos:Pos} (b1 b2:Rr) {z TI TO i1 i2 a1 a2:Rh} (D:ZipApart z TI TO i1 i2 a1 a2):
  xH P w K (.Tuple es k pos) (MI K b1 b2 a1 a2) [z,TI,TO,i1,i2] z (PN b1 b2 z TI TO i1 i2 a1 a2) where
 mem:=by simp
 obj:=λi h st b hb=>by
  obtain⟨hz,hTI,⟨x,y,hTO⟩,h1,h2⟩:=st;have hb':b=z\/b=TI\/b=TO\/b=i1\/b=i2:=by simpa using hb
  rcases hb' with rfl | rfl | rfl | rfl | rfl
  ·exact⟨_,hz,λv q=>by cases q⟩
  ·exact⟨_,hTI,λv q=>by cases q⟩
  ·exact⟨_,hTO,λv q=>by cases q⟩
  ·exact(cP (P:=P) (w:=w) b1 b a1).obj _ _ h1
  ·exact(cP (P:=P) (w:=w) b2 b a2).obj _ _ h2
 keep:=λi h h' st q=>by
  obtain⟨hz,hTI,⟨x,y,hTO⟩,h1,h2⟩:=st;exact⟨q z (by simp) _ hz,q TI (by simp) _ hTI,⟨x,y,q TO (by simp) _ hTO⟩,(cP (P:=P) (w:=w) b1 i1 a1).at_ _ _ _ h1 λo e=>q i1 (by simp) o e,(cP (P:=P) (w:=w) b2 i2 a2).at_ _ _ _ h2 λo e=>q i2 (by simp) o e⟩
 item:=by
  intro X hP hw hK hc i Rw s σ H E I hf st hg;subst hP hw hK;obtain⟨xs,ys,x,y,q1,q2,hx,hy⟩:=hg;obtain⟨its,rv,p⟩:=I.sqB q1;obtain⟨jts,rw',p'⟩:=I.sqB q2;obtain⟨u,hu,ru⟩:=rv.get hx;obtain⟨u',hu',ru'⟩:=rw'.get hy;obtain⟨hz,hTI,⟨c,d,hTO⟩,h1,h2⟩:=st;have hn:H s.heap.objs.size=none:=I.hok.fresh (P4 _);have old:∀ b∈[z,TI,TO,i1,i2],b≠s.heap.objs.size:=λb hb e=>by
   have:∃ o,s.heap.get? b=some o:=by
    have hb':b=z\/b=TI\/b=TO\/b=i1\/b=i2:=by simpa using hb
    rcases hb' with rfl | rfl | rfl | rfl | rfl
    ·exact⟨_,hz⟩
    ·exact⟨_,hTI⟩
    ·exact⟨_,hTO⟩
    ·obtain⟨o,e,_⟩:=(cP (P:=X.prog) (w:=X.w) b1 b a1).obj _ _ h1; exact⟨o,e⟩
    ·obtain⟨o,e,_⟩:=(cP (P:=X.prog) (w:=X.w) b2 b a2).obj _ _ h2; exact⟨o,e⟩
   obtain⟨o,eo⟩:=this;exact absurd (P3 eo) (by rw [e]; exact QV _)
  refine re (cP b1 i1 a1) (cP b2 i2 a2) D hz hTI hTO h1 h2 p p' (x:=u) (y:=u') (by simpa using hu) (by simpa using hu') λh' c1 c2 c3 c4 c5 c6 c7=>?_
  have I1:aC X Rw σ (bS H s.heap.objs.size (.tup [x,y])) {s with heap:=h'}:=I.turnedNew (t':=s.toks) [z,TO,i1,i2] (λb o hb e=>c7 b o (λq=>hb (by simp [q])) (λq=>hb (by simp [q])) (λq=>hb (by simp [q])) (λq=>hb (by simp [q])) e)
   (λb hb=>hf b (by rcases(by simpa using hb:b=z\/b=TO\/b=i1\/b=i2) with rfl | rfl | rfl | rfl <;> simp)) (P4 _) ⟨Qi rfl,[u,u'],.cons ru (.cons ru' .nil),⟨_,c5,rfl,_,rfl⟩⟩
  refine⟨_,rfl,wpAny_letOwnedTupleGo_zip (s:={s with heap:=h'}) c1 λh2' g1 g2=>?_⟩
  refine⟨.ref s.heap.objs.size,bS H s.heap.objs.size (.tup [x,y]),?_,rfl,⟨_,x,y,rfl,hn,rfl,λxs' ys' e1 e2=>by rw [I.sqB_inj e1 q1,I.sqB_inj e2 q2]; exact⟨hx,hy⟩⟩,?_,λb hb=>?_⟩
  ·refine I1.turnedL (t':=s.toks) [z] (λb o hb e=>g2.extBut _ _ (λq=>hb (by simp [q])) e) λb hb=>?_
   have e:b=z:=by simpa using hb
   subst e;obtain⟨f0,f1,f2,f3,f4,f5⟩:=hf b (by simp)
   exact⟨by rw [aF (old b (by simp))]; exact f0,f1,f2,f3,f4,f5⟩
  ·exact⟨g1,g2.extBut _ _ D.TIz (c7 _ _ D.TIz D.TITO D.TIi1 D.TIi2 hTI),⟨_,_,g2.extBut _ _ D.TOz c2⟩,(cP (P:=X.prog) (w:=X.w) b1 i1 a1).at_ _ _ _ c3 λo e=>g2.extBut _ _ D.i1z e,(cP (P:=X.prog) (w:=X.w) b2 i2 a2).at_ _ _ _ c4 λo e=>g2.extBut _ _ D.i2z e⟩
  ·rw [aF (old b hb)];exact(hf b hb).1
 done:=by
  intro X hP hw hK hc i Rw s σ H E I hf st hg;subst hP hw hK;obtain⟨xs,ys,q1,q2,hx⟩:=hg;obtain⟨its,rv,p⟩:=I.sqB q1;obtain⟨jts,rw',p'⟩:=I.sqB q2;obtain⟨hz,hTI,⟨c,d,hTO⟩,h1,h2⟩:=st;have l1:=rv.length;have l2:=rw'.length;refine sE (cP b1 i1 a1) (cP b2 i2 a2) (I.ok.hd hc) D hz hTI hTO h1 h2 p p' (hx.imp (λhx=>by simp; omega) (λhx=>by simp; omega)) λh' kk=>⟨rfl,I.turnedL (t':=s.toks) [z,TO,i1,i2] (λb o hb e=>kk b o (λq=>hb (by simp [q])) (λq=>hb (by simp [q])) (λq=>hb (by simp [q])) (λq=>hb (by simp [q])) e) λb hb=>hf b ?_⟩
  have hb':b=z\/b=TO\/b=i1\/b=i2:=by simpa using hb
  rcases hb' with rfl | rfl | rfl | rfl <;> simp
 self:=λ_ _ _ _ _ st h=>wpAny_pyIter_zip st.1 h
theorem K' (n l1 l2:Nat) (h1:l1 < n) (h2:l2 < n):ZipApart (n+4) (n+2) (n+3) n (n+1) l1 l2:=by
 constructor <;> (intro e; simp only [Addr] at e; omega)
def NZ (K:PySem.W.Frag) (ta:TA):TI:=fun σ H R=>ta σ H λvs H1=>∃ a1 a2 b1 b2,vs=[.ref a1,.ref a2]/\(∃ xs,vf b1 K H1 a1 xs)/\(∃ ys,vf b2 K H1 a2 ys)/\R (MI K b1 b2 a1 a2) H1
theorem K5 {X:Cx} {a b:Rj} {ta:TA} {p pos tp:Pos} {es:List Rj} {k:Nat} (hg:Gl X "zip") (hm:X.mg "zip"=none) (ha:PA X [a,b] ta) (hs:starEach [a,b] X.env=[(false,eval a X.env),(false,eval b X.env)]:=by rfl) (hs2:starEach [b] X.env=[(false,eval b X.env)]:=by rfl):
  PI X (.Tuple es k tp) (.Call (.Name "zip" p) [a,b] [] pos) (NZ X.K ta):=by
 intro Rw s σ H R I h;refine Call_ (pL I hg hm boot_zip (PyProof.Rows.callWith_type1 (cu (ha pos Rw s σ H _ I h) λus s1 ⟨vs,H1,I1,r1,q1⟩=>?_) (by rw [hs,hs2]) (by rw [hs2]; rfl)))
 obtain⟨a1,a2,b1,b2,e,⟨xs,e1⟩,⟨ys,e2⟩,q⟩:=q1;subst e;cases r1 with
 | cons r rr=>
  cases rr with
  | cons r' rr=>
   cases rr;cases r;cases r';obtain⟨its,rv,p1⟩:=I1.sqB e1;obtain⟨jts,rw',p2⟩:=I1.sqB e2;refine E2 (At b1 a1) (At b2 a2) p1 p2 λh' c1 c2 c3 c4 c5 c6=>?_
   refine wpAny_pyIter_zip (s:={s1 with heap:=h'}) c1 ?_
   have fr:∀ j,H1 (s1.heap.objs.size+j)=none:=λj=>I1.hok.fresh (Nat.le_add_right _ _)
   refine⟨_,[s1.heap.objs.size+4,s1.heap.objs.size+2,s1.heap.objs.size+3,s1.heap.objs.size,s1.heap.objs.size+1],_,_,H1,rfl,I1.kept (t':=s1.toks) c6,Fp b1 b2 (K' _ _ _ (zS p1) (zS p2)),⟨c1,c2,⟨_,_,c3⟩,Be c4,Be c5⟩,λb hb=>?_,q⟩
   have hb':b=s1.heap.objs.size+4\/b=s1.heap.objs.size+2\/b=s1.heap.objs.size+3\/b=s1.heap.objs.size\/b=s1.heap.objs.size+1:=by simpa using hb
   rcases hb' with rfl | rfl | rfl | rfl | rfl
   ·exact I1.fpOk (Nat.le_add_right _ _) (fr 4)
   ·exact I1.fpOk (Nat.le_add_right _ _) (fr 2)
   ·exact I1.fpOk (Nat.le_add_right _ _) (fr 3)
   ·exact I1.fpOk (P4 _) (fr 0)
   ·exact I1.fpOk (Nat.le_add_right _ _) (fr 1)
end L2
namespace DL
open PySem PySem.Spec PyProof.Rows L2
section
variable {K:Fg} {ok:DH->Prop} {gg:DG} {ge:DE} {k:DK} {ds:List D} {L:Lo} {S:DH} {σ:L2.St} {H:Hp} {J:It} {p:Rh} {Q:V->Hp->Prop}
theorem zN (hL:Lc K H L σ) (hS:Hs K H S) (hp:H p=none) (h:gE ok p gg (tG ge) k ds [] L (put S p (.lst [])))
  (n:∀ d S' v H',k d S'->Kp H H'->Hs K H' S'->cq K H' d v->Q v H')
  (hgo:∀ i d S1 H1,ds[i]?=some d->Kp H H1->Hs K H1 S1->ok S1->J.go i H1/\∀ x H',J.yld i H1 x H'->Kp H1 H'/\Hs K H' S1/\cq K H' d x)
  (hst:∀ S1 H1,Kp H H1->Hs K H1 S1->ok S1->J.stop ds.length H1):
  ∃ W:Nat->Nat->L2.St->Hp->Prop,(∃ m,W 0 m σ (bS H p (.lst [])))/\∀ i m σ' H',W i m σ' H'->
   (J.stop i H'/\Q (.ref p) H')\/(J.go i H'/\∃ N:L2.St->Hp->Prop,(∀ σ2 H2,N σ2 H2->∃ m',m' < m/\W (i+1) m' σ2 H2)/\∀ x H2,J.yld i H' x H2->Lk K gg x σ' H2 fun σ3 H3=>up K ge σ3 H3 λv H4=>∃ ys,H4 p=some (.lst ys)/\ys.length < sizeLine/\N σ3 (bS H4 p (.lst (ys++[v])))):=by
 refine⟨λi m σ1 H1=>m=ds.length - i/\i<=ds.length/\∃ acc L1 S1,Lc K H1 L1 σ1/\Hs K H1 S1/\Kp H H1/\gE ok p gg (tG ge) k (ds.drop i) acc L1 S1,⟨ds.length,by simp,QU _,[],L,_,hL.kp (Kp.new hp),hS.newL hp IsDs.nil,Kp.new hp,h⟩,?_⟩
 rintro i m σ1 H1 ⟨rfl,hi,acc,L1,S1,hL1,hS1,k1,w1⟩
 by_cases hlt:i < ds.length
 ·have e:ds.drop i=ds[i]::ds.drop (i+1):=QQ hlt;rw [e] at w1;obtain⟨o1,w1⟩:=w1;obtain⟨g1,y1⟩:=hgo i ds[i] S1 H1 (by simp [hlt]) k1 hS1 o1
  refine .inr ⟨g1,fun σ' H'=>i+1<=ds.length/\∃ acc L' S',Lc K H' L' σ'/\Hs K H' S'/\Kp H H'/\gE ok p gg (tG ge) k (ds.drop (i+1)) acc L' S',fun σ' H' z9=>by obtain⟨q1,q2⟩:=z9; exact⟨ds.length - (i+1),by omega,rfl,q1,q2⟩,λx H' y=>?_⟩
  obtain⟨k0,hS0,ix⟩:=y1 x H' y;refine⟨ds[i],L1,S1,_,ix,hL1.kp k0,hS0,w1,λL2 S2 σ2 H2 q k2 hL2 hS2=>up.go hL2 hS2 q λd S3 v H3 h3 k3 hL3 hS3 i3=>?_⟩
  obtain⟨z1,z2,z3⟩:=h3;obtain⟨xs,hl,j⟩:=hS3.lst z1;have k4:Kp H3 (bS H3 p (.lst (xs++[v]))):=Kp.mut hl (λz=>z)
  exact⟨xs,hl,by rw [<- j.length]; exact z2,hlt,_,L2,_,hL3.kp k4,hS3.setL hl (j.append (IsDs.cons i3 IsDs.nil)),(((k1.trans k0).trans k2).trans k3).trans k4,z3⟩
 ·have e:i=ds.length:=by omega
  subst e;rw [List.drop_length] at w1;obtain⟨o1,w1⟩:=w1;exact .inl ⟨hst S1 H1 k1 hS1 o1,n _ S1 _ H1 w1 k1 hS1 (aZ.mpr rfl)⟩
end
theorem zP {K:Fg} {S1:DH} {H1:Hp} {d:D} {v:V} {p:List D×Ri Rh} (hS1:Hs K H1 S1) (i1:cq K H1 d v) (hp:bh S1 d=some p):∃ a b,v=.ref a/\
  (∃ xs,vf b K H1 a xs)/\∀ S2 H2,Kp H1 H2->Hs K H2 S2->fQ p S2->∃ xs,vf b K H2 a xs/\IsDs K H2 p.1 xs:=by
 cases d with
 | tup ds=>
  cases hp;obtain⟨a,xs,rfl,t,j⟩:=fe.mp i1;exact⟨a,false,rfl,⟨xs,t⟩,λS2 H2 k2 _ _=>⟨xs,k2.tup t,j.kp k2⟩⟩
 | rl ds=>
  cases hp;obtain⟨a,xs,rfl,t,j⟩:=zU.mp i1;exact⟨a,true,rfl,⟨xs,t.sq⟩,λS2 H2 k2 _ _=>⟨xs,(k2.fro t).sq,j.kp k2⟩⟩
 | ref a=>
  have e1:=aZ.mp i1;subst e1;cases z:S1 a with
  | none=>simp only [bh,z] at hp; cases hp
  | some o=>
   cases o with
   | dic=>simp only [bh,z] at hp; cases hp
   | exc _=>simp only [bh,z] at hp; cases hp
   | fn _=>simp only [bh,z] at hp; cases hp
   | tbl _=>simp only [bh,z] at hp; cases hp
   | gen _=>simp only [bh,z] at hp; cases hp
   | lst ds=>
    simp only [bh,z] at hp;cases hp;obtain⟨xs,hl,j⟩:=hS1.lst z;refine⟨a,true,rfl,⟨xs,jv.of hl⟩,λS2 H2 k2 hS2 o2=>?_⟩
    obtain⟨ys,hl2,j2⟩:=hS2.lst o2;exact⟨ys,jv.of hl2,j2⟩
 | _=>cases hp
def Ev (xs ys:List D):List D:=List.zipWith (λa b=>D.tup [a,b]) xs ys
section
variable {X:Cx} {o e a b c:Rj} {go ge ga gb gc:DE} {apos cpos pos:Pos}
def Ov (go ge:DE):DE:=λL S k=>go L S λd S1=>match d with
 | .ref a=>(∃ ds,S1 a=some (.lst ds))/\ge L S1 λe S2=>∃ ds,S2 a=some (.lst ds)/\ds.length < sizeLine/\k .non (put S2 a (.lst (ds++[e])))
 | _=>False
theorem jy (ho:EJ X o go) (he:EJ X e ge) (hbase:attributeBase o "append" X.env (eval o X.env)=eval o X.env:=by rfl)
  (hfew:((backTo cpos (starEach [e] X.env)).all (λx=>!x.1) && (backToKw cpos (keywordEach [] X.env)).all (λx=>x.1.isSome) && decide ([e].length+([]:List Keyword).length+(if ([]:List Keyword).isEmpty then 0 else 1) < 30))=true:=by rfl)
  (hline:(apos.endLine == cpos.line)=true:=by rfl) (hs:starEach [e] X.env=(false,eval e X.env)::starEach [] X.env:=by rfl) (hpl:(backTo cpos (starEach [] X.env)).any (·.1)=false:=by rfl):
  EJ X (.Call (.Attribute o "append" apos) [e] [] cpos) (Ov go ge):=
 ⟨PE.imp (IW PySem.F.plainAttrs_list PySem.F.slot_list_append PySem.F.type_list_append pU ho.h (mU he.h pM hs) hbase hfew hline hs hpl) fun σ H Q ⟨L,S,k,hL,hS,h,n⟩=>up.go hL hS h λd S1 v H1 h1 k1 hL1 hS1 i1=>by
  cases d with
  | ref a=>
   have e1:=aZ.mp i1;subst e1;obtain⟨⟨ds1,z1⟩,h1⟩:=h1;obtain⟨xs1,hl1,_⟩:=hS1.lst z1;refine⟨.inl ⟨rfl,xs1,jv.of hl1⟩,up.go hL1 hS1 h1 λd2 S2 v2 H2 h2 k2 hL2 hS2 i2=>?_⟩
   obtain⟨ds,z,hz,w⟩:=h2;obtain⟨xs,hl,j⟩:=hS2.lst z;have k3:Kp H2 (bS H2 a (.lst (xs++[v2]))):=Kp.mut hl (λz=>z)
   exact⟨a,xs,v2,rfl,rfl,hl,by rw [<- j.length]; exact hz,n _ _ _ _ w (k1.trans (k2.trans k3)) (hS2.setL hl (j.append (IsDs.cons i2 IsDs.nil))) (fY.mpr rfl)⟩
  | _=>exact(show False from h1).elim⟩
def OK (go ge:DE):DE:=λL S k=>go L S λd S1=>match d with
 | .ref a=>(∃ ds,S1 a=some (.lst ds))/\ge L S1 λe S2=>match e with
  | .ref b=>∃ ds es,S2 a=some (.lst ds)/\S2 b=some (.lst es)/\ds.length+es.length<=sizeLine/\k .non (put S2 a (.lst (ds++es)))
  | _=>False
 | _=>False
theorem Jd (ho:EJ X o go) (he:EJ X e ge) (hbase:attributeBase o "extend" X.env (eval o X.env)=eval o X.env:=by rfl)
  (hfew:((backTo cpos (starEach [e] X.env)).all (λx=>!x.1) && (backToKw cpos (keywordEach [] X.env)).all (λx=>x.1.isSome) && decide ([e].length+([]:List Keyword).length+(if ([]:List Keyword).isEmpty then 0 else 1) < 30))=true:=by rfl)
  (hline:(apos.endLine == cpos.line)=true:=by rfl) (hs:starEach [e] X.env=(false,eval e X.env)::starEach [] X.env:=by rfl) (hpl:(backTo cpos (starEach [] X.env)).any (·.1)=false:=by rfl):
  EJ X (.Call (.Attribute o "extend" apos) [e] [] cpos) (OK go ge):=
 ⟨PE.imp (IW PySem.F.plainAttrs_list PySem.F.slot_list_extend PySem.F.type_list_extend BY ho.h (mU he.h pM hs) hbase hfew hline hs hpl) fun σ H Q ⟨L,S,k,hL,hS,h,n⟩=>up.go hL hS h λd S1 v H1 h1 k1 hL1 hS1 i1=>by
  cases d with
  | ref a=>
   have e1:=aZ.mp i1;subst e1;obtain⟨⟨ds1,z1⟩,h1⟩:=h1;obtain⟨xs1,hl1,_⟩:=hS1.lst z1;refine⟨.inl ⟨rfl,xs1,jv.of hl1⟩,up.go hL1 hS1 h1 λd2 S2 v2 H2 h2 k2 hL2 hS2 i2=>?_⟩
   cases d2 with
   | ref b=>
    have e2:=aZ.mp i2;subst e2;obtain⟨ds,es,z,y,hz,w⟩:=h2;obtain⟨xs,hl,j⟩:=hS2.lst z;obtain⟨ys,hm,i⟩:=hS2.lst y;have k3:Kp H2 (bS H2 a (.lst (xs++ys))):=Kp.mut hl (λz=>z)
    exact⟨a,b,xs,ys,rfl,rfl,hl,hm,by rw [<- j.length,<- i.length]; exact hz,n _ _ _ _ w (k1.trans (k2.trans k3)) (hS2.setL hl (j.append i)) (fY.mpr rfl)⟩
   | _=>exact(show False from h2).elim
  | _=>exact(show False from h1).elim⟩
end
theorem pZ {K:Fg} {ok:DH->Prop} {gg:DG} {b:DS} {M:oN} {ds:List D} {L:Lo} {S:DH} {N:s9} {σ:L2.St} {H:Hp} {J:It} (hL:Lc K H L σ) (hS:Hs K H S) (h:fJ ok gg b M ds L S) (r:xq K H M N)
  (hgo:∀ i d S1 H1,ds[i]?=some d->Kp H H1->Hs K H1 S1->ok S1->J.go i H1/\∀ x H',J.yld i H1 x H'->Kp H1 H'/\Hs K H' S1/\cq K H' d x)
  (hst:∀ S1 H1,Kp H H1->Hs K H1 S1->ok S1->J.stop ds.length H1):
  ∃ W:Nat->Nat->L2.St->Hp->Prop,(∃ m,W 0 m σ H)/\∀ i m σ H,W i m σ H->
   (J.stop i H/\N.nx σ H)\/(J.go i H/\∃ N':L2.St->Hp->Prop,(∀ σ' H',N' σ' H'->∃ m',m' < m/\W (i+1) m' σ' H')/\∀ x H',J.yld i H x H'->Lk K gg x σ H' fun σ2 H2=>Ig K b {N with nx:=N',ct:=N',bk:=N.nx} σ2 H2):=by
 refine⟨λi m σ1 H1=>m=ds.length - i/\i<=ds.length/\∃ L1 S1,Lc K H1 L1 σ1/\Hs K H1 S1/\Kp H H1/\fJ ok gg b M (ds.drop i) L1 S1,⟨ds.length,by simp,QU _,L,S,hL,hS,Kp.refl H,h⟩,?_⟩
 rintro i m σ1 H1 ⟨rfl,hi,L1,S1,hL1,hS1,k1,w1⟩
 by_cases hlt:i < ds.length
 ·have e:ds.drop i=ds[i]::ds.drop (i+1):=QQ hlt;rw [e] at w1;obtain⟨o1,w1⟩:=w1;obtain⟨g1,y1⟩:=hgo i ds[i] S1 H1 (by simp [hlt]) k1 hS1 o1
  refine .inr ⟨g1,fun σ' H'=>i+1<=ds.length/\∃ L' S',Lc K H' L' σ'/\Hs K H' S'/\Kp H H'/\fJ ok gg b M (ds.drop (i+1)) L' S',fun σ' H' z9=>by obtain⟨q1,q2⟩:=z9; exact⟨ds.length - (i+1),by omega,rfl,q1,q2⟩,λx H' y=>?_⟩
  obtain⟨k0,hS0,ix⟩:=y1 x H' y;have k10:=k1.trans k0;refine⟨ds[i],L1,S1,_,ix,hL1.kp k0,hS0,w1,λL2 S2 σ2 H2 q k2 hL2 hS2=>⟨L2,S2,_,hL2,hS2,q,?_⟩⟩
  have r2:=r.kp (k10.trans k2);exact⟨λL3 S3 σ3 H3 q3 k3 hL3 hS3=>⟨hlt,L3,S3,hL3,hS3,(k10.trans k2).trans k3,q3⟩,r2.rt,r2.nx,λL3 S3 σ3 H3 q3 k3 hL3 hS3=>⟨hlt,L3,S3,hL3,hS3,(k10.trans k2).trans k3,q3⟩⟩
 ·have e:i=ds.length:=by omega
  subst e;rw [List.drop_length] at w1;obtain⟨o1,w1⟩:=w1;exact .inl ⟨hst S1 H1 k1 hS1 o1,r.nx L1 S1 σ1 H1 w1 k1 hL1 hS1⟩
theorem J5 {K:Fg} {H1:Hp} {q1 q2:List D×Ri Rh} {a1 a2:Rh} {b1 b2:Rr} (y1:∀ S2 H2,Kp H1 H2->Hs K H2 S2->fQ q1 S2->∃ xs,vf b1 K H2 a1 xs/\IsDs K H2 q1.1 xs) (y2:∀ S2 H2,Kp H1 H2->Hs K H2 S2->fQ q2 S2->∃ xs,vf b2 K H2 a2 xs/\IsDs K H2 q2.1 xs):
  (∀ i d S2 H2,(Ev q1.1 q2.1)[i]?=some d->Kp H1 H2->Hs K H2 S2->(fQ q1 S2/\fQ q2 S2)->(MI K b1 b2 a1 a2).go i H2/\∀ x H',(MI K b1 b2 a1 a2).yld i H2 x H'->Kp H2 H'/\Hs K H' S2/\cq K H' d x)/\
  ∀ S2 H2,Kp H1 H2->Hs K H2 S2->(fQ q1 S2/\fQ q2 S2)->(MI K b1 b2 a1 a2).stop (Ev q1.1 q2.1).length H2:=by
 refine⟨λi c S2 H2 e k2 hS2 o2=>?_,λS2 H2 k2 hS2 o2=>?_⟩
 ·obtain⟨xs,w1,u1⟩:=y1 S2 H2 k2 hS2 o2.1;obtain⟨ys,w2,u2⟩:=y2 S2 H2 k2 hS2 o2.2;obtain⟨c1,c2,f1,f2,rfl⟩:∃ c1 c2,q1.1[i]?=some c1/\q2.1[i]?=some c2/\D.tup [c1,c2]=c:=by
   unfold Ev at e;rw [List.getElem?_zipWith] at e;cases z1:q1.1[i]? with
   | none=>rw [z1] at e; cases e
   | some c1=>
    cases z2:q2.1[i]? with
    | none=>rw [z1,z2] at e; cases e
    | some c2=>rw [z1,z2] at e; exact⟨c1,c2,rfl,rfl,Qx e⟩
  obtain⟨v1,g1,r1⟩:=u1.get f1;obtain⟨v2,g2,r2⟩:=u2.get f2;refine⟨⟨xs,ys,v1,v2,w1,w2,g1,g2⟩,?_⟩;rintro x H' ⟨T,x',y',rfl,hT,rfl,al⟩;obtain⟨l1,l2⟩:=al xs ys w1 w2;rw [g1] at l1;rw [g2] at l2;cases l1;cases l2;have kn:Kp H2 (bS H2 T (.tup [v1,v2])):=Kp.new hT;exact⟨kn,hS2.new hT,fe.mpr ⟨T,[v1,v2],rfl,lU.of br,IsDs.cons (r1.kp kn) (IsDs.cons (r2.kp kn) IsDs.nil)⟩⟩
 ·obtain⟨xs,w1,u1⟩:=y1 S2 H2 k2 hS2 o2.1;obtain⟨ys,w2,u2⟩:=y2 S2 H2 k2 hS2 o2.2;refine⟨xs,ys,w1,w2,?_⟩;rw [<- u1.length,<- u2.length];unfold Ev;rw [List.length_zipWith];omega
def MU (ta:DA) (g:DG) (b:DS):DS:=λM L S=>ta L S λds S1=>match ds with
 | [d1,d2]=>∃ q1 q2,bh S1 d1=some q1/\bh S1 d2=some q2/\fJ (λS=>fQ q1 S/\fQ q2 S) g b M (Ev q1.1 q2.1) L S1
 | _=>False
section
variable {X:Cx} {a b:Rj} {es:List Rj} {kt:Nat} {tp p pos pos':Pos} {gg:DG} {ta:DA} {g:DS} {body:List Rp} {tg:Rj}
theorem Cb (hp:PassesOwn (model X.prog X.w) X.A X.env X.xe) (hc:X.calm=true) (hgl:Gl X "zip") (hm:X.mg "zip"=none) (ha:AJ X [a,b] ta) (hg:GJ X (.Tuple es kt tp) gg) (hb:zo X body g)
  (hs1:starEach [a,b] X.env=[(false,eval a X.env),(false,eval b X.env)]:=by rfl) (hs2:starEach [b] X.env=[(false,eval b X.env)]:=by rfl) (hs:∀ x,foldedSetIterable (.Call (.Name "zip" p) [a,b] [] pos') X.env x=pure x:=by intro _; rfl):
  SJ X (.For (.Tuple es kt tp) (.Call (.Name "zip" p) [a,b] [] pos') body [] pos) (MU ta gg g):=
 ⟨PS.imp (tK hp hc (K5 hgl hm ha.h hs1 hs2) hg.h hb.h hs) λN σ H ⟨L,S,M,hL,hS,h,r⟩=>yA.go hL hS h λds S1 vs H1 h1 k1 hL1 hS1 i1=>by
  split at h1
  ·rename_i d1 d2
   obtain⟨v1,v2,rfl,j1,j2⟩:=Bf i1;obtain⟨q1,q2,e1,e2,h1⟩:=h1;obtain⟨a1,b1,rfl,x1,y1⟩:=zP hS1 j1 e1;obtain⟨a2,b2,rfl,x2,y2⟩:=zP hS1 j2 e2;obtain⟨z1,z2⟩:=J5 y1 y2;exact⟨a1,a2,b1,b2,rfl,x1,x2,pZ hL1 hS1 h1 (r.kp k1) z1 z2⟩
  ·exact h1.elim⟩
end
section
variable {X:Cx} {pos:Pos}
theorem zK {elt tg iter c:Rj} {scope:Scope} {cl:List (Str×Rh)} {N:List Str} {cap:List (Ri Nat)} {gg:DG} {ge gi:DE} {gc:DT} (hc:X.calm=true) (Sc:oi X scope cl N cap) (hi:EJ X iter gi) (hg:∀ s0 H0 ex C,GJ (qG X scope cl N s0 H0 ex C) tg gg) (hcnd:∀ s0 H0 ex C,TJ (qG X scope cl N s0 H0 ex C) c gc) (he:∀ s0 H0 ex C,EJ (qG X scope cl N s0 H0 ex C) elt ge)
  (hs:∀ x,foldedSetIterable iter X.env x=pure x:=by intro _; rfl):EJ X (.ListComp elt [⟨tg,iter,[c],0⟩] scope pos) (JJ cap gi gg (GF gc ge)):=
 ⟨PE.imp (B5 hc Sc (EG hi.h) (λs0 H0 ex C=>(hg s0 H0 ex C).h) (λs0 H0 ex C=>(hcnd s0 H0 ex C).h) (λs0 H0 ex C=>(he s0 H0 ex C).h) hs) fun σ H Q ⟨L,S,k,hL,hS,h,n⟩=>up.go hL hS h λd S1 v H1 h1 k1 hL1 hS1 i1=>by
  obtain⟨p,hp,h1⟩:=h1;obtain⟨a,e,q⟩:=FI hS1 i1 hp;refine⟨a,e,?_⟩;have n':∀ d S' v H',k d S'->Kp H1 H'->Hs X.K H' S'->cq X.K H' d v->Q v H':=λd S' v H' q k3=>n d S' v H' q (k1.trans k3)
  rcases q with ⟨q1,q2,q3⟩ | ⟨q1,q2,q3⟩
  ·exact .inl ⟨q1,λD hD=>qw (hL1.cap cap) hS1 hD (h1 D (hS1.free hD)) n' q2 q3⟩
  ·exact .inr ⟨q1,λD hD=>qw (hL1.cap cap) hS1 hD (h1 D (hS1.free hD)) n' q2 q3⟩⟩
theorem Ec {xs:List D} {lo hi:Ri Int} {d:D} (h:d∈DM xs lo hi):d∈xs:=List.mem_of_mem_drop (List.mem_of_mem_take h)
theorem df {ok:DH->Prop} {g:DG} {b:DS} {M:oN} (Iv:List D->Lo->DH->Prop) (hok:∀ r L S,Iv r L S->ok S)
  (hs:∀ d r L S N,Iv (d::r) L S->(∀ L' S',Iv r L' S'->N L' S')->g d L S λL1 S1=>b {M with nx:=N,ct:=N,bk:=M.nx} L1 S1) (hd:∀ L S,Iv [] L S->M.nx L S):∀ r L S,Iv r L S->fJ ok g b M r L S
 | [],L,S,i=>⟨hok [] L S i,hd L S i⟩
 | d::r,L,S,i=>⟨hok _ L S i,hs d r L S _ i λL' S' i'=>df Iv hok hs hd r L' S' i'⟩
end
end DL
namespace L2
open PySem PySem.Spec PyProof.Rows
inductive j6 (B:Ro):Rg->Prop
 | last:j6 B .none
 | more {a:Rh} {o:Rv} {vs:Rq Rg} {v:Rg}:B.get? a=some o->o.data=.fields vs->vs[2]?=some v->j6 B v->j6 B (.ref a)
def CZ (B h:Ro) (e:Rh):Prop:=∃ o vs v,h.get? e=some o/\o.data=.fields vs/\vs[2]?=some v/\j6 B v
def rk (B:Ro) (l:List Env) (e:Rh) (cls a0:Rg) (h:Ro):Prop:=Heap.FlyingW B l e cls a0 h/\CZ B h e
def IQ (B:Ro) (l:List Env) (e:Rh) (cls a0:Rg) (L:Rh) (h:Ro):Prop:=Heap.HeldW B l e cls a0 L h/\CZ B h e
section
variable {M:Model} {A:Rm} {E:Rg->Rf->Prop} {s:Rf} {B:Ro} {env:Env} {outer:List Env} {L e:Rh} {Q:Unit->Rf->Prop}
theorem pS {oe:Rv} {vs:Rq Rg} {head a0 v2:Rg} {nx:Rr} (hfr:A.frames=some (env::outer)) (hl:s.heap.FunFrames B (env::outer)) (hf:env.frame=some L) (he:s.heap.get? e=some oe) (hk:B.StaysIn s.heap) (hn:B.get? e=none) (hd:oe.data=.fields vs) (hz:1 < vs.size) (h0:vs[0]?=some a0) (h2:vs[2]?=some v2) (ok2:j6 B v2)
  (h:∀ h',Heap.NotedW B (env::outer) e oe.cls a0 (rawInt L) s.heap h'->CZ B h' e->Q () {s with heap:=h'}):
  wpAny M A (do let a <- frameOf env; let pl <- entryPlaceOf L nx; let b <- EntryCells.newEntry head a .none (rawInt L) .none pl; setField (.ref e) 1 b) Q E s:=by
 have ef:e∉(env::outer).filterMap (·.frame):=λm=>by
  obtain⟨_,o,ho,z⟩:=hl.mem m;rw [he] at ho;cases ho;exact z vs hd
 have nr:∀ b o,s.heap.get? b=some o->(∀ vs,o.data≠.fields vs)->b≠e:=λb o hb z y=>by
  rw [y,he] at hb;cases hb;exact z vs hd
 refine gt (wpAny_frameOf_fun hfr hl hf λh1 hs=>gt (wpAny_entryPlaceOf λpl hp=>?_))
 have e1:h1.get? e=some oe:=(hs.2.1 e ef).trans he;have k1:B.StaysIn h1:=λb o y=>(hs.2.1 b λm=>by rw [(hl.mem m).1] at y; cases y).trans (hk b o y)
 have te:h1.objs.size≠e:=Nat.ne_of_gt (P3 e1);unfold EntryCells.newEntry newFields;refine gt (Qs ?_ (hp.sizeOk5 _ _ _ _ _));generalize hT:({cls:=.type "traceback",dict:=none,data:=.fields ([head,.ref L,.none,rawInt L,.none]++(if pl.isEmpty then List.replicate 6 Value.none else pl)).toArray}:Rv)=oT
 have e2:=PZ (h:=h1) oT e1;have d3:=Obj.data_mapFields hd (·.setIfInBounds 1 (Value.ref h1.objs.size));have e3:=QJ (Obj.mapFields (·.setIfInBounds 1 (Value.ref h1.objs.size))) e2 (Obj.isFreed_of_fields d3);have t3:=(Qw (h1.push oT) (Obj.mapFields (·.setIfInBounds 1 (Value.ref h1.objs.size))) (Ne.symm te)).trans (P1 h1 (by rw [<- hT]; rfl))
 have kp:∀ b o,b≠e->h1.get? b=some o->((h1.push oT).update e (Obj.mapFields (·.setIfInBounds 1 (Value.ref h1.objs.size)))).get? b=some o:=λb o nb hb=>(Qw _ _ (Ne.symm nb)).trans (PZ _ hb)
 refine wpAny_setField e2 hd hz (h _ ⟨λb o y=>kp b o (λz=>by rw [z,hn] at y; cases y) (k1 b o y),hl.of_keeps λb o hb z=>?_,?_,λb o hb z=>?_⟩ ⟨_,_,v2,e3,d3,by rw [Array.getElem?_setIfInBounds_ne (by decide)]; exact h2,ok2⟩)
 ·obtain⟨sl,y⟩:=hs.2.2 b o hb;exact⟨_,kp b _ (nr b o hb z) y,rfl⟩
 ·refine⟨_,_,h1.objs.size,oT,_,e3,⟨Obj.cls_mapFields _ _,by rw [Array.getElem?_setIfInBounds_ne (by decide)]; exact h0⟩,d3,by simp [hz],k1.fresh,te,t3,by rw [<- hT],?_⟩
  first | (simp; done) | (rcases hp with rfl | ⟨_,_,_,_,_,_,_,rfl⟩ <;> simp)
 ·obtain⟨sl,y⟩:=hs.2.2 b o hb;exact⟨sl,kp b _ (nr b o hb z) y⟩
theorem mJ {l:List Env} {cls a0:Rg} (hh:IQ B l e cls a0 L s.heap) (hQ:∀ h',rk B l e cls a0 h'->s.heap.UpToSlots h'->Q () {s with heap:=h'}):wpAny M A (setFlight (.ref e) none) Q E s:=by
 obtain⟨⟨f1,f2,f3,oe,vs,T,oT,ts,he,hc,hd,h1,nT,te,hT,dT,h3⟩,oc,vc,w2,gc,dc,c2,ok2⟩:=hh;rw [he] at gc;cases gc;rw [hd] at dc;cases dc;have z3:3 < ts.size:=(Array.getElem?_eq_some_iff.mp h3).1;have ot:∀ b,b≠T->(s.heap.update T (Obj.mapFields (·.setIfInBounds 3 ((none:Ri Rh).elim Value.none λf=>rawInt f)))).get? b=s.heap.get? b:=λb hb=>Qw _ _ (Ne.symm hb)
 have nr:∀ b o,s.heap.get? b=some o->(∀ vs,o.data≠.fields vs)->b≠T:=λb o hb z y=>by
  rw [y,hT] at hb;cases hb;exact z ts dT
 unfold setFlight;refine gt (QE he hd h1 ?_);rw [if_pos (by simp)]
 have ge:=(ot e (Ne.symm te)).trans he;refine wpAny_setField hT dT z3 (hQ _ ⟨⟨λb o y=>(ot b λz=>by rw [z,nT] at y; cases y).trans (f1 b o y),f2,f3.of_keeps λb o hb z=>⟨o,(ot b (nr b o hb z)).trans hb,rfl⟩,?_⟩,_,_,w2,ge,hd,c2,ok2⟩ λb o hb z=>⟨o.slots,(ot b (nr b o hb z)).trans hb⟩)
 exact⟨oe,vs,T,_,_,ge,hc,hd,h1,nT,te,QJ _ hT (Obj.isFreed_of_fields (Obj.data_mapFields dT _)),Obj.data_mapFields dT _,by simp [z3]⟩
theorem vE {cls a0:Rg} (hfr:A.frames=some (env::outer)) (hf:env.frame=some L) (hfl:rk B (env::outer) e cls a0 s.heap) (hQ:∀ h',IQ B (env::outer) e cls a0 L h'->s.heap.UpToSlots h'->Q () {s with heap:=h'}):wpAny M A (noteFrame (.ref e) env) Q E s:=by
 obtain⟨⟨f1,f2,f3,oe,vs,T,oT,ts,he,⟨hc,h0⟩,hd,h1,nT,te,hT,dT,h3⟩,oc,vc,w2,gc,dc,c2,ok2⟩:=hfl;rw [he] at gc;cases gc;rw [hd] at dc;cases dc;subst hc;have ot:∀ b,b≠T->(s.heap.update T (Obj.mapFields (·.setIfInBounds 3 Value.none))).get? b=s.heap.get? b:=λb hb=>Qw _ _ (Ne.symm hb)
 have nr:∀ b o,s.heap.get? b=some o->(∀ vs,o.data≠.fields vs)->b≠T:=λb o hb z y=>by
  rw [y,hT] at hb;cases hb;exact z ts dT
 unfold noteFrame;simp only [hf];refine gt (QE he hd h1 ?_);rw [if_pos (by simp)]
 refine gt (QE hT dT h3 ?_);rw [if_neg (by simp [rawInt])]
 refine gt (wpAny_setField hT dT (Array.getElem?_eq_some_iff.mp h3).1 ?_);refine pS hfr (f3.of_keeps λb o hb z=>⟨o,(ot b (nr b o hb z)).trans hb,rfl⟩) hf ((ot e (Ne.symm te)).trans he) (λb o y=>(ot b λz=>by rw [z,nT] at y; cases y).trans (f1 b o y)) f2 hd (Array.getElem?_eq_some_iff.mp h1).1 h0 c2 ok2 λh' ⟨x1,x2,x3,x4⟩ cx=>?_
 exact hQ h' ⟨⟨x1,f2,x2,x3⟩,cx⟩ λb o hb z=>x4 b o ((ot b (nr b o hb z)).trans hb) z
theorem wk {cls a0:Rg} {h:Ro} (x:rk B (env::outer) e cls a0 h):rk B outer e cls a0 h:=⟨⟨x.1.1,x.1.2.1,x.1.2.2.1.2.2,x.1.2.2.2⟩,x.2⟩
theorem zY {cls a0:Rg} (hfr:A.frames=some (env::outer)) (hf:env.frame=some L) (hfl:rk B (env::outer) e cls a0 s.heap) (hQ:∀ h',rk B outer e cls a0 h'->s.heap.UpToSlots h'->Q () {s with heap:=h'}):wpAny M A (leaving env (.ref e)) Q E s:=by
 unfold leaving;exact gt (vE hfr hf hfl λh1 x1 u1=>mJ x1 λh2 x2 u2=>hQ h2 (wk x2) (u1.trans u2))
theorem vj {oe:Rv} {vs:Rq Rg} {a0 v2:Rg} (hfr:A.frames=some (env::outer)) (hl:s.heap.FunFrames B (env::outer)) (hf:env.frame=some L) (he:s.heap.get? e=some oe) (hk:B.StaysIn s.heap) (hn:B.get? e=none) (hd:oe.data=.fields vs) (h1:vs[1]?=some .none) (h0:vs[0]?=some a0) (h2:vs[2]?=some v2) (ok2:j6 B v2)
  (hQ:∀ h',rk B outer e oe.cls a0 h'->s.heap.UpToSlots h'->Q () {s with heap:=h'}):wpAny M A (leaving env (.ref e)) Q E s:=by
 unfold leaving noteFrame;simp only [hf];refine gt (gt (QE he hd h1 ?_));rw [if_neg (by decide)]
 refine pS hfr hl hf he hk hn hd (Array.getElem?_eq_some_iff.mp h1).1 h0 h2 ok2 λh' ⟨x1,x2,x3,x4⟩ cx=>?_
 exact mJ (s:={s with heap:=h'}) ⟨⟨x1,hn,x2,x3⟩,cx⟩ λh2 y2 u2=>hQ h2 (wk y2) (Heap.UpToSlots.trans x4 u2)
end
def iy (P:Rk) (w:Rn):FS:=λouter H s E e s'=>∃ (ea:Rh) (cls a0:Rg) (H':Hp) (B:Ro),e=.ref ea/\s'.os=s.os/\AllBare s'.gens/\rk B outer ea cls a0 s'.heap/\mL P w H' B/\
 (∀ b o,s.heap.get? b=some o->H b=none->b∉ic outer->B.get? b=some o)/\(∀ b o,s.heap.get? b=some o->b∉ic outer->∃ o',B.get? b=some o')/\Un (ic outer) [] H H' s.heap s'.heap/\E cls none H'
section
variable {P:Rk} {w:Rn} {K:PySem.W.Frag} {mg:Str->Ri Rg} {base:Ro} {N:List Str} {Rx:Str} {scope:Scope} {f:Rh} {cd:Rg} {A:Rm} {outer:List Env} {s0:Rf} {H0:Hp} {E:XK}
theorem zE {Rw:List (Rh×Rv)} {σ:St} {H H':Hp} {s:Rf} {sx:Rf} {B h':Ro} {ea:Rh} {cls a0:Rg} (I:aC (de (iy P w) P w K mg base N Rx scope f cd A outer s0 H0 E) Rw σ H s) (os:sx.os=s.os) (bare:AllBare sx.gens)
  (fl:rk B outer ea cls a0 h') (hok:mL P w H' B) (hB:∀ b o,s.heap.get? b=some o->H b=none->b∉ic (de (iy P w) P w K mg base N Rx scope f cd A outer s0 H0 E).stack->B.get? b=some o)
  (hB2:∀ b o,s.heap.get? b=some o->b∉ic (de (iy P w) P w K mg base N Rx scope f cd A outer s0 H0 E).stack->∃ o',B.get? b=some o')
  (hsl:∀ b∈ic outer,∀ o,s.heap.get? b=some o->∃ sl,h'.get? b=some {o with slots:=sl}) (fr:∀ b o,s.heap.get? b=some o->H b=none->H' b=none) (tu:∀ b xs,H b=some (.tup xs)->H' b=some (.tup xs)) (fz:∀ b o u,H b=some (.frz o u)->H' b=some (.frz o u))
  (tb:∀ b ps,H b=some (.tbl ps)->∃ more,H' b=some (.tbl (ps++more))) (q:E cls none H'):iy P w outer H0 s0 E (.ref ea) {sx with heap:=h'}:=by
 have nst:∀ b o,s0.heap.get? b=some o->b∉ic outer->b∉ic (de (iy P w) P w K mg base N Rx scope f cd A outer s0 H0 E).stack:=λb o e hb z=>by
  rcases P9.mp (I.stkSub b z) with z | z
  ·have:=P3 e;have ab:=I.ok.above;rw [z] at this;exact absurd (Qc this ab) (QV _)
  ·exact hb z
 have hkeep:∀ b o,s0.heap.get? b=some o->H0 b=none->b∉ic outer->B.get? b=some o:=λb o e n hb=>
  hB b o (I.base.keep b o e n hb (λz=>nomatch z)) (I.base.free b o e n (λz=>nomatch z)) (nst b o e hb)
 have hthere:∀ b o,s0.heap.get? b=some o->b∉ic outer->∃ o',B.get? b=some o':=λb o e hb=>by
  obtain⟨o',e1⟩:=I.base.there b o e (λz=>nomatch z)
  exact hB2 b o' e1 (nst b o e hb)
 refine⟨ea,cls,a0,H',B,rfl,os.trans I.os,bare,fl,hok,hkeep,hthere,⟨λb o e n hb _=>fl.1.1 _ _ (hkeep b o e n hb),λb o e n hb _=>?_,λb o e n _=>?_,λb o e _=>?_,λb xs e=>tu _ _ (I.base.tups b xs e),λb o u e=>fz _ _ _ (I.base.frzs b o u e),λb ps e=>?_⟩,q⟩
 ·obtain⟨sl,e1⟩:=I.base.slot b o e n hb (λz=>nomatch z)
  obtain⟨sl',e2⟩:=hsl b hb _ e1;exact⟨sl',e2⟩
 ·obtain⟨o',e1⟩:=I.base.there b o e (λz=>nomatch z)
  exact fr b o' e1 (I.base.free b o e n (λz=>nomatch z))
 ·by_cases hb:b∈ic outer
  ·obtain⟨o',e1⟩:=I.base.there b o e (λz=>nomatch z)
   obtain⟨sl',e2⟩:=hsl b hb _ e1;exact⟨_,e2⟩
  ·obtain⟨o',e1⟩:=hthere b o e hb;exact⟨o',fl.1.1 _ _ e1⟩
 ·obtain⟨m1,e1⟩:=I.base.tbls b ps e;obtain⟨m2,e2⟩:=tb b _ e1;exact⟨m1++m2,by rw [e2,Array.append_assoc]⟩
theorem HD:xh (iy P w) (de (iy P w) P w K mg base N Rx scope f cd A outer s0 H0 E) E:=by
 intro Rw σ H s e s' I h;obtain⟨ea,cls,a0,H',B,rfl,os,bare,fl,hok,hB,hB2,un,q⟩:=h
 show wpAny _ _ (leaving _ (.ref ea)) _ _ s'
 refine zY I.ok.frames rfl fl λh' fl' up=>?_
 refine zE (sx:=s') I os bare fl' hok hB hB2 (λb hb o e=>?_) (λb o e n=>un.free b o e n (λz=>nomatch z)) un.tups un.frzs un.tbls q
 have hb':b∈ic (de (iy P w) P w K mg base N Rx scope f cd A outer s0 H0 E).stack:=Qb _ hb;have hn:=I.stkFree b hb';obtain⟨sl,e1⟩:=un.slot b o e hn hb' (λz=>nomatch z)
 obtain⟨_,o2,e2,d2⟩:=fl.1.2.2.1.mem hb';rw [e1] at e2;cases e2;obtain⟨sl',e3⟩:=up b _ e1 d2;exact⟨sl',e3⟩
end
theorem Hu {K:PySem.W.Frag} {C:Rh} {bmB:List Rg} {newId:Rs} {h:Ro} {x:Str} {mg:Str->Ri Rg} (X:K.In h) (q:PySem.W.excIn K C bmB newId=true) (hm:mg x=some (.ref C)):OwnCls x C bmB newId mg h:=by
 refine⟨hm,?_⟩;unfold PySem.W.excIn at q
 split at q
 ·rename_i d1 c1 sl hlk
  split at q
  ·rename_i C1 bm a0 a1 a2 a3 nn a5 hmro hsl
   simp only [QG,beq_iff_eq,Bool.not_eq_true'] at q;obtain⟨⟨⟨⟨⟨q1,q2⟩,q3⟩,q4⟩,q5⟩,q6⟩:=q;subst q1 q2;obtain⟨v1,v2,v3,v4,v5,v6,v7,v8,v9,v10,v11⟩:=c1;dsimp only at hmro q3 q5 q6
   subst hmro q3;obtain⟨l⟩:=sl;simp only at hsl;subst hsl;exact⟨bm,v4,v1,v5,v2,v6,v7,v8,v9,v10,d1,a0,a1,a2,a3,a5,_,X _ _ hlk,.of_isNs (PySem.W.isNs_of_in X q5),PySem.W.nsMap_none_of_in X q5 q6,PySem.W.tail_of_in X q4⟩
  ·cases q
 ·cases q
section
variable {P:Rk} {w:Rn} {K:PySem.W.Frag} {mg:Str->Ri Rg} {base:Ro} {N:List Str} {Rx:Str} {scope:Scope} {f:Rh} {cd:Rg} {A:Rm} {outer:List Env} {s0:Rf} {H0:Hp} {E:XK}
theorem F3 {x t:Str} {C:Rh} {bmB:List Rg} {Bn newId initId:Rs} {j:Nat} {p np cpos pos:Pos} (FB:ExcBaseFacts Bn newId initId bmB) (q:PySem.W.excIn K C bmB newId=true) (hm:mg x=some (.ref C))
  (hg:Gl (de (iy P w) P w K mg base N Rx scope f cd A outer s0 H0 E) x) (hd:(x == ("__debug__":Str))=false:=by decide):
  PS (de (iy P w) P w K mg base N Rx scope f cd A outer s0 H0 E) (.Raise (some (.Call (.Name x np) [.Constant (.str t) j p] [] cpos)) none pos) (λ_ _ H=>E (.ref C) none H):=by
 intro Rw s σ H D I h;obtain⟨tl,Nn,nm,qn,bs,hdct,sn,sub,ab,col,dd,k0,k1,k2,k3,k5,mN,hC,hN,hni,T⟩:=(Hu (x:=x) I.kIn q hm).obj;refine wpAny_Raise_call_subT (C:=C) (nm:=nm) (q:=qn) (N:=Nn) (bs:=bs) (bm:=tl) (hdct:=hdct) (sn:=sn) (sub:=sub) (ab:=ab) (col:=col) (dd:=dd) (k0:=k0) (k1:=k1) (k2:=k2) (k3:=k3) (k5:=k5)
  FB (mN:=mN) (T.hasType FB.hasBase) (I.ok.hd rfl) rfl hni (jr I hg hm ⟨rfl,?_⟩ hd)
 refine Calls.evalArgs_plain (Calls.spliced_cons (Calls.Constant_str (k:=j) (pos:=p) (Calls.spliced_nil ⟨rfl,Qi rfl,hC,hN,T,λh' e hx=>?_⟩)))
 show wpAny _ _ (leaving _ (.ref e)) _ _ _
 have I1:=I.tok (s.toks+1);have hin:∀ env∈(de (iy P w) P w K mg base N Rx scope f cd A outer s0 H0 E).stack,∀ b,env.frame=some b->b∈ic (de (iy P w) P w K mg base N Rx scope f cd A outer s0 H0 E).stack:=λenv he b hb=>List.mem_filterMap.mpr ⟨env,he,hb⟩
 obtain⟨t2,he2,_,_⟩:=hx.there;refine vj (B:=PySem.W.hideAll s.heap (ic (de (iy P w) P w K mg base N Rx scope f cd A outer s0 H0 E).stack)) (a0:=.ref t2) I.ok.frames ((PySem.W.funFrames_hide I.stack hin).of_keeps λb o hb _=>⟨o,hx.keeps b o hb,rfl⟩) rfl he2 (λb o z=>hx.keeps b o (PySem.W.of_hideAll _ z)) (by
  cases y:(PySem.W.hideAll s.heap (ic (de (iy P w) P w K mg base N Rx scope f cd A outer s0 H0 E).stack)).get? e with
  | none=>rfl
  | some o=>
   have z:=PySem.W.of_hideAll _ y;rw [show s.heap.get? e=none from hx.new] at z
   cases z) rfl rfl rfl rfl .last λh2 fl up=>?_
 refine zE (sx:={s with heap:=h',toks:=s.toks+1}) I rfl I.bare fl (λb ob z=>?_) (λb o z _ hb=>PySem.W.hideAll_get _ z hb) (λb o z hb=>⟨o,PySem.W.hideAll_get _ z hb⟩) (λb hb o z=>?_) (λ_ _ _ n=>n) (λ_ _ z=>z) (λ_ _ _ z=>z) (λb ps z=>⟨#[],by rw [z]; simp⟩) h
 ·refine(I.hok b ob z).stay (λc v hc y=>PySem.W.hideAll_get _ y λhf=>?_) (λ_ y=>y) λ_ _ y=>y
  have hn:=I.stkFree c hf;rcases hc with rfl | hc
  ·rw [hn] at z; cases z
  ·rw [hn] at hc; cases hc
 ·obtain⟨_,o2,e2,d2⟩:=I.stack.mem (Qb _ hb);rw [z] at e2;cases e2;exact up b o (hx.keeps _ _ z) d2
end
section
variable {X:Cx} {Rw:List (Rh×Rv)} {σ:St} {H H':Hp} {s s':Rf} {E:XK}
theorem aC.landed {B h5:Ro} {ea:Rh} {cls a0:Rg} (I:aC X Rw σ H s) (os:s'.os=s.os) (bare:AllBare s'.gens) (fl:Heap.FlyingW B X.stack ea cls a0 s'.heap) (fl5:Heap.FlyingW B X.stack ea cls a0 h5) (up:s'.heap.UpToSlots h5) (hok:mL X.prog X.w H' B)
  (hB:∀ b o,s.heap.get? b=some o->H b=none->b∉ic X.stack->B.get? b=some o) (hB2:∀ b o,s.heap.get? b=some o->b∉ic X.stack->∃ o',B.get? b=some o') (un:Un (ic X.stack) [] H H' s.heap s'.heap):
  aC X Rw σ H' {s' with heap:=h5}:=by
 have fsl:∀ b∈ic X.stack,∀ o,s.heap.get? b=some o->∃ sl,h5.get? b=some {o with slots:=sl}:=λb hb o e=>by
  obtain⟨sl,e1⟩:=un.slot b o e (I.stkFree b hb) hb (λz=>nomatch z)
  obtain⟨_,o2,e2,d2⟩:=fl.2.2.1.mem hb;rw [e1] at e2;cases e2;obtain⟨sl',e3⟩:=up b _ e1 d2;exact⟨sl',e3⟩
 refine I.call' (s':={s' with heap:=h5}) (ch:=[]) os ⟨λb o e n hb _=>fl5.1 _ _ (hB b o e n hb),λb o e n hb _=>fsl b hb o e,un.free,λb o e _=>?_,un.tups,un.frzs,un.tbls⟩ (hok.kept fl5.1) bare λb z=>nomatch z
 by_cases hb:b∈ic X.stack
 ·obtain⟨sl,e1⟩:=fsl b hb o e;exact⟨_,e1⟩
 ·obtain⟨o',e1⟩:=hB2 b o e hb;exact⟨o',fl5.1 _ _ e1⟩
theorem aC.freeze {a:Rh} {o:Rv} (I:aC X Rw σ H s) (e:s.heap.get? a=some o) (hn:H a=none) (h0:X.s₀.heap.get? a=none) (hL:a≠X.env.locals) (hc:∀ x c,X.env.cells.lookup x=some c->c≠a) (hp:∀ p∈X.pn++Rw,p.1≠a):
  aC X Rw σ (bS H a (.frz o (.ext λ_=>True))) s:=by
 have ne:∀ b u,X.s₀.heap.get? b=some u->b≠a:=λb u z y=>by rw [y,h0] at z; cases z
 refine⟨I.ok,I.os,I.bare,⟨I.base.keep,I.base.slot,λb u z n x=>?_,I.base.there,λb xs z=>?_,λb u v z=>?_,λb ps z=>?_⟩,I.loc,I.cell,?_,λx c z=>?_,λp z=>?_,λb u z=>?_,I.len⟩
 ·rw [aF (ne b u z)]; exact I.base.free b u z n x
 ·have q:=I.base.tups b xs z;rw [aF (a9 q hn)]; exact q
 ·have q:=I.base.frzs b u v z;rw [aF (a9 q hn)]; exact q
 ·obtain⟨m,q⟩:=I.base.tbls b ps z;exact⟨m,by rw [aF (a9 q hn)]; exact q⟩
 ·rw [aF (Ne.symm hL)]; exact I.free
 ·rw [aF (hc x c z)]; exact I.freeC x c z
 ·obtain⟨q1,q2,q3⟩:=I.pin p z;exact⟨q1,by rw [aF (hp p z)]; exact q2,q3⟩
 ·by_cases hb:b=a
  ·subst hb;rw [br] at z;cases z;exact⟨e,trivial,⟨o,e⟩,λ_ _ _ _=>trivial⟩
  ·rw [aF hb] at z;exact(I.hok b u z).stay (λ_ _ _ q=>q) (λc q=>by rw [aF (a9 q hn)]; exact q) λc xs q=>by rw [aF (a9 q hn)]; exact q
abbrev Cx.marked (X:Cx) (v:Rg) (W:Rg->Rf->Prop):Cx:={X with A:=X.A.mark (some v),calm:=false,xe:=W}
theorem aC.marked (I:aC X Rw σ H s) (v:Rg) (W:Rg->Rf->Prop):aC (X.marked v W) Rw σ H s:=
 ⟨⟨I.ok.mod,I.ok.kind,I.ok.glob,I.ok.blt,I.ok.above,I.ok.inj,I.ok.has,I.ok.cab,λz=>(by cases z),I.ok.frames,I.ok.stk,I.ok.exf,I.ok.bs,I.ok.bsz,I.ok.noex,I.ok.exfs,I.ok.funs,I.ok.frf⟩,I.os,I.bare,I.base,I.loc,I.cell,I.free,I.freeC,I.pin,I.hok,I.len⟩
theorem aC.unmarked {v:Rg} {W:Rg->Rf->Prop} (I:aC (X.marked v W) Rw σ H s) (hd:X.calm=true->X.A.handled=none):aC X Rw σ H s:=
 ⟨⟨I.ok.mod,I.ok.kind,I.ok.glob,I.ok.blt,I.ok.above,I.ok.inj,I.ok.has,I.ok.cab,hd,I.ok.frames,I.ok.stk,I.ok.exf,I.ok.bs,I.ok.bsz,I.ok.noex,I.ok.exfs,I.ok.funs,I.ok.frf⟩,I.os,I.bare,I.base,I.loc,I.cell,I.free,I.freeC,I.pin,I.hok,I.len⟩
end
theorem dY.there {P:Rk} {w:Rn} {H:Hp} {h:Ro} {a:Rh} {o:HO} (x:dY P w H h a o):∃ ob,h.get? a=some ob:=by
 cases o with
 | lst xs=>obtain⟨_,_,_,_,e⟩:=x; exact⟨_,e⟩
 | tup xs=>obtain⟨_,_,_,ob,e,_⟩:=x; exact⟨_,e⟩
 | dK kvs=>obtain⟨_,_,_,_,o,_,_,e,_⟩:=x; exact⟨_,e⟩
 | dT kvs=>obtain⟨_,_,_,_,o,_,_,e,_⟩:=x; exact⟨_,e⟩
 | set S n=>obtain⟨o,_,_,_,e,_⟩:=x; exact⟨_,e⟩
 | ins C dx fs=>obtain⟨_,_,_,e,_⟩:=x; exact⟨_,e⟩
 | own y=>obtain⟨_,e⟩:=x; exact⟨_,e⟩
 | xd fs=>obtain⟨_,⟨_,_,_,e,_⟩,_⟩:=x; exact⟨_,e⟩
 | rng lo hi=>obtain⟨_,_,_,e⟩:=x; exact⟨_,e⟩
 | frz ob u=>obtain⟨e,_⟩:=x; exact⟨_,e⟩
 | tbl ps=>exact⟨_,(show h.get? a=some _ from x)⟩
 | met f y=>exact⟨_,(show h.get? a=some _ from x)⟩
 | ext φ=>obtain⟨_,e,_⟩:=x; exact e
end L2
namespace DL
open PySem PySem.Spec PyProof.Rows L2
abbrev qV:=List D->DH->DK->(Rh->DH->Prop)->Prop
def Hl (K:Fg) (F:qV):Sp:=λvs H Q E=>∃ ds S k x,IsDs K H ds vs/\Hs K H S/\F ds S k x/\(∀ d' S' v H',k d' S'->Kp H H'->Hs K H' S'->cq K H' d' v->Q v H')/\∀ C S' H',x C S'->Hs K H' S'->E (.ref C) none H'
structure uG (P:Rk) (w:Rn) (K:Fg) (mg:Str->Ri Rg) (base:Ro) (x:Str) (n:Nat) (F:qV):Prop where
 ex:∃ f fd ps,aL P w K mg base (iy P w) n f fd ps (Hl K F)/\mg x=some (.ref f)/\PySem.W.keepIn K (.ref f)=true/\ju K fd ps []
section
variable {P:Rk} {w:Rn} {K:Fg} {mg:Str->Ri Rg} {base:Ro} {N:List Str} {Rx:Str} {scope:Scope} {f:Rh} {cd:Rg} {A:Rm} {outer:List Env} {s0:Rf} {H0:Hp} {E:XK} {ex:Rh->DH->Prop}
theorem t6 {x t:Str} {C:Rh} {bmB:List Rg} {Bn newId initId:Rs} {j:Nat} {p np cpos pos:Pos} (hE:∀ C S' H',ex C S'->Hs K H' S'->E (.ref C) none H') (FB:ExcBaseFacts Bn newId initId bmB) (q:PySem.W.excIn K C bmB newId=true) (hm:mg x=some (.ref C))
  (hg:Gl (de (iy P w) P w K mg base N Rx scope f cd A outer s0 H0 E) x) (hd:(x == ("__debug__":Str))=false:=by decide):
  SJ (de (iy P w) P w K mg base N Rx scope f cd A outer s0 H0 E) (.Raise (some (.Call (.Name x np) [.Constant (.str t) j p] [] cpos)) none pos) (λ_ _ S=>ex C S):=
 ⟨PS.imp (F3 FB q hm hg hd) λ_ _ H z9=>by obtain⟨_,S,_,_,hS,h,_⟩:=z9; exact hE C S H h hS⟩
def EV (F:qV) (ex:Rh->DH->Prop) (t:DA):DE:=λL S k=>t L S λds S1=>F ds S1 k ex
theorem xM {x:Str} {n:Nat} {F:qV} {e:Rj} {es:List Rj} {t:DA} {p pos:Pos} (hE:∀ C S' H',ex C S'->Hs K H' S'->E (.ref C) none H') (c:uG P w K mg base x n F) (hr:b3 n (de (iy P w) P w K mg base N Rx scope f cd A outer s0 H0 E).A)
  (hg:Gl (de (iy P w) P w K mg base N Rx scope f cd A outer s0 H0 E) x) (ha:AJ (de (iy P w) P w K mg base N Rx scope f cd A outer s0 H0 E) (e::es) t) (hdb:(x == ("__debug__":Str))=false:=by decide)
  (he:starEach (e::es) (de (iy P w) P w K mg base N Rx scope f cd A outer s0 H0 E).env=(false,eval e (de (iy P w) P w K mg base N Rx scope f cd A outer s0 H0 E).env)::starEach es (de (iy P w) P w K mg base N Rx scope f cd A outer s0 H0 E).env:=by exact cQ rfl)
  (hpl:(backTo pos (starEach es (de (iy P w) P w K mg base N Rx scope f cd A outer s0 H0 E).env)).any (·.1)=false:=by exact fi rfl):
  EJ (de (iy P w) P w K mg base N Rx scope f cd A outer s0 H0 E) (.Call (.Name x p) (e::es) [] pos) (EV F ex t):=by
 obtain⟨g,fd,ps,F1,h1,h2,h3⟩:=c.ex;refine⟨PE.imp (A8 F1 hr hg h1 h2 h3 .nil HD ha.h hdb he hpl) fun σ H Q ⟨L,S,k,hL,hS,h,n⟩=>?_⟩
 refine yA.go hL hS h λds S1 vs H1 h1 k1 hL1 hS1 i1=>?_
 show Hl K F (vs++[]) H1 Q E
 rw [Qn];exact⟨ds,S1,k,ex,i1,hS1,h1,λd' S' v H' q k3 z1 z2=>n d' S' v H' q (k1.trans k3) z1 z2,hE⟩
theorem _root_.L2.xo.okX {x Rx:Str} {st:Rp} {f:Rh} {fd:FuncData} {N ps:List Str} {k:Nat} {F:qV} (Fn:xo K x Rx st f fd) (Sc:ar N ps (aj st)) (len:∀ ds S k x,F ds S k x->ds.length=ps.length)
  (hbody:∀ (cdv:Rg) (A:Rm) (outer:List Env) (s:Rf) (H:Hp) (E:XK) (ex:Rh->DH->Prop),b3 k (A.deeper (envOfC Rx (aj st) s.heap.objs.size f cdv))->(∀ C S' H',ex C S'->Hs K H' S'->E (.ref C) none H')->
   ∃ g,zo (de (iy P w) P w K mg base N Rx (aj st) f cdv A outer s H E) (bL st) g/\
    ∀ ds S k,F ds S k ex->g {nx:=λ_ S'=>k .non S',rt:=k} (ds.map some++List.replicate (N.length - ps.length) none) S):aL P w K mg base (iy P w) (k+1) f fd ps (Hl K F):=by
 obtain⟨oc,od,kV,doc,pm,an,cdv,ct,osl,rfl,lk,hcd⟩:=Fn.ex;refine IM lk hcd Sc (λvs H Q E h=>?_) λA outer s H vs Q E hr h=>?_
 ·obtain⟨ds,S,k,x,i,_,q,_⟩:=h;rw [<- i.length];exact len ds S k x q
 ·obtain⟨ds,S,k',x,i,hS,h,n,hE⟩:=h;obtain⟨g,hg,q⟩:=hbody cdv A outer s H E x hr hE;refine⟨_,hg.h,ds.map some++List.replicate (N.length - ps.length) none,S,_,?_,hS,q ds S k' h,?_⟩
  ·unfold L2.start;rw [<- i.length,len ds S k' x h];exact Lc.start _ i
  ·exact⟨λL S' σ H' h1 k1 _ hS'=>n _ S' _ H' h1 k1 hS' (fY.mpr rfl),λd S' v H' h1 k1 hS' i1=>n d S' v H' h1 k1 hS' i1,λ_ _ _ _ h1=>h1.elim,λ_ _ _ _ h1=>h1.elim⟩
end
theorem C4 {P:Rk} {w:Rn} {outer:List Env} {H:Hp} {s:Rf} {E:XK} {e:Rg} {s':Rf} (h:iy P w outer H s E e s'):iy P w outer H s (λc t H'=>E c t H'/\Kp H H') e s':=by
 obtain⟨ea,cls,a0,H',B,h1,h2,h3,h4,h5,h6,h7,h8,h9⟩:=h;refine⟨ea,cls,a0,H',B,h1,h2,h3,h4,h5,h6,h7,h8,h9,λa o z i=>?_⟩
 cases o with
 | tup xs=>exact h8.tups a xs z
 | frz ob u=>exact h8.frzs a ob u z
 | _=>exact i.elim
def PR (K:Fg) (ex:Rh->DH->Prop):XK:=λcls _ H'=>∃ C S',cls=.ref C/\ex C S'/\Hs K H' S'
section
variable {X:Cx} {Rw:List (Rh×Rv)} {σ:L2.St} {H:Hp} {s:Rf}
theorem KG (I:aC X Rw σ H s) {S:DH} {a c:Rh} {ds es:List D} {b:Rr} (hS:Hs X.K H S) (h1:S a=some (.lst ds)) (h2:S c=some (.lst es)) (hl:ds.length=es.length) (A:Rm) (hu:A.units+8 < cLine) (h:l_ (qE 7) ds es=some b):
  SeqAt.RcAt A s (.ref a) (.ref c) b/\SeqAt.RcNeAt A s (.ref a) (.ref c) (!b):=by
 obtain⟨xs,q1,j1⟩:=hS.lst h1;obtain⟨ys,q2,j2⟩:=hS.lst h2;obtain⟨us,r1,p1,_⟩:=I.list (jv.of q1);obtain⟨ws,r2,p2,_⟩:=I.list (jv.of q2);have l1:=j1.length;have l2:=j2.length;have l3:=r1.length;have l4:=r2.length;have hsz:us.toArray.size=ws.toArray.size:=by simp only [P8]; omega
 have he:∀ j (h1:j < us.toArray.size) (h2:j < ws.toArray.size),SeqAt.EqAt A.in1 s us.toArray[j] ws.toArray[j] (lm (qE 7) ds es j):=λj h1 h2=>by
  simp only [P8] at h1 h2
  obtain⟨d,e,x,y,q1,q2,d1,d2,rx,ry⟩:=A4 j1 j2 r1 r2 h1 h2;have:=(vJ I 7 A.in1 d e x y us[j] ws[j] _ (by show A.units+1+7 < cLine; omega) (vR h q1 q2) d1 d2 rx ry).1
  simpa using this
 have e:=tw h;rw [hl,Nat.min_self] at e;have e:(List.range us.toArray.size).all (lm (qE 7) ds es)=b:=by
  simp only [P8];rw [<- l3,<- l1,hl]
  simpa using e
 refine⟨?_,?_⟩
 ·have z:=SeqAt.RcAt.lists p1.isList p2.isList hsz (by omega) he
  rw [e] at z;exact z
 ·have z:=SeqAt.RcNeAt.lists p1.isList p2.isList hsz (by omega) he
  rw [e] at z;exact z
end
def LC:D2:=λd e S k=>match d,e with
 | .ref a,.ref c=>∃ xs ys b,S a=some (.lst xs)/\S c=some (.lst ys)/\xs.length=ys.length/\l_ (qE 7) xs ys=some b/\k (.bl b) S
 | d,e=>∃ b,qE 8 d e=some b/\k (.bl b) S
theorem C5 {X:Cx} {n:Nat} (hr:b3 n X.A):jf X (compareOp .Eq) (mM X.K LC):=by
 intro Rw s σ H x y v u Q I rx ry h;obtain⟨d,e,S,k,i1,i2,hS,r,m⟩:=h;have hu:=hr.units;unfold LC at r
 split at r
 ·obtain⟨xs,ys,b,h1,h2,h3,h4,w⟩:=r;have e1:=aZ.mp i1;have e2:=aZ.mp i2;subst e1 e2;cases rx;cases ry;exact(KG I hS h1 h2 h3 X.A (by omega) h4).1 X.prog X.w X.xe _ ⟨.bl b,H,I,rfl,om m hS w (cU.mpr rfl)⟩
 ·obtain⟨b,h1,w⟩:=r;exact(vJ I 8 X.A d e x y v u b (by omega) h1 i1 i2 rx ry).2 X.prog X.w X.xe _ ⟨.bl b,H,I,rfl,om m hS w (cU.mpr rfl)⟩
theorem uG.mk' {P:Rk} {w:Rn} {K:Fg} {mg:Str->Ri Rg} {base:Ro} {x Rx:Str} {st:Rp} {f:Rh} {fd:FuncData} {ps:List Str} {n:Nat} {F:qV} (Fn:xo K x Rx st f fd) (h:aL P w K mg base (iy P w) n f fd ps (Hl K F)) (hm:mg x=some (.ref f)) (hb:ju K fd ps []):uG P w K mg base x n F:=
 ⟨f,fd,ps,h,hm,Fn.kp,hb⟩
def Ei:ce:=λds S k=>match ds with
 | [.tup xs]=>k (.tup xs) S
 | [.ref a]=>∃ xs,S a=some (.lst xs)/\k (.tup xs) S
 | _=>False
theorem Gq {X:Cx}:dw X (.type "tuple") (xn X.K Ei):=by
 intro Rw s σ H xs us Q I rs h;obtain⟨ds,S,k,i,hS,r,n⟩:=h;unfold Ei at r
 split at r
 ·obtain⟨x,rfl,i1⟩:=jl i;obtain⟨a,vs,rfl,t,j⟩:=fe.mp i1;exact ni Rw s σ H _ us Q I rs ⟨a,vs,rfl,.inr ⟨t,n _ S _ H r (Kp.refl H) hS i1⟩⟩
 ·obtain⟨x,rfl,i1⟩:=jl i;have e1:=aZ.mp i1;subst e1;obtain⟨xs,z,r⟩:=r;obtain⟨vs,hl,j⟩:=hS.lst z;refine ni Rw s σ H _ us Q I rs ⟨_,vs,rfl,.inl ⟨jv.of hl,λp hp=>?_⟩⟩
  have kp:Kp H (bS H p (.tup vs)):=Kp.new hp;exact n _ S _ _ r kp (hS.new hp) (fe.mpr ⟨p,vs,rfl,lU.of br,j.kp kp⟩)
 ·exact r.elim
end DL
namespace L2
open PySem PySem.Spec PyProof.Rows
theorem Cw:bootBuiltins "enumerate"=some (.type "enumerate"):=by decide +kernel
theorem Fe {P:Rk} {w:Rn} {A:Rm} (b:Rr) (it l:Rh) (xs:Rq Rg) (hh:A.handled=none) (hne:it≠l):Draws P w A it [it,l] xs.size (λi x=>xs[i]?=some x) (λi h=>KP b it l i h/\sqB b l xs h) where
 live:=λi h st=>by obtain⟨o,e,_⟩:=(cP (P:=P) (w:=w) b it l).obj _ _ st.1; exact⟨o,e⟩
 frame:=λi h h' st q=>⟨(cP (P:=P) (w:=w) b it l).at_ _ _ _ st.1 λo e=>q it (by simp) o e,(cP (P:=P) (w:=w) b it l).sqAt _ _ _ st.2 λo e=>q l (by simp) o e⟩
 item:=λi s Q E hi st hQ=>(cP (P:=P) (w:=w) b it l).item A i s xs xs[i] Q E st.1 st.2 (by simp [hi]) λh' a1 a2=>hQ _ h' s.toks (by simp [hi]) ⟨a1,(cP (P:=P) (w:=w) b it l).sqAt _ _ _ st.2 λo e=>a2.extBut _ _ (Ne.symm hne) e⟩ a2
 done:=λs Q E st hE=>(cP (P:=P) (w:=w) b it l).fin _ _ _ _ _ _ hh st.1 st.2 (by simp) hE
def MC (K:PySem.W.Frag) (b:Rr) (a:Rh):It:=
 ⟨λi H => ∃ xs x, vf b K H a xs ∧ xs[i]? = some x,
  λi H v H'=>∃ T x,v=.ref T/\H T=none/\H'=bS H T (.tup [.int (i:Nat),x])/\∀ xs,vf b K H a xs->xs[i]?=some x,
  λi H=>∃ xs,vf b K H a xs/\xs.length=i⟩
def Ps (b:Rr) (e it a:Rh) (i:Nat) (h:Ro):Prop:=(∃ old,IsEnum h e it (i:Nat) old)/\KP b it a i h
theorem CQ {P:Rk} {w:Rn} {K:PySem.W.Frag} {es:List Rj} {k:Nat} {pos:Pos} (b:Rr) {e it a:Rh} (h1:e≠it) (h2:e≠a) (h3:it≠a):
  xH P w K (.Tuple es k pos) (MC K b a) [e,it] e (Ps b e it a) where
 mem:=by simp
 obj:=λi h st c hc=>by
  obtain⟨⟨old,he⟩,hi⟩:=st;have hc':c=e\/c=it:=by simpa using hc
  rcases hc' with rfl | rfl
  ·exact⟨_,he,λv q=>by cases q⟩
  ·exact(cP (P:=P) (w:=w) b c a).obj _ _ hi
 keep:=λi h h' st q=>by
  obtain⟨⟨old,he⟩,hi⟩:=st;exact⟨⟨old,q e (by simp) _ he⟩,(cP (P:=P) (w:=w) b it a).at_ _ _ _ hi λo x=>q it (by simp) o x⟩
 item:=by
  intro X hP hw hK hc i Rw s σ H E I hf st hg;subst hP hw hK;obtain⟨xs,x,q1,hx⟩:=hg;obtain⟨its,rv,p⟩:=I.sqB q1;obtain⟨u,hu,ru⟩:=rv.get hx;obtain⟨⟨old,he⟩,hi⟩:=st;have hn:H s.heap.objs.size=none:=I.hok.fresh (P4 _);have helt:e < s.heap.objs.size:=P3 he;have hilt:it < s.heap.objs.size:=by obtain⟨o,z,_⟩:=(cP (P:=X.prog) (w:=X.w) b it a).obj _ _ hi; exact P3 z
  have hlt:i < its.toArray.size:=by
   have:=QC.mp hu;obtain⟨z,_⟩:=this
   simpa using z
  refine wpAny_pyNext_enum_itemD (Fe b it a its.toArray (show X.A.in1.handled=none from I.ok.hd hc) h3) he ⟨hi,p⟩ hlt h1 (by simp [h1,h2]) λx' h' tk hx' ho hst hT hsz hk=>?_
  have ex:x'=u:=by
   have z:its[i]?=some x':=by simpa using hx'
   rw [hu] at z;exact(Qx z).symm
  subst ex;have I1:aC X Rw σ (bS H s.heap.objs.size (.tup [.int (i:Nat),x])) {s with heap:=h',toks:=tk+1}:=
   I.turnedNew (t':=tk+1) [e,it] (λc o hb y=>hk c o (λq=>hb (by simp [q])) (λq=>hb (by simp [q])) y) hf (P4 _) ⟨Qi rfl,[.int (i:Nat) tk,x'],.cons ⟨tk,rfl⟩ (.cons ru .nil),⟨_,hT,rfl,_,rfl⟩⟩
  refine⟨_,rfl,wpAny_letOwnedTupleGo_enum (s:={s with heap:=h',toks:=tk+1}) ho λh2' g1 g2=>?_⟩
  refine⟨.ref s.heap.objs.size,bS H s.heap.objs.size (.tup [.int (i:Nat),x]),?_,rfl,⟨_,x,rfl,hn,rfl,λxs' e1=>by rw [I.sqB_inj e1 q1]; exact hx⟩,⟨⟨x',by simpa using g1⟩,?_⟩,λc hb=>?_⟩
  ·refine I1.turnedL (t':=tk+1) [e] (λc o hb y=>g2.extBut _ _ (λq=>hb (by simp [q])) y) λc hb=>?_
   have z:c=e:=by simpa using hb
   subst z;obtain⟨f0,f1,f2,f3,f4,f5⟩:=hf c (by simp)
   exact⟨by rw [aF (P_ helt)]; exact f0,f1,f2,f3,f4,f5⟩
  ·exact(cP (P:=X.prog) (w:=X.w) b it a).at_ _ _ _ hst.1 λo z=>g2.extBut _ _ (Ne.symm h1) z
  ·have hc':c=e\/c=it:=by simpa using hb
   rw [aF (by rcases hc' with rfl | rfl; exact P_ helt; exact P_ hilt)]
   exact(hf c hb).1
 done:=by
  intro X hP hw hK hc i Rw s σ H E I hf st hg;subst hP hw hK;obtain⟨xs,q1,hx⟩:=hg;obtain⟨its,rv,p⟩:=I.sqB q1;obtain⟨⟨old,he⟩,hi⟩:=st;have l1:=rv.length;have ez:i=its.toArray.size:=by simp; omega
  refine wpAny_pyNext_enum_endD (Fe b it a its.toArray (show X.A.in1.handled=none from I.ok.hd hc) h3) he ⟨by rw [<- ez]; exact hi,p⟩ λh' kk=>⟨rfl,I.turnedL (t':=s.toks) [it] (λc o hb y=>kk c o (λq=>hb (by simp [q])) y) λc hb=>hf c ?_⟩
  have z:c=it:=by simpa using hb
  subst z;simp
 self:=λ_ _ _ _ _ st h=>by
  obtain⟨⟨old,he⟩,_⟩:=st;exact wpAny_pyIter_enum he h
theorem yy (l:Rh) (xs:Rq Rg) (n:Nat) (dct:Ri Rh) (sl:Rq (Ri Rg)):
  Meets (Builtin.«enumerate.__new__» ⟨[.type "enumerate",.ref l],[]⟩) (λ_ R s=>s.heap.get? l=some ⟨.type "tuple",dct,.seq xs n,sl⟩/\
   R (.ok (.ret (.ref (Ir s.heap "tuple_iterator" l).objs.size))) {s with heap:=(Ir s.heap "tuple_iterator" l).push {cls:=.type "enumerate",data:=.fields #[.none,.bool false,.ref s.heap.objs.size,rawInt 0,.none,.none]}}):=
 .of_wp λprog w A R s h=>by
  obtain⟨hp,g,d,tk,os⟩:=s;obtain⟨hl,h⟩:=h;have hsub:=sub_enumerate;have hT:Heap.IsTuple (Shared.heap ⟨hp,g,d,tk,os⟩) l xs:=⟨_,hl,rfl,n,rfl⟩
  wp_walk using AutoSeq1.wpAny_loadPart' hl
  refine wpAny_stack_any λ_=>P0 ?_
  split
  ·rename_i c _ _ _ _ _
   cases (c == Value.type "enumerate") <;> (wp_walk using AutoSeq1.wpAny_loadPart' hl,wpAny_pyIter_tuple hT; exact⟨_,rfl,h⟩)
  ·wp_walk using AutoSeq1.wpAny_loadPart' hl,wpAny_pyIter_tuple hT
   exact⟨_,rfl,h⟩
section
variable {prog:Rk} {w:Rn} {A:Rm} {E:Rg->Rf->Prop} {s:Rf}
theorem zc {l:Rh} {xs:Rq Rg} {Q:Rg->Rf->Prop} (hL:s.heap.IsTuple l xs)
  (h:∀ h',IsEnum h' (s.heap.objs.size+1) s.heap.objs.size 0 .none->h'.get? s.heap.objs.size=some {cls:=.type "tuple_iterator",data:=.fields #[.ref l,.int 0 0]}->(∀ c o,s.heap.get? c=some o->h'.get? c=some o)->Q (.ref (s.heap.objs.size+1)) {s with heap:=h'}):
  wpAny (model prog w) A (call (.type "enumerate") [.ref l]) Q E s:=by
 obtain⟨⟨c,dct,dt,sl⟩,hl,hc,n,hd⟩:=hL;obtain rfl:c=.type "tuple":=hc
 obtain rfl:dt=.seq xs n:=hd;refine callType_new F.called_enumerate (by decide) (F.typeCall_enumerate_1 _) (F.newCall_enumerate_1 _) (λobj=>F.args_object_init_2 obj _) F.entry_enumerate_new (yy l xs n dct sl) ⟨hl,?_⟩
 have z1:(Ir s.heap "tuple_iterator" l).objs.size=s.heap.objs.size+1:=QW ..
 have g5:=P1 (Ir s.heap "tuple_iterator" l) (o:={cls:=.type "enumerate",data:=.fields #[.none,.bool false,.ref s.heap.objs.size,rawInt 0,.none,.none]}) rfl
 show _/\_
 rw [z1] at g5 ⊢;exact⟨⟨_,g5,rfl⟩,h _ g5 (PZ _ (P1 _ rfl)) λc o x=>PZ _ (PZ _ x)⟩
theorem zy {b:Rr} {l:Rh} {xs:Rq Rg} {Q:Rg->Rf->Prop} (hL:sqB b l xs s.heap)
  (h:∀ h',IsEnum h' (s.heap.objs.size+1) s.heap.objs.size 0 .none->KP b s.heap.objs.size l 0 h'->(∀ c o,s.heap.get? c=some o->h'.get? c=some o)->Q (.ref (s.heap.objs.size+1)) {s with heap:=h'}):
  wpAny (model prog w) A (call (.type "enumerate") [.ref l]) Q E s:=by
 cases b with
 | true=>exact call_enumerate_list hL λh' a1 a2 _ a4=>h h' a1 a2 a4
 | false=>exact zc hL λh' a1 a2 a4=>h h' a1 ⟨_,a2,rfl,rfl⟩ a4
end
def Nt (K:PySem.W.Frag) (ta:TA):TI:=fun σ H R=>ta σ H λvs H1=>∃ a b,vs=[.ref a]/\(∃ xs,vf b K H1 a xs)/\R (MC K b a) H1
theorem Hh {X:Cx} {a:Rj} {ta:TA} {p pos tp:Pos} {es:List Rj} {k:Nat} (hg:Gl X "enumerate") (hm:X.mg "enumerate"=none) (ha:PA X [a] ta) (hs:starEach [a] X.env=[(false,eval a X.env)]:=by rfl):
  PI X (.Tuple es k tp) (.Call (.Name "enumerate" p) [a] [] pos) (Nt X.K ta):=by
 intro Rw s σ H R I h;refine Call_ (pL I hg hm Cw (PyProof.Rows.callWith_type1 (cu (ha pos Rw s σ H _ I h) λus s1 ⟨vs,H1,I1,r1,q1⟩=>?_) (by rw [hs]; rfl) rfl))
 obtain⟨a1,b,rfl,⟨xs,e1⟩,q⟩:=q1;cases r1 with
 | cons r rr=>
  cases rr;cases r;obtain⟨its,rv,p1⟩:=I1.sqB e1;have al:=zS p1;refine zy p1 λh' c1 c2 c3=>?_
  refine wpAny_pyIter_enum (s:={s1 with heap:=h'}) c1 ?_
  have fr:∀ j,H1 (s1.heap.objs.size+j)=none:=λj=>I1.hok.fresh (Nat.le_add_right _ _)
  refine⟨_,[s1.heap.objs.size+1,s1.heap.objs.size],_,_,H1,rfl,I1.kept (t':=s1.toks) c3,CQ b (Nat.succ_ne_self _) (Nat.ne_of_gt (Nat.lt_succ_of_lt al)) (Nat.ne_of_gt al),⟨⟨_,c1⟩,c2⟩,λc hb=>?_,q⟩
  have hb':c=s1.heap.objs.size+1\/c=s1.heap.objs.size:=by simpa using hb
  rcases hb' with rfl | rfl
  ·exact I1.fpOk (Nat.le_add_right _ _) (fr 1)
  ·exact I1.fpOk (P4 _) (fr 0)
end L2
namespace DL
open PySem PySem.Spec PyProof.Rows L2
def uW:Nat->List D->List D
 | _,[]=>[]
 | j,d::r=>.tup [.int (j:Nat),d]::uW (j+1) r
theorem vi:∀ {ds:List D} {j i:Nat} {c:D},(uW j ds)[i]?=some c->∃ d,ds[i]?=some d/\c=.tup [.int ((j+i:Nat):Int),d]
 | [],_,_,_,h=>by cases h
 | d::r,j,0,c,h=>⟨d,rfl,(Qx h).symm⟩
 | d::r,j,i+1,c,h=>by
  obtain⟨e,h1,h2⟩:=vi (ds:=r) (j:=j+1) (i:=i) h;exact⟨e,h1,by rw [h2,show j+1+i=j+(i+1) by omega]⟩
theorem uX:∀ {ds:List D} {j:Nat},(uW j ds).length=ds.length
 | [],_=>rfl
 | _::r,j=>congrArg (·+1) (uX (ds:=r) (j:=j+1))
theorem H_ {K:Fg} {H1:Hp} {q:List D×Ri Rh} {a:Rh} {b:Rr} (y:∀ S2 H2,Kp H1 H2->Hs K H2 S2->fQ q S2->∃ xs,vf b K H2 a xs/\IsDs K H2 q.1 xs):
  (∀ i d S2 H2,(uW 0 q.1)[i]?=some d->Kp H1 H2->Hs K H2 S2->fQ q S2->(MC K b a).go i H2/\∀ x H',(MC K b a).yld i H2 x H'->Kp H2 H'/\Hs K H' S2/\cq K H' d x)/\
  ∀ S2 H2,Kp H1 H2->Hs K H2 S2->fQ q S2->(MC K b a).stop (uW 0 q.1).length H2:=by
 refine⟨λi c S2 H2 e k2 hS2 o2=>?_,λS2 H2 k2 hS2 o2=>?_⟩
 ·obtain⟨xs,w1,u1⟩:=y S2 H2 k2 hS2 o2;obtain⟨d,f1,rfl⟩:=vi e;obtain⟨v1,g1,r1⟩:=u1.get f1;refine⟨⟨xs,v1,w1,g1⟩,?_⟩;rintro x H' ⟨T,x',rfl,hT,rfl,al⟩;have l1:=al xs w1;rw [g1] at l1;cases l1;have kn:Kp H2 (bS H2 T (.tup [.int (i:Nat),v1])):=Kp.new hT;exact⟨kn,hS2.new hT,fe.mpr ⟨T,[.int (i:Nat),v1],rfl,lU.of br,IsDs.cons (isInt.mpr (by rw [Nat.zero_add])) (IsDs.cons (r1.kp kn) IsDs.nil)⟩⟩
 ·obtain⟨xs,w1,u1⟩:=y S2 H2 k2 hS2 o2;refine⟨xs,w1,?_⟩;rw [<- u1.length,uX]
def JR (ta:DA) (g:DG) (b:DS):DS:=λM L S=>ta L S λds S1=>match ds with
 | [d]=>∃ q,bh S1 d=some q/\fJ (fQ q) g b M (uW 0 q.1) L S1
 | _=>False
section
variable {X:Cx} {a:Rj} {es:List Rj} {kt:Nat} {tp p pos pos':Pos} {gg:DG} {ta:DA} {g:DS} {body:List Rp}
theorem rV (hp:PassesOwn (model X.prog X.w) X.A X.env X.xe) (hc:X.calm=true) (hgl:Gl X "enumerate") (hm:X.mg "enumerate"=none) (ha:AJ X [a] ta) (hg:GJ X (.Tuple es kt tp) gg) (hb:zo X body g)
  (hs1:starEach [a] X.env=[(false,eval a X.env)]:=by rfl) (hs:∀ x,foldedSetIterable (.Call (.Name "enumerate" p) [a] [] pos') X.env x=pure x:=by intro _; rfl):
  SJ X (.For (.Tuple es kt tp) (.Call (.Name "enumerate" p) [a] [] pos') body [] pos) (JR ta gg g):=
 ⟨PS.imp (tK hp hc (Hh hgl hm ha.h hs1) hg.h hb.h hs) λN σ H ⟨L,S,M,hL,hS,h,r⟩=>yA.go hL hS h λds S1 vs H1 h1 k1 hL1 hS1 i1=>by
  split at h1
  ·rename_i d1
   obtain⟨v1,rfl,j1⟩:=jl i1;obtain⟨q1,e1,h1⟩:=h1;obtain⟨a1,b1,rfl,x1,y1⟩:=zP hS1 j1 e1;obtain⟨z1,z2⟩:=H_ y1;exact⟨a1,b1,rfl,x1,pZ hL1 hS1 h1 (r.kp k1) z1 z2⟩
  ·exact h1.elim⟩
end
def LG:D2:=λd e S k=>match d,e with
 | .tup ds,.int i=>∃ c,L2.atI ds i=some c/\k c S
 | .rl ds,.int i=>∃ c,L2.atI ds i=some c/\k c S
 | .ref a,.int i=>∃ ds c,S a=some (.lst ds)/\L2.atI ds i=some c/\k c S
 | _,_=>False
theorem yO {X:Cx}:AS X (mM X.K LG):=AS.imp LW (mM.imp λd e S k h=>by
 unfold LG at h
 split at h
 ·obtain⟨c,h1,h2⟩:=h;simp only [xv,h1];exact h2
 ·obtain⟨c,h1,h2⟩:=h;simp only [xv,h1];exact h2
 ·obtain⟨ds,c,h0,h1,h2⟩:=h;simp only [xv,h0,h1];exact h2
 ·exact h.elim)
end DL
namespace L2
open PySem PySem.Spec PyProof.Rows
section
variable {X:Cx}
theorem tD:∀ {vs:List Rg} {ns:List Int},IntsAre vs ns->bf (ns.map V.int) vs
 | _,_,.nil=>.nil
 | _,_,.cons n t r=>.cons ⟨t,rfl⟩ (tD r)
end
end L2
namespace DL
open PySem PySem.Spec PyProof.Rows L2
theorem j_ {K:Fg} {H:Hp}:∀ {ns:List Int} {vs:List V},IsDs K H (ns.map D.int) vs->vs=ns.map V.int
 | [],vs,h=>by
  have:=h.length;exact Rc.mp this.symm
 | n::ns,vs,h=>by
  obtain⟨u,r,rfl,h1,h2⟩:=dJ.mp h;rw [isInt.mp h1,j_ h2]
  rfl
theorem t_ {K:Fg} {H:Hp}:∀ {ns:List Int},IsDs K H (ns.map D.int) (ns.map V.int)
 | []=>IsDs.nil
 | _::_=>IsDs.cons (isInt.mpr rfl) t_
def NV:D2:=λd e S k=>match e with
 | .str y=>(match d with
  | .str x=>k (.bl (x == y)) S
  | .int _=>k (.bl false) S
  | .bl _=>k (.bl false) S
  | .non=>k (.bl false) S
  | .tup _=>k (.bl false) S
  | .ref a=>(∃ ds,S a=some (.lst ds))/\k (.bl false) S
  | _=>False)
 | _=>False
theorem LO {X:Cx} {n:Nat} (hr:b3 n X.A):jf X (compareOp .Eq) (mM X.K NV):=by
 intro Rw s σ H x y v u Q I rx ry h;obtain⟨d,e,S,k,i1,i2,hS,r,m⟩:=h;have hu:=hr.units;cases e with
 | str z=>
  rw [j4.mp i2] at ry;obtain⟨t',rfl⟩:=ry;cases d with
  | str w=>rw [j4.mp i1] at rx; obtain⟨t,rfl⟩:=rx; exact SeqAt.RcAt.str_str _ _ _ _ X.prog X.w X.xe _ ⟨.bl _,H,I,rfl,om m hS r (cU.mpr rfl)⟩
  | int w=>rw [isInt.mp i1] at rx; obtain⟨t,rfl⟩:=rx; exact SeqAt.RcAt.int_str _ _ _ _ X.prog X.w X.xe _ ⟨.bl _,H,I,rfl,om m hS r (cU.mpr rfl)⟩
  | bl w=>rw [cU.mp i1] at rx; cases rx; exact SeqAt.RcAt.bool_str _ _ _ X.prog X.w X.xe _ ⟨.bl _,H,I,rfl,om m hS r (cU.mpr rfl)⟩
  | non=>rw [fY.mp i1] at rx; cases rx; exact SeqAt.RcAt.none_str _ _ X.prog X.w X.xe _ ⟨.bl _,H,I,rfl,om m hS r (cU.mpr rfl)⟩
  | tup xs=>
   obtain⟨p,vs,rfl,t1,j1⟩:=fe.mp i1;cases rx;obtain⟨us,r1,p1,_⟩:=I.tuple t1;exact SeqAt.RcAt.tuple_str (items:=us.toArray) _ _ (show s.heap.IsTuple p us.toArray from p1) (by omega) X.prog X.w X.xe _ ⟨.bl _,H,I,rfl,om m hS r (cU.mpr rfl)⟩
  | ref a=>
   have e1:=aZ.mp i1;subst e1;cases rx;obtain⟨⟨ds,h1⟩,r⟩:=r;obtain⟨xs,q1,j1⟩:=hS.lst h1;obtain⟨us,r1,p1,_⟩:=I.list (jv.of q1);exact SeqAt.RcAt.list_str (items:=us.toArray) _ _ p1.isList (by omega) X.prog X.w X.xe _ ⟨.bl _,H,I,rfl,om m hS r (cU.mpr rfl)⟩
  | _=>exact r.elim
 | _=>exact(show False from r).elim
end DL
set_option linter.all false
namespace DT
abbrev Mx:=Nat->Nat->Rat
def sm:Nat->(Nat->Rat)->Rat
 | 0,_=>0
 | n+1,f=>sm n f+f n
def sg (n:Nat):Rat:=if n % 2=0 then 1 else -1
def cl (M:Mx) (a:Nat) (u:Nat->Rat):Mx:=λr c=>if c=a then u r else M r c
end DT
namespace L2
open PySem PySem.Spec PyProof.Rows
theorem tF (val:Nat->Int):∀ k,argBest (λi j=>decide (val i > val j)) k<=k/\∀ i,i<=k->val i<=val (argBest (λi j=>decide (val i > val j)) k)
 | 0 => ⟨Nat.le_refl _, fun i h => by have : i = 0 := by omega
                                      subst this; exact Int.le_refl _⟩
 | k+1=>by
  obtain⟨h1,h2⟩:=tF val k;unfold argBest
  by_cases h:val (k+1) > val (argBest (λi j=>decide (val i > val j)) k)
  ·rw [if_pos (decide_eq_true h)];refine⟨P4 _,λi hi=>?_⟩
   by_cases e:i=k+1
   ·subst e; exact Int.le_refl _
   ·have:=h2 i (by omega); omega
  ·rw [if_neg (by simpa using h)]
   refine⟨by omega,λi hi=>?_⟩
   by_cases e:i=k+1
   ·subst e; omega
   ·exact h2 i (by omega)
theorem tt:∀ {ns:List Int} {vs:List Rg} {i:Nat} {v:Rg},bf (ns.map V.int) vs->vs[i]?=some v->∃ t,v=.int (ns.getD i 0) t
 | [],_,i,v,.nil,h=>by simp at h
 | n::ns,_,0,v,.cons r _,h=>by
  obtain⟨t,e⟩:=r;simp at h;exact⟨t,by rw [<- h,e]; rfl⟩
 | n::ns,u::us,i+1,v,.cons _ t,h=>by
  have h:us[i]?=some v:=by simpa using h
  obtain⟨t',e⟩:=tt t h;exact⟨t',by rw [e]; rfl⟩
section
variable {X:Cx}
theorem tX {Rw:List (Rh×Rv)} {σ:St} {H:Hp} {s:Rf} {a:Rh} {Q:VK} {nm:Rs} (I:aC X Rw σ H s) {v:V} {u:Rg} (r:aP v u) (q:Q v H) (h':Ro) (tk:Nat)
  (kk:∀ c o,c∉[s.heap.objs.size]->(s.heap.push {cls:=.type nm,data:=.fields #[.ref a,.int 0 0]}).get? c=some o->h'.get? c=some o):EP X Rw σ Q u {s with heap:=h',toks:=tk}:=by
 have I1:aC X Rw σ H {s with heap:=s.heap.push {cls:=.type nm,data:=.fields #[.ref a,.int 0 0]}}:=I.kept (t':=s.toks) λc o e=>PZ _ e
 refine⟨v,H,aC.turnedL (s:={s with heap:=s.heap.push {cls:=.type nm,data:=.fields #[.ref a,.int 0 0]}}) (t':=tk) [s.heap.objs.size] I1 kk (λc hc=>?_),r,q⟩
 have e:c=s.heap.objs.size:=by simpa using hc
 subst e;exact I.fpOk (P4 _) (I.hok.fresh (P4 _))
theorem ER {s:Rf} {a:Rh} {o:Rv} (hlt:a < s.heap.objs.size) (ho:o.isFreed=false:=by rfl):∀ b∈[s.heap.objs.size,a],b < (s.heap.push o).objs.size:=λb hb=>by
 have hz:s.heap.objs.size < (s.heap.push o).objs.size:=P3 (P1 _ ho);simp only [P9,Qh,or_false] at hb;rcases hb with e | e
 ·rw [e]; exact hz
 ·rw [e]; exact Nat.lt_trans hlt hz
theorem CK (hc:X.calm=true):dw X (.builtin "max") (λxs H Q=>∃ (p:Rh) (ns:List Int),xs=[.ref p]/\jv X.K H p (ns.map V.int)/\ns≠[]/\∀ m:Int,m∈ns->(∀ x∈ns,x<=m)->Q (.int m) H):=by
 intro Rw s σ H xs us Q I r h;obtain⟨p,ns,rfl,hq,hn,q⟩:=h;obtain⟨u,rfl,rx⟩:=lG r;cases rx;obtain⟨its,rv,pl,hz⟩:=I.list hq;have hl:=rv.length;rw [P6] at hl;have hlt:=pl.lt;have n0:0 < ns.length:=List.length_pos_iff.mpr hn;have hh:X.A.in1.handled=none:=I.ok.hd hc;have hv:∀ i v,its.toArray[i]?=some v->∃ t,v=Value.int (ns.getD i 0) t:=λi v h=>tt (i:=i) (v:=v) rv (by rw [Q8] at h; exact h)
 refine call_max_walk (wpAny_pyIter_list pl.isList ?_);refine⟨s.heap.objs.size,_,_,_,_,_,λi j=>decide (ns.getD i 0 > ns.getD j 0),rfl,Walks.list hh s.heap.objs.size p (P_ hlt) its.toArray,⟨⟨_,P1 _ rfl,rfl,rfl⟩,Heap.IsList.at pl.isList λo e=>PZ _ e⟩,ER hlt,by rw [P8]; omega,CmpOf.ints_gt _ hv,λv h' tk hP kk=>?_⟩
 rw [P8,<- hl] at hP;obtain⟨t,rfl⟩:=hv _ _ hP;obtain⟨b1,b2⟩:=tF (λi=>ns.getD i 0) (ns.length - 1)
 have hm:ns.getD (argBest (λi j=>decide (ns.getD i 0 > ns.getD j 0)) (ns.length - 1)) 0∈ns:=by
  have hlt2:argBest (λi j=>decide (ns.getD i 0 > ns.getD j 0)) (ns.length - 1) < ns.length:=by omega
  rw [QA,Qr hlt2];exact Q6 hlt2
 refine tX I (show aP (.int _) (.int _ t) from⟨t,rfl⟩) (q _ hm λx hx=>?_) h' tk kk
 obtain⟨i,hi,rfl⟩:=List.mem_iff_getElem.mp hx;have:=b2 i (by omega)
 rw [QA,Qr hi] at this;exact this
end
end L2
namespace DL
open PySem PySem.Spec PyProof.Rows L2
def Ip:ce:=λds S k=>match ds with
 | [.ref a]=>∃ ns:List Int,S a=some (.lst (ns.map D.int))/\ns≠[]/\∀ m:Int,m∈ns->(∀ x∈ns,x<=m)->k (.int m) S
 | ds=>J0 ds S k
theorem Ku {X:Cx} (hc:X.calm=true:=by rfl):dw X (.builtin "max") (xn X.K Ip):=by
 intro Rw s σ H xs us Q I rs h;obtain⟨ds,S,k,i,hS,r,n⟩:=h;unfold Ip at r
 split at r
 ·obtain⟨x,rfl,i1⟩:=jl i;have e1:=aZ.mp i1;subst e1;obtain⟨ns,z,hl,r⟩:=r;obtain⟨vs,q1,j⟩:=hS.lst z;have e:=j_ j;subst e;exact CK hc Rw s σ H _ us Q I rs ⟨_,ns,rfl,jv.of q1,hl,λm h1 h2=>n _ _ _ _ (r m h1 h2) (Kp.refl H) hS (isInt.mpr rfl)⟩
 ·exact Ii hc Rw s σ H xs us Q I rs ⟨_,S,k,i,hS,r,n⟩
end DL
namespace PySem
open Sem (wp)
open Builtin DL
section
variable {prog:Rk} {w:Rn}
def uL (c:Rs) (d:Rh) (i n ep:Nat):Rv:={cls:=.type c,dict:=none,data:=.fields #[.ref d,.int i 0,.int n 0,.int ep 0],slots:=#[]}
theorem O_ (it d:Rh) (es:Rq Ru) (i ep:Nat) (e:Ru) (hx:es[i]?=some e):
  MeetsIn prog w (Builtin.«dict_keyiterator.__next__» ⟨[.ref it],[]⟩) (λ_ R s=>s.heap.get? it=some (uL "dict_keyiterator" d i es.size ep)/\s.heap.get? d=some (lD es ep)/\
   R (.ok (.ret e.key)) {s with heap:=s.heap.update it (Obj.mapFields (·.setIfInBounds 1 (rawInt ((i:Int)+1))))}):=
 .of_wp λA R s h=>by
  obtain⟨hp,g,dr,tk,os⟩:=s;obtain⟨h1,h2,h⟩:=h
  wp_walk
  have z:(if (i:Int) < 0 then none else es[(i:Int).toNat]?)=some e:=by
   rw [if_neg (by omega),Q2]; exact hx
  rw [z]
  wp_walk
  exact⟨_,rfl,h⟩
theorem zl {h:Ro} {it:Rh} (f:Rv->Rv) (o o':Rv):Heap.ExtBut it h (((h.update it f).push o).push o'):=λb u nb e=>
 PZ _ (PZ _ ((Qw _ _ (Ne.symm nb)).trans e))
theorem PV (it d:Rh) (es:Rq Ru) (i ep:Nat) (hx:es[i]?=none):
  MeetsIn prog w (Builtin.«dict_keyiterator.__next__» ⟨[.ref it],[]⟩) (λA R s=>A.handled=none/\s.heap.get? it=some (uL "dict_keyiterator" d i es.size ep)/\s.heap.get? d=some (lD es ep)/\
   (∀ h' e,Heap.ExtBut it s.heap h'->(∃ o,h'.get? e=some o/\o.cls=.type "StopIteration")->R (.error (.ref e)) {s with heap:=h'})):=
 .of_wp λA R s h=>by
  obtain⟨hp,g,dr,tk,os⟩:=s;obtain⟨h0,h1,h2,h⟩:=h
  wp_walk
  have z:(if (i:Int) < 0 then none else es[(i:Int).toNat]?)=none:=by
   rw [if_neg (by omega),Q2]; exact hx
  rw [z]
  wp_walk
  unfold raiseNew;refine gt (wpAny_handled ?_);rw [show A.in1.handled=none from h0]
  exact gt (P0 (wpAny_throw (h _ _ (zl _ _ _) ⟨_,P1 _ rfl,rfl⟩)))
theorem Px (v d:Rh) (es:Rq Ru) (ep:Nat):
  MeetsIn prog w (Builtin.«dict_items.__iter__» ⟨[.ref v],[]⟩) (λ_ R s=>s.heap.get? v=some {cls:=.type "dict_items",data:=.fields #[.ref d]}/\s.heap.get? d=some (lD es ep)/\
   R (.ok (.ret (.ref s.heap.objs.size))) {s with heap:=s.heap.push {cls:=.type "dict_itemiterator",data:=.fields #[.none,.bool false,.ref d,.int 0 0,.int es.size 0,.int ep 0,.none,.none]}}):=
 .of_wp λA R s h=>by
  obtain⟨hp,g,dr,tk,os⟩:=s;obtain⟨h1,h2,h⟩:=h
  wp_walk
  exact⟨_,rfl,h⟩
def BR (x d:Rg) (i n ep:Nat) (ok ov:Rg):Rv:={cls:=.type "dict_itemiterator",dict:=none,data:=.fields #[x,.bool false,d,.int i 0,.int n 0,.int ep 0,ok,ov],slots:=#[]}
theorem PU (it d:Rh) (es:Rq Ru) (i ep:Nat) (e:Ru) (ok ov:Rg) (hx:es[i]?=some e):
  MeetsIn prog w (Builtin.«dict_itemiterator.__next__» ⟨[.ref it],[]⟩) (λ_ R s=>s.heap.get? it=some (BR .none (.ref d) i es.size ep ok ov)/\s.heap.get? d=some (lD es ep)/\
   ∀ h',h'.get? it=some (BR (rawInt s.heap.objs.size) (.ref d) (i+1) es.size ep e.key e.val)->h'.get? s.heap.objs.size=some {cls:=.type "tuple",data:=.seq #[e.key,e.val]}->
    (∀ b o,b≠it->s.heap.get? b=some o->h'.get? b=some o)->R (.ok (.ret (.ref s.heap.objs.size))) {s with heap:=h'}):=
 .of_wp λA R s h=>by
  obtain⟨hp,g,dr,tk,os⟩:=s;obtain⟨h1,h2,h⟩:=h;have lt:it < hp.objs.size:=P3 h1
  wp_walk
  have z:(if (i:Int) < 0 then none else es[(i:Int).toNat]?)=some e:=by
   rw [if_neg (by omega),Q2]; exact hx
  rw [z];have T0:Shared.TypeIs ⟨hp,g,dr,tk,os⟩ (.ref it) "dict_itemiterator":=⟨_,h1,rfl⟩
  refine gt (gt (wpAny_typeNameOfWhole_itemiter T0 (P0 (gt (wpAny_isOneOf_itemiter T0 ?_)))));refine gt (m:=setField (.ref it) 3 (rawInt ((i:Int)+1))) (Qp h1 (by simp) λk1 a1 b1=>?_)
  have a2:k1.get? it=some (BR .none (.ref d) (i+1) es.size ep ok ov):=a1;have T1:Shared.TypeIs ⟨k1,g,dr,tk,os⟩ (.ref it) "dict_itemiterator":=⟨_,a2,rfl⟩
  refine gt (Qq (gt (wpAny_isOneOf_itemiter T1 (gt (wpAny_isOneOf_itemiter T1 ?_)))));refine gt (m:=newTuple [e.key,e.val]) (wpAny_newTuple ?_);have sz:k1.objs.size=hp.objs.size:=b1.1;generalize q2:k1.push {cls:=.type "tuple",data:=.seq #[e.key,e.val]}=k2
  have a3:k2.get? it=some (BR .none (.ref d) (i+1) es.size ep ok ov):=by rw [<- q2]; exact PZ _ a2
  have t3:k2.get? hp.objs.size=some {cls:=.type "tuple",data:=.seq #[e.key,e.val]}:=by rw [<- q2,<- sz]; exact P1 _ rfl
  have o3:∀ b o,b≠it->hp.get? b=some o->k2.get? b=some o:=λb o nb x=>by rw [<- q2]; exact PZ _ (b1.extBut b o nb x)
  rw [sz];refine gt (gt (QE a3 rfl (x:=.none) rfl (P0 ?_)));refine gt (QE a3 rfl (x:=ok) rfl (gt (QE a3 rfl (x:=ov) rfl ?_)));refine gt (Qp a3 (by simp) λk3 a4 b4=>gt (Qp a4 (by simp) λk4 a5 b5=>gt (Qp a5 (by simp) λk5 a6 b6=>gt (Qp a6 (by simp) λk6 a7 b7=>?_))))
  have far:∀ b o,b≠it->k2.get? b=some o->k6.get? b=some o:=λb o nb x=>b7.extBut b o nb (b6.extBut b o nb (b5.extBut b o nb (b4.extBut b o nb x)))
  exact gt (Q5 (P0 (P0 ⟨_,rfl,h k6 a7 (far _ _ (Nat.ne_of_gt lt) t3) λb o nb x=>far b o nb (o3 b o nb x)⟩)))
theorem Pj (it d:Rh) (es:Rq Ru) (i ep:Nat) (e:Ru) (hx:es[i]?=some e):
  MeetsIn prog w (Builtin.«dict_valueiterator.__next__» ⟨[.ref it],[]⟩) (λ_ R s=>s.heap.get? it=some (uL "dict_valueiterator" d i es.size ep)/\s.heap.get? d=some (lD es ep)/\
   R (.ok (.ret e.val)) {s with heap:=s.heap.update it (Obj.mapFields (·.setIfInBounds 1 (rawInt ((i:Int)+1))))}):=
 .of_wp λA R s h=>by
  obtain⟨hp,g,dr,tk,os⟩:=s;obtain⟨h1,h2,h⟩:=h
  wp_walk
  have z:(if (i:Int) < 0 then none else es[(i:Int).toNat]?)=some e:=by
   rw [if_neg (by omega),Q2]; exact hx
  rw [z]
  wp_walk
  exact⟨_,rfl,h⟩
theorem Pw (it d:Rh) (es:Rq Ru) (i ep:Nat) (hx:es[i]?=none):
  MeetsIn prog w (Builtin.«dict_valueiterator.__next__» ⟨[.ref it],[]⟩) (λA R s=>A.handled=none/\s.heap.get? it=some (uL "dict_valueiterator" d i es.size ep)/\s.heap.get? d=some (lD es ep)/\
   (∀ h' e,Heap.ExtBut it s.heap h'->(∃ o,h'.get? e=some o/\o.cls=.type "StopIteration")->R (.error (.ref e)) {s with heap:=h'})):=
 .of_wp λA R s h=>by
  obtain⟨hp,g,dr,tk,os⟩:=s;obtain⟨h0,h1,h2,h⟩:=h
  wp_walk
  have z:(if (i:Int) < 0 then none else es[(i:Int).toNat]?)=none:=by
   rw [if_neg (by omega),Q2]; exact hx
  rw [z]
  wp_walk
  unfold raiseNew;refine gt (wpAny_handled ?_);rw [show A.in1.handled=none from h0]
  exact gt (P0 (wpAny_throw (h _ _ (zl _ _ _) ⟨_,P1 _ rfl,rfl⟩)))
theorem Pf (it d:Rh) (es:Rq Ru) (i ep:Nat) (ok ov:Rg) (hx:es[i]?=none):
  MeetsIn prog w (Builtin.«dict_itemiterator.__next__» ⟨[.ref it],[]⟩) (λA R s=>A.handled=none/\s.heap.get? it=some (BR .none (.ref d) i es.size ep ok ov)/\s.heap.get? d=some (lD es ep)/\
   (∀ h' e,Heap.ExtBut it s.heap h'->(∃ o,h'.get? e=some o/\o.cls=.type "StopIteration")->R (.error (.ref e)) {s with heap:=h'})):=
 .of_wp λA R s h=>by
  obtain⟨hp,g,dr,tk,os⟩:=s;obtain⟨h0,h1,h2,h⟩:=h
  wp_walk
  have z:(if (i:Int) < 0 then none else es[(i:Int).toNat]?)=none:=by
   rw [if_neg (by omega),Q2]; exact hx
  rw [z]
  wp_walk
  unfold raiseNew;refine gt (wpAny_handled ?_);rw [show A.in1.handled=none from h0]
  exact gt (P0 (wpAny_throw (h _ _ (zl _ _ _) ⟨_,P1 _ rfl,rfl⟩)))
theorem Pv (d:Rh) (es:Rq Ru) (ep:Nat) (hd:(d == sysModules)=false):
  MeetsIn prog w (Builtin.«dict.__iter__» ⟨[.ref d],[]⟩) (λ_ R s=>s.heap.get? d=some (lD es ep)/\R (.ok (.ret (.ref s.heap.objs.size))) {s with heap:=s.heap.push (uL "dict_keyiterator" d 0 es.size ep)}):=
 .of_wp λA R s h=>by
  obtain⟨hp,g,dr,tk,os⟩:=s;obtain⟨h2,h⟩:=h
  wp_walk
  exact⟨_,rfl,h⟩
theorem OL (d:Rh) (es:Rq Ru) (ep:Nat) (hd:(d == sysModules)=false):
  MeetsIn prog w (Builtin.«dict.values» ⟨[.ref d],[]⟩) (λ_ R s=>s.heap.get? d=some (lD es ep)/\R (.ok (.ret (.ref s.heap.objs.size))) {s with heap:=s.heap.push {cls:=.type "dict_values",data:=.fields #[.ref d]}}):=
 .of_wp λA R s h=>by
  obtain⟨hp,g,dr,tk,os⟩:=s;obtain⟨h2,h⟩:=h
  wp_walk
  exact⟨_,rfl,h⟩
theorem O9 (d:Rh) (es:Rq Ru) (ep:Nat) (hd:(d == sysModules)=false):
  MeetsIn prog w (Builtin.«dict.items» ⟨[.ref d],[]⟩) (λ_ R s=>s.heap.get? d=some (lD es ep)/\R (.ok (.ret (.ref s.heap.objs.size))) {s with heap:=s.heap.push {cls:=.type "dict_items",data:=.fields #[.ref d]}}):=
 .of_wp λA R s h=>by
  obtain⟨hp,g,dr,tk,os⟩:=s;obtain⟨h2,h⟩:=h
  wp_walk
  exact⟨_,rfl,h⟩
theorem Pd (v d:Rh) (es:Rq Ru) (ep:Nat):
  MeetsIn prog w (Builtin.«dict_values.__iter__» ⟨[.ref v],[]⟩) (λ_ R s=>s.heap.get? v=some {cls:=.type "dict_values",data:=.fields #[.ref d]}/\s.heap.get? d=some (lD es ep)/\
   R (.ok (.ret (.ref s.heap.objs.size))) {s with heap:=s.heap.push (uL "dict_valueiterator" d 0 es.size ep)}):=
 .of_wp λA R s h=>by
  obtain⟨hp,g,dr,tk,os⟩:=s;obtain⟨h1,h2,h⟩:=h
  wp_walk
  exact⟨_,rfl,h⟩
theorem Pe (d:Rh) (es:Rq Ru) (ep:Nat) (hd:(d == sysModules)=false):
  MeetsIn prog w (Builtin.«dict.__len__» ⟨[.ref d],[]⟩) (λ_ R s=>s.heap.get? d=some (lD es ep)/\R (.ok (.ret (.int es.size s.toks))) {s with toks:=s.toks+1}):=
 .of_wp λA R s h=>by
  obtain⟨hp,g,dr,tk,os⟩:=s;obtain⟨h2,h⟩:=h
  wp_walk
  refine⟨_,rfl,?_⟩;rw [show ((es.size:Int)+((0:Nat):Int))=es.size from Int.add_zero _]
  exact h
section
variable {A:Rm} {E:Rg->Rf->Prop} {s:Rf} {it d v:Rh} {es:Rq Ru} {i ep:Nat} {e:Ru} {ok ov:Rg}
theorem vn {Q:Rg->Rf->Prop} (hd:(d == sysModules)=false) (h2:s.heap.get? d=some (lD es ep)) (h:Q (.ref s.heap.objs.size) {s with heap:=s.heap.push (uL "dict_keyiterator" d 0 es.size ep)}):
  wpAny (model prog w) A (pyIter (.ref d)) Q E s:=
 have T:s.TypeIs (.ref d) "dict":=⟨_,h2,rfl⟩
 wpAny_pyIter_slot T F.slot_dict_iter (call_meetsIn F.slot_dict_iter T F.entry_dict_iter (F.args_dict_iter_1 _) (Pv d es ep hd) ⟨h2,"dict_keyiterator",_,⟨_,P1 _ rfl,rfl⟩,F.slot_dict_keyiterator_next.lookup,h⟩)
theorem uO {Q:Rg->Rf->Prop} (h1:s.heap.get? v=some {cls:=.type "dict_values",data:=.fields #[.ref d]}) (h2:s.heap.get? d=some (lD es ep)) (h:Q (.ref s.heap.objs.size) {s with heap:=s.heap.push (uL "dict_valueiterator" d 0 es.size ep)}):
  wpAny (model prog w) A (pyIter (.ref v)) Q E s:=
 have T:s.TypeIs (.ref v) "dict_values":=⟨_,h1,rfl⟩
 wpAny_pyIter_slot T F.slot_dict_values_iter (call_meetsIn F.slot_dict_values_iter T F.entry_dict_values_iter (F.args_dict_values_iter_1 _) (Pd v d es ep) ⟨h1,h2,"dict_valueiterator",_,⟨_,P1 _ rfl,rfl⟩,F.slot_dict_valueiterator_next.lookup,h⟩)
theorem BC {Q:Rg->Rf->Prop} (h1:s.heap.get? v=some {cls:=.type "dict_items",data:=.fields #[.ref d]}) (h2:s.heap.get? d=some (lD es ep)) (h:Q (.ref s.heap.objs.size) {s with heap:=s.heap.push (BR .none (.ref d) 0 es.size ep .none .none)}):
  wpAny (model prog w) A (pyIter (.ref v)) Q E s:=
 have T:s.TypeIs (.ref v) "dict_items":=⟨_,h1,rfl⟩
 wpAny_pyIter_slot T F.slot_dict_items_iter (call_meetsIn F.slot_dict_items_iter T F.entry_dict_items_iter (F.args_dict_items_iter_1 _) (Px v d es ep) ⟨h1,h2,"dict_itemiterator",_,⟨_,P1 _ rfl,rfl⟩,F.slot_dict_itemiterator_next.lookup,h⟩)
theorem jn {T id:Rs} {f:Builtin} {φ} {Q:Ri Rg->Rf->Prop} (hs:Slot T "__next__" id) (hT:s.TypeIs (.ref it) T) (he:entryFor table id=some f) (ha:argsOk id ⟨[.ref it],[]⟩) (hm:MeetsIn prog w (f ⟨[.ref it],[]⟩) φ)
  (h:φ A (wants (λu s'=>Q (some u) s') λe s'=>(∃ a o,e=.ref a/\s'.heap.get? a=some o/\o.cls=.type "StopIteration")/\Q none s') s):wpAny (model prog w) A (pyNext (.ref it)) Q E s:=by
 unfold pyNext;refine gt (wpAny_attempt (Q1 (name:=Str.ofString "__next__") hT hs (QD (call_meetsIn hs hT he ha hm h) (λu s' q=>P0 q) λe s' q=>?_)))
 obtain⟨⟨a,o,rfl,g,c⟩,q⟩:=q;exact gt (wpAny_isInstance (T:="StopIteration") (b:=true) ⟨_,g,c⟩ isSubtype_stop (P0 q))
inductive ue where
 | k | v
def ue.nm:ue->Rs
 | .k=>"dict_keyiterator"
 | .v=>"dict_valueiterator"
def ue.of (e:Ru):ue->Rg
 | .k=>e.key
 | .v=>e.val
theorem Le (c:ue) {h:Ro} {it d:Rh} {i n ep:Nat} (h1:h.get? it=some (uL c.nm d i n ep)):(h.update it (Obj.mapFields (·.setIfInBounds 1 (rawInt ((i:Int)+1))))).get? it=some (uL c.nm d (i+1) n ep):=
 QJ _ h1 rfl
theorem AZ (c:ue) {Q:Ri Rg->Rf->Prop} (h1:s.heap.get? it=some (uL c.nm d i es.size ep)) (h2:s.heap.get? d=some (lD es ep)) (hx:es[i]?=some e)
  (h:∀ h',h'.get? it=some (uL c.nm d (i+1) es.size ep)->(∀ b o,b≠it->s.heap.get? b=some o->h'.get? b=some o)->Q (some (ue.of e c)) {s with heap:=h'}):wpAny (model prog w) A (pyNext (.ref it)) Q E s:=by
 have far:∀ b o,b≠it->s.heap.get? b=some o->(s.heap.update it (Obj.mapFields (·.setIfInBounds 1 (rawInt ((i:Int)+1))))).get? b=some o:=λb o nb x=>(Qw _ _ (Ne.symm nb)).trans x
 have z:=h _ (Le c h1) far;cases c with
 | k=>exact jn F.slot_dict_keyiterator_next ⟨_,h1,rfl⟩ F.entry_dict_keyiterator_next (F.args_dict_keyiterator_next_1 _) (O_ it d es i ep e hx) ⟨h1,h2,z⟩
 | v=>exact jn F.slot_dict_valueiterator_next ⟨_,h1,rfl⟩ F.entry_dict_valueiterator_next (F.args_dict_valueiterator_next_1 _) (Pj it d es i ep e hx) ⟨h1,h2,z⟩
theorem yu (c:ue) {Q:Ri Rg->Rf->Prop} (hh:A.handled=none) (h1:s.heap.get? it=some (uL c.nm d i es.size ep)) (h2:s.heap.get? d=some (lD es ep)) (hx:es[i]?=none)
  (h:∀ h',(∀ b o,b≠it->s.heap.get? b=some o->h'.get? b=some o)->Q none {s with heap:=h'}):wpAny (model prog w) A (pyNext (.ref it)) Q E s:=by
 cases c with
 | k=>exact jn F.slot_dict_keyiterator_next ⟨_,h1,rfl⟩ F.entry_dict_keyiterator_next (F.args_dict_keyiterator_next_1 _) (PV it d es i ep hx) ⟨hh,h1,h2,λh' e x z9=>by obtain⟨o,y1,y2⟩:=z9; exact⟨⟨e,o,rfl,y1,y2⟩,h h' x⟩⟩
 | v=>exact jn F.slot_dict_valueiterator_next ⟨_,h1,rfl⟩ F.entry_dict_valueiterator_next (F.args_dict_valueiterator_next_1 _) (Pw it d es i ep hx) ⟨hh,h1,h2,λh' e x z9=>by obtain⟨o,y1,y2⟩:=z9; exact⟨⟨e,o,rfl,y1,y2⟩,h h' x⟩⟩
theorem G9 {Q:Ri Rg->Rf->Prop} (h1:s.heap.get? it=some (BR .none (.ref d) i es.size ep ok ov)) (h2:s.heap.get? d=some (lD es ep)) (hx:es[i]?=some e)
  (h:∀ h',h'.get? it=some (BR (rawInt s.heap.objs.size) (.ref d) (i+1) es.size ep e.key e.val)->h'.get? s.heap.objs.size=some {cls:=.type "tuple",data:=.seq #[e.key,e.val]}->(∀ b o,b≠it->s.heap.get? b=some o->h'.get? b=some o)->
   Q (some (.ref s.heap.objs.size)) {s with heap:=h'}):wpAny (model prog w) A (pyNext (.ref it)) Q E s:=
 jn F.slot_dict_itemiterator_next ⟨_,h1,rfl⟩ F.entry_dict_itemiterator_next (F.args_dict_itemiterator_next_1 _) (PU it d es i ep e ok ov hx) ⟨h1,h2,λh' a b c=>h h' a b c⟩
theorem Fm {Q:Ri Rg->Rf->Prop} (hh:A.handled=none) (h1:s.heap.get? it=some (BR .none (.ref d) i es.size ep ok ov)) (h2:s.heap.get? d=some (lD es ep)) (hx:es[i]?=none)
  (h:∀ h',(∀ b o,b≠it->s.heap.get? b=some o->h'.get? b=some o)->Q none {s with heap:=h'}):wpAny (model prog w) A (pyNext (.ref it)) Q E s:=
 jn F.slot_dict_itemiterator_next ⟨_,h1,rfl⟩ F.entry_dict_itemiterator_next (F.args_dict_itemiterator_next_1 _) (Pf it d es i ep ok ov hx) ⟨hh,h1,h2,λh' e x z9=>by obtain⟨o,y1,y2⟩:=z9; exact⟨⟨e,o,rfl,y1,y2⟩,h h' x⟩⟩
theorem L4 {elts:List Rj} {x1} {pos:Pos} {T:Rh} {Q:Unit->Rf->Prop} (h1:s.heap.get? it=some (BR (rawInt T) (.ref d) i es.size ep ok ov))
  (h:∀ h',h'.get? it=some (BR .none (.ref d) i es.size ep ok ov)->(∀ b o,b≠it->s.heap.get? b=some o->h'.get? b=some o)->Q () {s with heap:=h'}):wpAny (model prog w) A (letOwnedTupleGo (.Tuple elts x1 pos) (.ref it) (.ref T)) Q E s:=
 wpAny_letOwnedTupleGo_items h1 λh' a b=>h h' a λc o n x=>b.extBut c o n x
theorem AK (c:ue) {n:Nat} {Q:Rg->Rf->Prop} (h1:s.heap.get? it=some (uL c.nm d i n ep)) (h:Q (.ref it) s):wpAny (model prog w) A (pyIter (.ref it)) Q E s:=by
 cases c with
 | k=>exact wpAny_pyIter_keyiter ⟨_,h1,rfl,rfl⟩ h
 | v=>exact wpAny_pyIter_valiter ⟨_,h1,rfl,rfl⟩ h
theorem HN {n:Nat} {x:Rg} {Q:Rg->Rf->Prop} (h1:s.heap.get? it=some (BR x (.ref d) i n ep ok ov)) (h:Q (.ref it) s):wpAny (model prog w) A (pyIter (.ref it)) Q E s:=by
 have T:s.TypeIs (.ref it) "dict_itemiterator":=⟨_,h1,rfl⟩
 have en:entryFor table "dict_itemiterator.__iter__"=some Builtin.«dict_keyiterator.__iter__»:=PySem.W.kcp_entry
 refine wpAny_pyIter_slot T F.slot_dict_itemiterator_iter (QN F.slot_dict_itemiterator_iter T en ?_ (F.args_dict_itemiterator_iter_1 _));exact P0 ⟨_,rfl,"dict_itemiterator",_,T,F.slot_dict_itemiterator_next.lookup,h⟩
end
end
end PySem
namespace DL
open PySem PySem.Spec PyProof.Rows L2
def gH (k:List Int):D:=.tup (k.map .int)
def fy (kvs:List (List Int×D)) (k:List Int):Ri D:=(kvs.find? λp=>decide (p.1=k)).map (·.2)
def ml (kvs:List (List Int×D)) (k:List Int) (d:D):List (List Int×D):=if (fy kvs k).isSome then kvs.map (λp=>if p.1=k then(p.1,d) else p) else kvs++[(k,d)]
section
variable {K:Fg} {H H':Hp} {S:DH} {p:Rh}
theorem BZ.step' {a:Rh} {o:DO} (z:BZ K H a o) (k:Kp H H') (s:H' a=H a):BZ K H' a o:=
 Hs.step (S:=λb=>if b=a then some o else none) (λb u e=>by
  by_cases q:b=a
  ·subst q; cases (if_pos rfl).symm.trans e; exact z
  ·cases (if_neg q).symm.trans e) k (λb u e=>by
  by_cases q:b=a
  ·subst q; exact s
  ·cases (if_neg q).symm.trans e) a o (if_pos rfl)
theorem Hs.setG {o u:HO} {g:Iz} (h:Hs K H S) (e:H p=some u) (n:¬ NK u) (r:qd K (bS H p o) p g):Hs K (bS H p o) (put S p (.gen g)):=λa ob q=>by
 by_cases z:a=p
 ·subst z;rw [aq] at q;cases q;exact r
 ·rw [bV z] at q;exact BZ.step' (h a ob q) (Kp.mut e n) (aF z)
theorem Hs.newG {o:HO} {g:Iz} (h:Hs K H S) (e:H p=none) (r:qd K (bS H p o) p g):Hs K (bS H p o) (put S p (.gen g)):=λa ob q=>by
 by_cases z:a=p
 ·subst z;rw [aq] at q;cases q;exact r
 ·rw [bV z] at q;exact BZ.step' (h a ob q) (Kp.new e) (aF z)
theorem Hs.dT {kvs:List (List Int×D)} {ep:Nat} (h:Hs K H S) (e:S p=some (.gen (.dT kvs ep))):∃ xs,H p=some (.ext (md p xs ep))/\m9 K H kvs xs:=h p _ e
theorem kg:∀ {k:List Int} {xs:List V},IsDs K H (k.map D.int) xs↔xs=k.map V.int
 | [],xs=>k_
 | i::k,xs=>by
  rw [Qe,Qe,dJ]
  constructor
  ·rintro⟨v,r,rfl,h1,h2⟩;rw [isInt.mp h1,kg.mp h2]
  ·rintro rfl;exact⟨_,_,rfl,isInt.mpr rfl,kg.mpr rfl⟩
theorem sU {k:List Int} {v:V}:cq K H (gH k) v↔∃ b,v=.ref b/\lU K H b (k.map V.int):=by
 unfold gH;rw [fe]
 constructor
 ·rintro⟨a,xs,e,t,j⟩;rw [kg.mp j] at t;exact⟨a,e,t⟩
 ·rintro⟨b,e,t⟩;exact⟨b,_,e,t,kg.mpr rfl⟩
variable {kvs:List (List Int×D)} {xs:List (List Int×Rh×Rg)}
theorem m9.get (r:m9 K H kvs xs) (k:List Int):(fy kvs k=none/\atKey xs k=none)\/∃ d b u v,fy kvs k=some d/\atKey xs k=some (b,u)/\aP v u/\cq K H d v:=by
 induction r with
 | nil=>exact .inl ⟨rfl,rfl⟩
 | @cons p q ps qs h t ih=>
  obtain⟨h1,h2,v,h3,h4⟩:=h
  by_cases e:p.1=k
  ·exact .inr ⟨p.2,q.2.1,q.2.2,v,by simp [fy,Qg,e],by simp [atKey,Qg,h1.symm.trans e],h3,h4⟩
  ·have e':¬ q.1=k:=λz=>e (h1.trans z)
   have a1:fy (p::ps) k=fy ps k:=by simp [fy,Qg,e]
   have a2:atKey (q::qs) k=atKey qs k:=by simp [atKey,Qg,e']
   rw [a1,a2];exact ih
theorem m9.isSome (r:m9 K H kvs xs) (k:List Int):(fy kvs k).isSome=(atKey xs k).isSome:=by
 rcases r.get k with ⟨a,b⟩ | ⟨d,b,u,v,a,c,_⟩
 ·rw [a,b]; rfl
 ·rw [a,c]; rfl
theorem m9.put (r:m9 K H kvs xs) {k:List Int} {b:Rh} {d:D} {v:V} {u:Rg} (hb:lU K H b (k.map V.int)) (rv:aP v u) (hd:cq K H d v):m9 K H (ml kvs k d) (storedH xs k b u):=by
 unfold ml storedH;rw [r.isSome k]
 by_cases q:(atKey xs k).isSome=true
 ·rw [if_pos q,if_pos q];clear q
  induction r with
  | nil=>exact .nil
  | @cons p q ps qs h t ih=>
   rw [Qe,Qe];refine .cons ?_ ih;obtain⟨h1,h2,v',h3,h4⟩:=h;unfold putAt
   by_cases e:p.1=k
   ·rw [if_pos e,if_pos (h1.symm.trans e)]; exact⟨h1,h2,v,rv,hd⟩
   ·rw [if_neg e,if_neg (λz=>e (h1.trans z))]; exact⟨h1,h2,v',h3,h4⟩
 ·rw [if_neg q,if_neg q];exact Paired.snoc r ⟨rfl,hb,v,rv,hd⟩
theorem m9.length (r:m9 K H kvs xs):kvs.length=xs.length:=Paired.length r
theorem m9.at_:∀ {kvs:List (List Int×D)} {xs:List (List Int×Rh×Rg)} {i:Nat} {p:List Int×D},m9 K H kvs xs->kvs[i]?=some p->∃ q,xs[i]?=some q/\p.1=q.1/\lU K H q.2.1 (p.1.map V.int)/\∃ v,aP v q.2.2/\cq K H p.2 v
 | _,_,0,_,.cons h _,e=>by cases e; exact⟨_,rfl,h⟩
 | _,_,i+1,_,.cons _ t,e=>m9.at_ (i:=i) t e
end
section
variable {X:Cx} {Rw:List (Rh×Rv)} {σ:L2.St} {H:Hp} {s:Rf} {a b:Rh} {kvs:List (List Int×D)} {xs:List (List Int×Rh×Rg)} {ep:Nat} {k:List Int}
theorem items_int {P:Rk} {w:Rn}:∀ {ks:List Int} {us:List Rg},bf (ks.map V.int) us->PySem.ItemsAre (intKind P w) ks us
 | [],_,r=>by rw [List.map_nil] at r; cases r; exact .nil
 | k::ks,_,r=>by
  rw [Qe] at r;cases r with
  | cons h t=>
   obtain⟨tk,rfl⟩:=h;exact .cons (by simp [intKind,Value.isInt]) (items_int t)
theorem oz (I:aC X Rw σ H s) (h:lU X.K H b (k.map V.int)):(tupleKind (intKind X.prog X.w)).is s.heap k b:=by
 obtain⟨its,r,⟨o,h1,h2,n,h3⟩,_⟩:=I.tuple h;exact⟨o,its.toArray,n,h1,h2,h3,by simpa using items_int r⟩
theorem cf (I:aC X Rw σ H s) (e:H a=some (.ext (md a xs ep))):(a == sysModules)=false/\xs.length<=sizeLine/\(xs.map (·.1)).Nodup/\s.heap.get? a=some (lD (xs.map eT).toArray ep):=(I.hok a _ e).1
theorem sj (I:aC X Rw σ H s) (e:H a=some (.ext (md a xs ep))) (r:m9 X.K H kvs xs):s.heap.DictOfH (tupleKind (intKind X.prog X.w)) a xs:=by
 obtain⟨_,z,nd,g⟩:=cf I e;refine⟨_,_,ep,g,⟨rfl,rfl,rfl⟩,rfl,rfl,?_,nd⟩;clear z nd g e
 induction r with
 | nil=>intro x hx; exact nomatch hx
 | @cons p q ps qs h t ih=>
  intro x hx;rcases P9.mp hx with e | hx
  ·subst e;rw [<- h.1];exact oz I h.2.1
  ·exact ih x hx
theorem FW {P:Rk} {w:Rn} {h:Ro} (hd:(a == sysModules)=false) (z:xs.length<=sizeLine) (m:h.DictOfH (tupleKind (intKind P w)) a xs):∃ ep,md a xs ep h:=by
 obtain⟨⟨c,d,dt,sl⟩,es,ep,g,⟨c1,c2,c3⟩,c4,c5,_,nd⟩:=m;have q:es=(xs.map eT).toArray:=by
  have:es.toList=xs.map eT:=c5;rw [<- this]
 refine⟨ep,hd,z,nd,?_⟩;rw [g];cases c1; cases c2; cases c3; cases c4
 rw [q]
 rfl
theorem t5 {P:Rk} {w:Rn} {h:Ro} (m:md a xs ep h):dY P w H h a (.ext (md a xs ep)):=
 ⟨m,⟨_,m.2.2.2⟩,λh1 h2 p q=>⟨p.1,p.2.1,p.2.2.1,q _ p.2.2.2⟩⟩
theorem ms (xs:List (List Int×Rh×Rg)) (k:List Int) (b:Rh) (u:Rg):(storedH xs k b u).length<=xs.length+1:=by
 unfold storedH
 split
 ·rw [P6]; omega
 ·rw [Ql]; exact P4 _
theorem un1 {n:Nat} {A:Rm} (hr:b3 n A):A.units+1 < cLine:=by have:=hr.un; omega
def MT (go gi:DE):DE:=λL S k=>go L S λd S1=>gi L S1 λe S2=>match d with
 | .ref a=>∃ kvs ep ks c,S2 a=some (.gen (.dT kvs ep))/\e=gH ks/\fy kvs ks=some c/\k c S2
 | _=>False
def JW (K:Fg) (to ti:TE):TE:=fun σ H Q=>to σ H λx H1=>ti σ H1 λy H2=>∃ a b kvs xs ep ks p v,x=.ref a/\y=.ref b/\H2 a=some (.ext (md a xs ep))/\m9 K H2 kvs xs/\lU K H2 b (ks.map V.int)/\atKey xs ks=some p/\aP v p.2/\Q v H2
theorem Dm {o i:Rj} {to ti:TE} {pos:Pos} {n:Nat} (hr:b3 n X.A) (ho:PE X o to) (hi:PE X i ti) (hs:Da i):PE X (.Subscript o i pos) (JW X.K to ti):=by
 intro Rw s σ H Q I h;refine Ar PySem.F.slot_dict_getitem.lookup hs (cu (ho Rw s σ H _ I h) λu s1 ⟨x,H1,I1,rx,h1⟩=>cu (hi Rw s1 σ H1 _ I1 h1) λiv s2 z9=>?_)
 obtain⟨y,H2,I2,ry,a,b,kvs,xs,ep,ks,p,v,ex,ey,e1,r1,t1,z2,z3,q⟩:=z9;subst ex ey;obtain rfl:u=Value.ref a:=rx;cases (show iv=Value.ref b from ry)
 have dd:=sj I2 e1 r1;exact⟨dd.typeIs,wpAny_getItem_heap (tupleKind_room_in1 (un1 hr)) (oz I2 t1) dd z2 ⟨v,H2,I2.tok _,z3,q⟩⟩
theorem Ht {o i:Rj} {go gi:DE} {pos:Pos} {n:Nat} (hr:b3 n X.A) (ho:EJ X o go) (hi:EJ X i gi) (hs:Da i):EJ X (.Subscript o i pos) (MT go gi):=
 ⟨PE.imp (Dm hr ho.h hi.h hs) fun σ H Q ⟨L,S,k,hL,hS,h,m⟩=>up.go hL hS h λd S1 x H1 h1 k1 hL1 hS1 i1=>up.go hL1 hS1 h1 λe S2 y H2 h2 k2 hL2 hS2 i2=>by
  cases d with
  | ref a=>
   obtain⟨kvs,ep,ks,c,g1,rfl,g3,h2⟩:=h2;obtain⟨xs,e1,r1⟩:=hS2.dT g1;obtain⟨b,rfl,t1⟩:=sU.mp i2;have ex:=aZ.mp i1;subst ex;rcases r1.get ks with ⟨z,_⟩ | ⟨d,b',w,v,z1,z2,z3,z4⟩
   ·rw [g3] at z; cases z
   ·rw [g3] at z1;cases z1;exact⟨a,b,kvs,xs,ep,ks,_,v,rfl,rfl,e1,r1,t1,z2,z3,m c S2 v H2 h2 (k1.trans k2) hS2 z4⟩
  | _=>exact(show False from h2).elim⟩
def Mo (K:Fg):FC:=λx y v H Q=>∃ a b kvs xs ep ks,x=.ref a/\y=.ref b/\H a=some (.ext (md a xs ep))/\m9 K H kvs xs/\lU K H b (ks.map V.int)/\xs.length < sizeLine/\∀ u ep',aP v u->Q (bS H a (.ext (md a (storedH xs ks b u) ep')))
theorem Eu {n:Nat} (hr:b3 n X.A):Gn X (Mo X.K):=by
 intro Rw s σ H o i v ov iv u Q I ro ri rv h;obtain⟨a,b,kvs,xs,ep,ks,rfl,rfl,e1,r1,t1,z,q⟩:=h;cases (show ov=Value.ref a from ro)
 cases (show iv=Value.ref b from ri)
 have hd:=(cf I e1).1;refine wpAny_setItem_heap (hsz:=Nat.le_of_lt z) (tupleKind_room_in1 (un1 hr)) (oz I t1) (sj I e1 r1) λh' dd' hs=>?_
 have z':(storedH xs ks b u).length<=sizeLine:=by have:=ms xs ks b u; omega
 obtain⟨ep',m⟩:=FW hd z' dd';exact⟨_,rq I (by rw [e1]; exact True.intro) hs ⟨_,m.2.2.2⟩ (t5 m),q u ep' rv⟩
def FZ (go gi:DE):DG:=λd L S k=>go L S λo S1=>gi L S1 λi S2=>match o with
 | .ref a=>∃ kvs ep ks,S2 a=some (.gen (.dT kvs ep))/\i=gH ks/\kvs.length < sizeLine/\∀ ep',k L (put S2 a (.gen (.dT (ml kvs ks d) ep')))
 | _=>False
theorem jj {o i:Rj} {go gi:DE} {pos:Pos} {n:Nat} (hr:b3 n X.A) (ho:EJ X o go) (hi:EJ X i gi)
  (ha:∀ v,assign (.Subscript o i pos) X.env v=(do
   let ov <- holding [v] (eval o X.env)
   let iv <- holding [v,ov] (eval i X.env)
   standAt pos
   holding [v,ov,iv] (setItem ov iv v)
   release [v,ov,iv] []):=by intro _; rfl):GJ X (.Subscript o i pos) (FZ go gi):=
 ⟨PG.imp (ze ho.h hi.h (Eu hr) ha) λv σ H Q ⟨d,L,S,k,i1,hL,hS,h,m⟩=>up.go hL hS h λc S1 u H1 h1 k1 hL1 hS1 j1=>up.go hL1 hS1 h1 λc2 S2 u2 H2 h2 k2 hL2 hS2 j2=>by
  cases c with
  | ref a=>
   obtain⟨kvs,ep,ks,g1,rfl,z,h2⟩:=h2;obtain⟨xs,e1,r1⟩:=hS2.dT g1;obtain⟨b,rfl,t1⟩:=sU.mp j2;have ex:=aZ.mp j1;subst ex;refine⟨a,b,kvs,xs,ep,ks,rfl,rfl,e1,r1,t1,by rw [<- r1.length]; exact z,λw ep' rw'=>?_⟩
   have k3:Kp H2 (bS H2 a (.ext (md a (storedH xs ks b w) ep'))):=Kp.mut e1 (λz=>z)
   exact m L _ σ _ (h2 ep') (k1.trans (k2.trans k3)) (hL2.kp k3) (hS2.setG e1 (λz=>z) ⟨_,br,(r1.put t1 rw' (i1.kp (k1.trans k2))).kp k3⟩)
  | _=>exact(show False from h2).elim⟩
def IZ:DE:=λ_ S k=>∀ p,S p=none->∀ ep,k (.ref p) (put S p (.gen (.dT [] ep)))
theorem vp (h:Ro) (hb:sysModules < h.objs.size):md h.objs.size [] 0 (h.push {cls:=.type "dict",data:=.dict #[]}):=
 ⟨beq_eq_false_iff_ne.mpr (Ne.symm (P_ hb)),QU _,List.nodup_nil,P1 _ rfl⟩
theorem kc {pos:Pos}:EJ X (.Dict [] [] pos) IZ:=⟨λRw s σ H Q I ⟨L,S,k,hL,hS,h,m⟩=>by
 have hn:=I.hok.fresh (P4 s.heap.objs.size);refine wpAny_Dict_empty ⟨.ref s.heap.objs.size,_,I.laid (a:=s.heap.objs.size) (o:=.ext (md s.heap.objs.size [] 0)) (t':=s.toks) (λ_ _ q=>PZ _ q) (P4 _) (t5 (vp s.heap I.big)),rfl,?_⟩
 exact m _ _ _ _ (h _ (hS.free hn) 0) (Kp.new hn) (hS.newG hn ⟨[],br,.nil⟩) (aZ.mpr rfl)⟩
end
end DL
namespace L2
open PySem PySem.Spec PyProof.Rows
theorem AG {X:Cx} {Rw:List (Rh×Rv)} {σ:St} {H:Hp} {s:Rf} {a:Rh} {xs ys:List (List Int×Rh×Rg)} {ep ep' i:Nat} {x:List Int×Rh×Rg} (I:aC X Rw σ H s) (e1:H a=some (.ext (DL.md a xs ep))) (e2:H a=some (.ext (DL.md a ys ep')))
  (hx:xs[i]?=some x):∃ y,ys[i]?=some y/\DL.eT y=DL.eT x:=by
 have g1:=(DL.cf I e1).2.2.2;have g2:=(DL.cf I e2).2.2.2;have z:=Qx (g1.symm.trans g2);have q:xs.map DL.eT=ys.map DL.eT:=by
  unfold DL.lD at z;injection z with _ _ z _
  injection z with z _
  exact congrArg Array.toList z
 have w:(ys.map DL.eT)[i]?=some (DL.eT x):=by rw [<- q,Qt,hx]; rfl
 rw [Qt] at w;exact QO.mp w
def NG (c:ue) (a:Rh) (ep n:Nat):It:=
 ⟨λi H => ∃ xs x v, H a = some (.ext (DL.md a xs ep)) ∧ xs[i]? = some x ∧ xs.length = n ∧ aP v (ue.of (DL.eT x) c),
  λi H v H'=>H'=H/\∀ xs,H a=some (.ext (DL.md a xs ep))->∃ x,xs[i]?=some x/\aP v (ue.of (DL.eT x) c),
  λi H=>∃ xs,H a=some (.ext (DL.md a xs ep))/\xs.length=n/\n<=i⟩
theorem vq {P:Rk} {w:Rn} {K:PySem.W.Frag} {tg:Rj} (c:ue) (a it:Rh) (ep n:Nat):xH P w K tg (NG c a ep n) [it] it (λi h=>h.get? it=some (uL c.nm a i n ep)) where
 mem:=by simp
 obj:=λi h st b hb=>by
  have e:b=it:=by simpa using hb
  subst e;exact⟨_,st,λv z=>by cases z⟩
 keep:=λi h h' st k=>k it (by simp) _ st
 item:=by
  intro X hP hw hK hc i Rw s σ H E I hf st hg;subst hP hw hK;obtain⟨xs,x,v,e1,hx,hn,rv⟩:=hg;have g:=(DL.cf I e1).2.2.2;have sz:(xs.map DL.eT).toArray.size=n:=by simp [hn]
  obtain⟨f0,f1,f2,f3,f4,f5⟩:=hf it (by simp)
  refine AZ c (e:=DL.eT x) (by rw [sz]; exact st) g (by simp [hx]) λh' st' kk=>?_
  have I1:aC X Rw σ H {s with heap:=h'}:=I.turned (t':=s.toks) kk f0 f1 f3 f4 f5
  rw [sz] at st';refine⟨_,rfl,AM (s:={s with heap:=h'}) (n:=c.nm) st' rfl rfl (by cases c <;> decide) ⟨v,H,I1,rv,⟨rfl,λys ey=>?_⟩,st',λb hb=>(hf b hb).1⟩⟩
  obtain⟨y,y1,y2⟩:=AG I e1 ey hx;exact⟨y,y1,by rw [y2]; exact rv⟩
 done:=by
  intro X hP hw hK hc i Rw s σ H E I hf st hg;subst hP hw hK;obtain⟨xs,e1,hn,hi⟩:=hg;have g:=(DL.cf I e1).2.2.2;have sz:(xs.map DL.eT).toArray.size=n:=by simp [hn]
  obtain⟨f0,f1,f2,f3,f4,f5⟩:=hf it (by simp)
  exact yu c (I.ok.hd hc) (by rw [sz]; exact st) g (by simp; omega) λh' kk=>⟨rfl,I.turned (t':=s.toks) kk f0 f1 f3 f4 f5⟩
 self:=λ_ _ _ _ _ st h=>AK c st h
def Ow (a:Rh) (ep n:Nat):It:=
 ⟨λi H => ∃ xs x v, H a = some (.ext (DL.md a xs ep)) ∧ xs[i]? = some x ∧ xs.length = n ∧ aP v x.2.2,
  λi H u H'=>∃ T b v,u=.ref T/\H T=none/\H'=bS H T (.tup [.ref b,v])/\∀ xs,H a=some (.ext (DL.md a xs ep))->∃ x,xs[i]?=some x/\b=x.2.1/\aP v x.2.2,
  λi H=>∃ xs,H a=some (.ext (DL.md a xs ep))/\xs.length=n/\n<=i⟩
theorem zg {P:Rk} {w:Rn} {K:PySem.W.Frag} {es:List Rj} {k:Nat} {pos:Pos} (a it:Rh) (ep n:Nat) (ne:it≠a):xH P w K (.Tuple es k pos) (Ow a ep n) [it] it (λi h=>∃ ok ov,h.get? it=some (BR .none (.ref a) i n ep ok ov)) where
 mem:=by simp
 obj:=λi h st b hb=>by
  have e:b=it:=by simpa using hb
  subst e;obtain⟨ok,ov,st⟩:=st;exact⟨_,st,λv z=>by cases z⟩
 keep:=λi h h' ⟨ok,ov,st⟩ k=>⟨ok,ov,k it (by simp) _ st⟩
 item:=by
  intro X hP hw hK hc i Rw s σ H E I hf st hg;subst hP hw hK;obtain⟨ok,ov,st⟩:=st;obtain⟨xs,x,v,e1,hx,hn,rv⟩:=hg;have g:=(DL.cf I e1).2.2.2;have sz:(xs.map DL.eT).toArray.size=n:=by simp [hn]
  have hT:H s.heap.objs.size=none:=I.hok.fresh (P4 _);have old:it≠s.heap.objs.size:=P_ (P3 st);refine G9 (e:=DL.eT x) (es:=(xs.map DL.eT).toArray) (by rw [sz]; exact st) g (by simp [hx]) λh' st' tp kk=>?_
  rw [sz] at st';have hfi:∀ b∈[it],qY X Rw H b:=λb hb=>by
   have e:b=it:=by simpa using hb
   subst e;exact hf b (by simp)
  have I1:aC X Rw σ (bS H s.heap.objs.size (.tup [.ref x.2.1,v])) {s with heap:=h'}:=I.turnedNew (t':=s.toks) [it] (λb o hb e=>kk b o (λq=>hb (by simp [q])) e) hfi (P4 _)
   ⟨Qi rfl,[_,_],.cons rfl (.cons rv .nil),⟨_,tp,rfl,_,rfl⟩⟩
  refine⟨_,rfl,L4 (s:={s with heap:=h'}) (es:=(xs.map DL.eT).toArray) (by rw [sz]; exact st') λh2 st2 kk2=>?_⟩
  rw [sz] at st2;refine⟨.ref s.heap.objs.size,_,I1.turnedL (t':=s.toks) [it] (λb o hb e=>kk2 b o (λq=>hb (by simp [q])) e) (λb hb=>?_),rfl,⟨_,_,v,rfl,hT,rfl,λys ey=>?_⟩,⟨_,_,st2⟩,λb hb=>?_⟩
  ·have e:b=it:=by simpa using hb
   subst e;obtain⟨f0,f1,f2,f3,f4,f5⟩:=hf b (by simp)
   exact⟨by rw [aF old]; exact f0,f1,f2,f3,f4,f5⟩
  ·obtain⟨y,y1,y2⟩:=AG I e1 ey hx;have q1:y.2.1=x.2.1:=Value.ref.inj (congrArg DictEntry.key y2);have q2:y.2.2=x.2.2:=congrArg DictEntry.val y2;exact⟨y,y1,q1.symm,by rw [q2]; exact rv⟩
  ·have e:b=it:=by simpa using hb
   subst e;rw [aF old];exact(hf b (by simp)).1
 done:=by
  intro X hP hw hK hc i Rw s σ H E I hf st hg;subst hP hw hK;obtain⟨ok,ov,st⟩:=st;obtain⟨xs,e1,hn,hi⟩:=hg;have g:=(DL.cf I e1).2.2.2;have sz:(xs.map DL.eT).toArray.size=n:=by simp [hn]
  obtain⟨f0,f1,f2,f3,f4,f5⟩:=hf it (by simp)
  exact Fm (I.ok.hd hc) (by rw [sz]; exact st) g (by simp; omega) λh' kk=>⟨rfl,I.turned (t':=s.toks) kk f0 f1 f3 f4 f5⟩
 self:=λ_ _ _ _ _ ⟨_,_,st⟩ h=>HN st h
section
variable {X:Cx} {tg l o:Rj} {tl to:TE} {apos cpos:Pos}
def MB (tl:TE):TI:=fun σ H R=>tl σ H λx H1=>∃ a ep xs,x=.ref a/\H1 a=some (.ext (DL.md a xs ep))/\R (NG .k a ep xs.length) H1
theorem Hq (hl:PE X l tl):PI X tg l (MB tl):=by
 intro Rw s σ H R I h;refine cu (hl Rw s σ H _ I h) λv s1 z9=>?_
 obtain⟨x,H1,I1,r1,a,ep,xs,ex,e1,q⟩:=z9;subst ex;cases (show v=Value.ref a from r1)
 obtain⟨hd,_,_,g⟩:=DL.cf I1 e1;refine vn hd g ⟨s1.heap.objs.size,[s1.heap.objs.size],_,_,H1,rfl,I1.kept (t':=s1.toks) λb o e=>PZ _ e,vq .k a _ ep xs.length,?_,λb hb=>?_,q⟩
 ·show(s1.heap.push _).get? _=_
  rw [P1 _ rfl];simp [ue.nm]
 ·have e:b=s1.heap.objs.size:=by simpa using hb
  subst e;exact I1.fpOk (P4 _) (I1.hok.fresh (P4 _))
def Na (to:TE):TI:=fun σ H R=>to σ H λx H1=>∃ a ep xs,x=.ref a/\H1 a=some (.ext (DL.md a xs ep))/\R (NG .v a ep xs.length) H1
theorem Gu (ho:PE X o to) (hbase:attributeBase o "values" X.env (eval o X.env)=eval o X.env:=by rfl) (hline:(apos.endLine == cpos.line)=true:=by rfl):PI X tg (.Call (.Attribute o "values" apos) [] [] cpos) (Na to):=by
 intro Rw s σ H R I h;refine wpAny_Call_method0_late hbase hline (cu (ho Rw s σ H _ I h) λv s1 z9=>?_)
 obtain⟨x,H1,I1,r1,a,ep,xs,ex,e1,q⟩:=z9;subst ex;cases (show v=Value.ref a from r1)
 obtain⟨hd,_,_,g⟩:=DL.cf I1 e1;refine⟨"dict","dict.values",F.plainAttrs_dict,F.slot_dict_values,F.type_dict_values,⟨_,g,rfl⟩,λb e=>by cases e; exact⟨_,g,rfl⟩,Calls.callWith_builtin rfl (PySem.evalArgs_none ?_)⟩
 refine call_meetsIn F.slot_dict_values ⟨_,g,rfl⟩ F.entry_dict_values (F.args_dict_values_1 _) (OL a _ ep hd) ⟨g,?_⟩;have I2:aC X Rw σ H1 {s1 with heap:=s1.heap.push {cls:=.type "dict_values",data:=.fields #[.ref a]}}:=I1.kept (t':=s1.toks) λb o e=>PZ _ e
 refine uO (s:={s1 with heap:=s1.heap.push {cls:=.type "dict_values",data:=.fields #[.ref a]}}) (P1 _ rfl) (PZ _ g) ⟨_,[_],_,_,H1,rfl,I2.kept (t':=s1.toks) λb o e=>PZ _ e,vq .v a _ ep xs.length,?_,λb hb=>?_,q⟩
 ·show(Heap.push _ _).get? _=_
  rw [P1 _ rfl];simp [ue.nm]
 ·have e:b=(s1.heap.push {cls:=.type "dict_values",data:=.fields #[.ref a]}).objs.size:=by simpa using hb
  subst e;exact I2.fpOk (P4 _) (I2.hok.fresh (P4 _))
def K_ (to:TE):TI:=fun σ H R=>to σ H λx H1=>∃ a ep xs,x=.ref a/\H1 a=some (.ext (DL.md a xs ep))/\R (Ow a ep xs.length) H1
theorem FG {es:List Rj} {k:Nat} {pos:Pos} (ho:PE X o to) (hbase:attributeBase o "items" X.env (eval o X.env)=eval o X.env:=by rfl) (hline:(apos.endLine == cpos.line)=true:=by rfl):PI X (.Tuple es k pos) (.Call (.Attribute o "items" apos) [] [] cpos) (K_ to):=by
 intro Rw s σ H R I h;refine wpAny_Call_method0_late hbase hline (cu (ho Rw s σ H _ I h) λv s1 z9=>?_)
 obtain⟨x,H1,I1,r1,a,ep,xs,ex,e1,q⟩:=z9;subst ex;cases (show v=Value.ref a from r1)
 obtain⟨hd,_,_,g⟩:=DL.cf I1 e1;refine⟨"dict","dict.items",F.plainAttrs_dict,F.slot_dict_items,F.type_dict_items,⟨_,g,rfl⟩,λb e=>by cases e; exact⟨_,g,rfl⟩,Calls.callWith_builtin rfl (PySem.evalArgs_none ?_)⟩
 refine call_meetsIn F.slot_dict_items ⟨_,g,rfl⟩ F.entry_dict_items (F.args_dict_items_1 _) (O9 a _ ep hd) ⟨g,?_⟩;have I2:aC X Rw σ H1 {s1 with heap:=s1.heap.push {cls:=.type "dict_items",data:=.fields #[.ref a]}}:=I1.kept (t':=s1.toks) λb o e=>PZ _ e
 have ne:(s1.heap.push {cls:=.type "dict_items",data:=.fields #[.ref a]}).objs.size≠a:=Nat.ne_of_gt (Qc (P3 g) (by rw [QW]; omega))
 refine BC (s:={s1 with heap:=s1.heap.push {cls:=.type "dict_items",data:=.fields #[.ref a]}}) (P1 _ rfl) (PZ _ g) ⟨_,[_],_,_,H1,rfl,I2.kept (t':=s1.toks) λb o e=>PZ _ e,zg a _ ep xs.length ne,⟨.none,.none,?_⟩,λb hb=>?_,q⟩
 ·show(Heap.push _ _).get? _=_
  rw [P1 _ rfl];simp
 ·have e:b=(s1.heap.push {cls:=.type "dict_items",data:=.fields #[.ref a]}).objs.size:=by simpa using hb
  subst e;exact I2.fpOk (P4 _) (I2.hok.fresh (P4 _))
end
end L2
namespace DL
open PySem PySem.Spec PyProof.Rows L2
abbrev B4:=Lo->DH->(List D->(DH->Prop)->DH->Prop)->Prop
structure JA (K:Fg) (H1:Hp) (J:It) (ds:List D) (ok:DH->Prop):Prop where
 go:∀ i d S2 H2,ds[i]?=some d->Kp H1 H2->Hs K H2 S2->ok S2->J.go i H2/\∀ x H',J.yld i H2 x H'->Kp H2 H'/\Hs K H' S2/\cq K H' d x
 stop:∀ S2 H2,Kp H1 H2->Hs K H2 S2->ok S2->J.stop ds.length H2
def OU (K:Fg) (g:B4):TI:=fun σ H R=>∃ L S k,Lc K H L σ/\Hs K H S/\g L S k/\∀ ds ok S' H' J,k ds ok S'->Kp H H'->Lc K H' L σ->Hs K H' S'->JA K H' J ds ok->R J H'
structure IJ (X:Cx) (tg iter:Rj) (g:B4):Prop where
 h:PI X tg iter (OU X.K g)
def IU (gi:B4) (g:DG) (b:DS):DS:=λM L S=>gi L S λds ok S1=>fJ ok g b M ds L S1
def DZ (cap:List (Ri Nat)) (gi:B4) (g:DG) (bd:DB):DE:=λL S k=>gi L S λds ok S1=>∀ p,S1 p=none->gE ok p g bd k ds [] (HJ cap L) (put S1 p (.lst []))
section
variable {X:Cx} {tg iter elt c:Rj} {gi:B4} {gg:DG} {g:DS} {ge:DE} {gc:DT} {body:List Rp} {pos:Pos} {scope:Scope} {cl:List (Str×Rh)} {N:List Str} {cap:List (Ri Nat)}
theorem dE (hp:PassesOwn (model X.prog X.w) X.A X.env X.xe) (hc:X.calm=true) (hi:IJ X tg iter gi) (hg:GJ X tg gg) (hb:zo X body g) (hs:∀ x,foldedSetIterable iter X.env x=pure x:=by intro _; rfl):
  SJ X (.For tg iter body [] pos) (IU gi gg g):=
 ⟨PS.imp (tK hp hc hi.h hg.h hb.h hs) λN σ H z9=>by obtain⟨L,S,M,hL,hS,h,r⟩:=z9; exact⟨L,S,_,hL,hS,h,λds ok S1 H1 J h1 k1 hL1 hS1 G=>pZ hL1 hS1 h1 (r.kp k1) G.go G.stop⟩⟩
theorem Fc {K:Fg}:∀ σ H Q,up K (DZ cap gi gg (tG ge)) σ H Q->Iq cap (OU K gi) (Lk K gg) (up K ge) σ H Q:=fun σ H Q ⟨L,S,k,hL,hS,h,n⟩=>
 ⟨L,S,_,hL,hS,h,λds ok S1 H1 J h1 k1 hL1 hS1 G D hD=>zN (hL1.cap cap) hS1 hD (h1 D (hS1.free hD)) (λd S' v H' q k3=>n d S' v H' q (k1.trans k3)) G.go G.stop⟩
theorem tP (hc:X.calm=true) (Sc:oi X scope cl N cap) (hi:IJ X tg iter gi) (hg:∀ s0 H0 ex C,GJ (qG X scope cl N s0 H0 ex C) tg gg) (he:∀ s0 H0 ex C,EJ (qG X scope cl N s0 H0 ex C) elt ge)
  (hs:∀ x,foldedSetIterable iter X.env x=pure x:=by intro _; rfl):EJ X (.ListComp elt [⟨tg,iter,[],0⟩] scope pos) (DZ cap gi gg (tG ge)):=
 ⟨PE.imp (G4 hc Sc hi.h (λs0 H0 ex C=>(hg s0 H0 ex C).h) (λs0 H0 ex C=>(he s0 H0 ex C).h) hs) Fc⟩
end
def CV (c:ue) (kvs:List (List Int×D)):List D:=kvs.map λp=>match c with
 | .k=>gH p.1
 | .v=>p.2
def fB (kvs:List (List Int×D)):List D:=kvs.map λp=>.tup [gH p.1,p.2]
def Gw (gi:DE) (f:List (List Int×D)->List D):B4:=λL S k=>gi L S λd S1=>match d with
 | .ref a=>∃ kvs ep,S1 a=some (.gen (.dT kvs ep))/\k (f kvs) (λS=>S a=some (.gen (.dT kvs ep))) S1
 | _=>False
theorem u8 (c:ue) {K:Fg} {H1:Hp} {a:Rh} {kvs:List (List Int×D)} {ep:Nat}:JA K H1 (NG c a ep kvs.length) (CV c kvs) (λS=>S a=some (.gen (.dT kvs ep))) where
 go:=λi d S2 H2 e k2 hS2 ok=>by
  obtain⟨xs,e1,r1⟩:=hS2.dT ok;unfold CV at e;rw [Qt] at e;obtain⟨p,hp,rfl⟩:=QO.mp e;obtain⟨q,hq,h1,h2,v,h3,h4⟩:=r1.at_ hp;cases c with
  | k=>
   refine⟨⟨xs,q,.ref q.2.1,e1,hq,r1.length.symm,rfl⟩,?_⟩;rintro x H' ⟨rfl,al⟩;obtain⟨q',hq',rv⟩:=al xs e1;rw [hq] at hq';cases hq';rw [aP.inj (show aP x (Value.ref q.2.1) from rv) (show aP (.ref q.2.1) (Value.ref q.2.1) from rfl)]
   exact⟨Kp.refl _,hS2,sU.mpr ⟨_,rfl,h2⟩⟩
  | v=>
   refine⟨⟨xs,q,v,e1,hq,r1.length.symm,h3⟩,?_⟩;rintro x H' ⟨rfl,al⟩;obtain⟨q',hq',rv⟩:=al xs e1;rw [hq] at hq';cases hq';rw [aP.inj (show aP x q.2.2 from rv) h3]
   exact⟨Kp.refl _,hS2,h4⟩
 stop:=λS2 H2 k2 hS2 ok=>by
  obtain⟨xs,e1,r1⟩:=hS2.dT ok;exact⟨xs,e1,r1.length.symm,by unfold CV; rw [P6]; exact P4 _⟩
theorem yU {K:Fg} {H1:Hp} {a:Rh} {kvs:List (List Int×D)} {ep:Nat}:JA K H1 (Ow a ep kvs.length) (fB kvs) (λS=>S a=some (.gen (.dT kvs ep))) where
 go:=λi d S2 H2 e k2 hS2 ok=>by
  obtain⟨xs,e1,r1⟩:=hS2.dT ok;unfold fB at e;rw [Qt] at e;obtain⟨p,hp,rfl⟩:=QO.mp e;obtain⟨q,hq,h1,h2,v,h3,h4⟩:=r1.at_ hp;refine⟨⟨xs,q,v,e1,hq,r1.length.symm,h3⟩,?_⟩;rintro x H' ⟨T,b,v',rfl,hT,rfl,al⟩;obtain⟨q',hq',rfl,rv⟩:=al xs e1;rw [hq] at hq';cases hq';rw [aP.inj rv h3];have kn:Kp H2 (bS H2 T (.tup [.ref q.2.1,v])):=Kp.new hT;exact⟨kn,hS2.new hT,fe.mpr ⟨T,_,rfl,lU.of br,IsDs.cons (sU.mpr ⟨_,rfl,kn.tup h2⟩) (IsDs.cons (h4.kp kn) IsDs.nil)⟩⟩
 stop:=λS2 H2 k2 hS2 ok=>by
  obtain⟨xs,e1,r1⟩:=hS2.dT ok;exact⟨xs,e1,r1.length.symm,by unfold fB; rw [P6]; exact P4 _⟩
section
variable {X:Cx} {tg o:Rj} {go:DE} {apos cpos:Pos}
theorem wR (ho:EJ X o go):IJ X tg o (Gw go (CV .k)):=⟨PI.imp (Hq ho.h) fun σ H R ⟨L,S,k,hL,hS,h,n⟩=>up.go hL hS h λd S1 v H1 h1 k1 hL1 hS1 i1=>by
  cases d with
  | ref a=>
   obtain⟨kvs,ep,g1,h1⟩:=h1;obtain⟨xs,e1,r1⟩:=hS1.dT g1;have ex:=aZ.mp i1;subst ex;exact⟨a,ep,xs,rfl,e1,n _ _ _ _ _ h1 k1 hL1 hS1 (r1.length▸u8 .k)⟩
  | _=>exact(show False from h1).elim⟩
theorem Ih (ho:EJ X o go) (hbase:attributeBase o "values" X.env (eval o X.env)=eval o X.env:=by rfl) (hline:(apos.endLine == cpos.line)=true:=by rfl):IJ X tg (.Call (.Attribute o "values" apos) [] [] cpos) (Gw go (CV .v)):=⟨PI.imp (Gu ho.h hbase hline) fun σ H R ⟨L,S,k,hL,hS,h,n⟩=>up.go hL hS h λd S1 v H1 h1 k1 hL1 hS1 i1=>by
  cases d with
  | ref a=>
   obtain⟨kvs,ep,g1,h1⟩:=h1;obtain⟨xs,e1,r1⟩:=hS1.dT g1;have ex:=aZ.mp i1;subst ex;exact⟨a,ep,xs,rfl,e1,n _ _ _ _ _ h1 k1 hL1 hS1 (r1.length▸u8 .v)⟩
  | _=>exact(show False from h1).elim⟩
theorem fm {es:List Rj} {k:Nat} {pos:Pos} (ho:EJ X o go) (hbase:attributeBase o "items" X.env (eval o X.env)=eval o X.env:=by rfl) (hline:(apos.endLine == cpos.line)=true:=by rfl):IJ X (.Tuple es k pos) (.Call (.Attribute o "items" apos) [] [] cpos) (Gw go fB):=⟨PI.imp (FG ho.h hbase hline) fun σ H R ⟨L,S,k,hL,hS,h,n⟩=>up.go hL hS h λd S1 v H1 h1 k1 hL1 hS1 i1=>by
  cases d with
  | ref a=>
   obtain⟨kvs,ep,g1,h1⟩:=h1;obtain⟨xs,e1,r1⟩:=hS1.dT g1;have ex:=aZ.mp i1;subst ex;exact⟨a,ep,xs,rfl,e1,n _ _ _ _ _ h1 k1 hL1 hS1 (r1.length▸yU)⟩
  | _=>exact(show False from h1).elim⟩
end
section
variable {X:Cx} {o e f:Rj} {go ge gf:DE} {to te tf:TE} {apos cpos:Pos}
def Ky (K:Fg) (to te tf:TE):TE:=fun σ H Q=>to σ H λx H1=>∃ a xs ep,x=.ref a/\H1 a=some (.ext (md a xs ep))/\te σ H1 λy H2=>tf σ H2 λz H3=>∃ b kvs xs ep ks v,y=.ref b/\H3 a=some (.ext (md a xs ep))/\m9 K H3 kvs xs/\lU K H3 b (ks.map V.int)/\(∀ r,aP z r->aP v (((atKey xs ks).map (·.2)).getD r))/\Q v H3
theorem Eh {n:Nat} (hr:b3 n X.A) (ho:PE X o to) (he:PE X e te) (hf:PE X f tf) (m:M2 X o "get" apos e f cpos):PE X (.Call (.Attribute o "get" apos) [e,f] [] cpos) (Ky X.K to te tf):=by
 intro Rw s σ H Q I h;refine wpAny_Call_method m.base m.few m.line PySem.F.plainAttrs_dict PySem.F.slot_dict_get PySem.F.type_dict_get (cu (ho Rw s σ H _ I h) λu s1 z9=>?_)
 obtain⟨x,H1,I1,rx,a,xs,ep,ex,e1,q1⟩:=z9;subst ex;obtain rfl:u=Value.ref a:=rx;have g:=(cf I1 e1).2.2.2;refine⟨⟨_,g,rfl⟩,λb eb=>by cases eb; exact⟨_,g,rfl⟩,?_⟩
 rw [m.trees];refine Calls.callWith_builtin rfl (Calls.evalArgs_plain (Calls.spliced_cons (cu (he Rw s1 σ H1 _ I1 q1) λiv s2 z9=>?_)))
 obtain⟨y,H2,I2,ry,q2⟩:=z9;refine Calls.spliced_cons (cu (hf Rw s2 σ H2 _ I2 q2) λr s3 z9=>?_)
 obtain⟨z,H3,I3,rz,b,kvs,xs,ep,ks,v,ey,e3,r3,t3,g3,q3⟩:=z9;refine Calls.spliced_nil ?_;subst ey;cases (show iv=Value.ref b from ry)
 have dd:=sj I3 e3 r3;exact call_meetsIn PySem.F.slot_dict_get dd.typeIs PySem.F.entry_dict_get (PySem.F.args_dict_get_3 _ _ _) (meetsH_dict_get_default (tupleKind (intKind X.prog X.w)) a b (cf I3 e3).1 r) ⟨tupleKind_room_in1 (un1 hr),ks,xs,oz I3 t3,dd,v,H3,I3.tok _,g3 r rz,q3⟩
def LP (go ge gf:DE):DE:=λL S k=>go L S λd S1=>match d with
 | .ref a=>(∃ kvs ep,S1 a=some (.gen (.dT kvs ep)))/\ge L S1 λy S2=>gf L S2 λz S3=>∃ kvs ep ks,S3 a=some (.gen (.dT kvs ep))/\y=gH ks/\k ((fy kvs ks).getD z) S3
 | _=>False
theorem Ay {n:Nat} (hr:b3 n X.A) (ho:EJ X o go) (he:EJ X e ge) (hf:EJ X f gf) (m:M2 X o "get" apos e f cpos:=by exact⟨rfl,rfl,rfl,rfl⟩):EJ X (.Call (.Attribute o "get" apos) [e,f] [] cpos) (LP go ge gf):=
 ⟨PE.imp (Eh hr ho.h he.h hf.h m) fun σ H Q ⟨L,S,k,hL,hS,h,n⟩=>up.go hL hS h λd S1 x H1 h1 k1 hL1 hS1 i1=>by
  cases d with
  | ref a=>
   obtain⟨⟨kvs,ep,g1⟩,h1⟩:=h1;obtain⟨xs,e1,_⟩:=hS1.dT g1;have ex:=aZ.mp i1;subst ex;refine⟨a,xs,ep,rfl,e1,up.go hL1 hS1 h1 λy S2 vy H2 h2 k2 hL2 hS2 i2=>up.go hL2 hS2 h2 λz S3 vz H3 h3 k3 hL3 hS3 i3=>?_⟩
   obtain⟨kvs,ep,ks,g3,rfl,h3⟩:=h3;obtain⟨xs,e3,r3⟩:=hS3.dT g3;obtain⟨b,rfl,t3⟩:=sU.mp (i2.kp k3);have kk:=(k1.trans k2).trans k3;rcases r3.get ks with ⟨z1,z2⟩ | ⟨d,b',w,v,z1,z2,z3,z4⟩
   ·rw [z1] at h3;exact⟨b,kvs,xs,ep,ks,vz,rfl,e3,r3,t3,λr q=>by rw [z2]; exact q,n _ _ _ _ h3 kk hS3 i3⟩
   ·rw [z1] at h3;exact⟨b,kvs,xs,ep,ks,v,rfl,e3,r3,t3,λr q=>by rw [z2]; exact z3,n _ _ _ _ h3 kk hS3 z4⟩
  | _=>exact(show False from h1).elim⟩
def IE:ce:=λds S k=>match ds with
 | [.ref a]=>∃ kvs ep,S a=some (.gen (.dT kvs ep))/\k (.int kvs.length) S
 | _=>False
theorem EE:dw X (.builtin "len") (xn X.K IE):=by
 intro Rw s σ H xs us Q I rs h;obtain⟨ds,S,k,i,hS,r,n⟩:=h;unfold IE at r
 split at r
 ·rename_i a
  obtain⟨kvs,ep,g1,r⟩:=r;obtain⟨v,rfl,j⟩:=jl i;have ex:=aZ.mp j;subst ex;obtain⟨ys,e1,r1⟩:=hS.dT g1;obtain⟨u,rfl,ru⟩:=lG rs;cases (show u=Value.ref a from ru)
  obtain⟨hd,z,_,g⟩:=cf I e1;have T:s.TypeIs (.ref a) "dict":=⟨_,g,rfl⟩
  have sz:(ys.map eT).toArray.size=kvs.length:=by simp [r1.length]
  have hl:(kvs.length:Int) < 2 ^ 63:=by rw [r1.length]; rw [sizeLine_eq] at z; omega
  refine PyProof.Rows.call_len_slot (n:=kvs.length) T F.slot_dict_len (λQ' q=>call_meetsIn F.slot_dict_len T F.entry_dict_len (F.args_dict_len_1 _) (Pe a _ ep hd) ⟨g,?_⟩) (by omega) (by omega) ⟨.int kvs.length,H,I.tok _,⟨_,rfl⟩,n _ _ _ _ r (Kp.refl H) hS (isInt.mpr rfl)⟩
  rw [sz];exact q
 ·exact r.elim
end
abbrev Gr:=Lo->DH->(List (D×D)->DH->Prop)->Prop
def LZ:Gr:=λ_ S k=>k [] S
def Kh (gk gv:DE) (t:Gr):Gr:=λL S k=>gk L S λx S1=>gv L S1 λy S2=>t L S2 λps S3=>k ((x,y)::ps) S3
abbrev Jh (K:Fg) (H:Hp):List (D×D)->List (V×V)->Prop:=Paired λd p=>cq K H d.1 p.1/\cq K H d.2 p.2
def Oz (K:Fg) (t:Gr):L2.St->Hp->(List (V×V)->Hp->Prop)->Prop:=fun σ H Q=>∃ L S k,Lc K H L σ/\Hs K H S/\t L S k/\∀ ds S' ps H',k ds S'->Kp H H'->Hs K H' S'->Jh K H' ds ps->Q ps H'
structure PJ (X:Cx) (pos:Pos) (keys:List (Ri Rj)) (values:List Rj) (t:Gr):Prop where
 h:∀ (Rw:List (Rh×Rv)) (s:Rf) (σ:L2.St) (H:Hp) (Q:List (V×V)->Hp->Prop),aC X Rw σ H s->Oz X.K t σ H Q->
  wpAny (model X.prog X.w) X.A (evalPairs (pairTrees keys values X.env pos)) (λvs s'=>∃ ps H',aC X Rw σ H' s'/\VV ps vs/\Q ps H') X.xe s
section
variable {X:Cx} {pos:Pos}
theorem zV:PJ X pos [] [] LZ:=⟨λRw s σ H Q I z9=>by obtain⟨L,S,k,hL,hS,h,n⟩:=z9; exact pairTrees_nil_walk ⟨[],H,I,.nil,n [] S [] H h (Kp.refl H) hS .nil⟩⟩
theorem gZ {a b:Rj} {ks:List (Ri Rj)} {vs:List Rj} {ga gb:DE} {t:Gr} (ha:EJ X a ga) (hb:EJ X b gb) (hr:PJ X pos ks vs t):PJ X pos (some a::ks) (b::vs) (Kh ga gb t):=
 ⟨λRw s σ H Q I ⟨L,S,k,hL,hS,h,n⟩=>by
  refine pairTrees_cons_walk (cu (ha.h Rw s σ H (λx H1=>up X.K gb σ H1 λy H2=>Oz X.K t σ H2 λps H3=>Q ((x,y)::ps) H3) I ?_) λu s1 ⟨x,H1,I1,rx,q1⟩=>cu (hb.h Rw s1 σ H1 _ I1 q1) λw2 s2 ⟨y,H2,I2,ry,q2⟩=>
   cu (hr.h Rw s2 σ H2 _ I2 q2) λws s3 ⟨ps,H3,I3,rel,q3⟩=>⟨(x,y)::ps,H3,I3,.cons ⟨rx,ry⟩ rel,q3⟩)
  exact up.go hL hS h λd S1 v H1 h1 k1 hL1 hS1 i1=>up.go hL1 hS1 h1 λe S2 u H2 h2 k2 hL2 hS2 i2=>⟨L,S2,_,hL2,hS2,h2,λds S3 ps H3 h3 k3 hS3 i3=>n _ S3 _ H3 h3 ((k1.trans k2).trans k3) hS3 (.cons ⟨i1.kp (k2.trans k3),i2.kp k3⟩ i3)⟩⟩
end
section
variable {prog:Rk} {w:Rn} {A:Rm} {E:Rg->Rf->Prop} {d:Rh}
theorem vd (hu:A.units < cLine):∀ (vs:List (Rg×Rg)) (ks acc:List (List Int×Rh×Rg)) (s:Rf) (Q:PUnit->Rf->Prop),Paired (λv k=>v.1=.ref k.2.1/\v.2=k.2.2) vs ks->
  (∀ k∈ks,(tupleKind (intKind prog w)).is s.heap k.1 k.2.1)->s.heap.DictOfH (tupleKind (intKind prog w)) d acc->acc.length+ks.length<=sizeLine->
  (∀ h' tk,h'.DictOfH (tupleKind (intKind prog w)) d (ks.foldl (λacc k=>storedH acc k.1 k.2.1 k.2.2) acc)->Heap.SameBut d s.heap h'->Q PUnit.unit {s with heap:=h',toks:=tk})->
  wpAny (model prog w) A (forIn vs PUnit.unit fun(x:Rg×Rg) (_:PUnit)=>(do dictSet d x.1 x.2; pure (ForInStep.yield PUnit.unit):Sem (ForInStep PUnit))) Q E s
 | _,_,acc,s,Q,.nil,_,hm,_,hQ=>by
  rw [List.forIn_nil];exact P0 (hQ s.heap s.toks hm (Heap.SameBut.refl _ _))
 | (_,_)::vs,k::ks,acc,s,Q,.cons h t,hk,hm,hz,hQ=>by
  obtain⟨h1,h2⟩:=h;simp only at h1 h2
  subst h1 h2;rw [Qf] at hz;rw [List.forIn_cons];have hl:=ms acc k.1 k.2.1 k.2.2;refine gt (gt (wpAny_dictSet_heap (hsz:=by omega) (show (tupleKind (intKind prog w)).room A from hu) (hk k (by simp)) hm λh1 m1 s1=>P0 (vd hu vs ks (storedH acc k.1 k.2.1 k.2.2) _ Q t (λq hq=>?_) m1 (by omega) λh' tk m' s'=>hQ h' tk m' (s1.trans s'))))
  obtain⟨o,es,ep,g,_,dt,_⟩:=hm;exact(tupleKind (intKind prog w)).keeps (hk q (by simp [hq])) g dt s1
end
def kM (acc kvs:List (List Int×D)):List (List Int×D):=kvs.foldl (λacc kv=>ml acc kv.1 kv.2) acc
theorem m9.merge {K:Fg} {H:Hp}:∀ {kvs:List (List Int×D)} {xs:List (List Int×Rh×Rg)} {acc:List (List Int×D)} {ys:List (List Int×Rh×Rg)},m9 K H kvs xs->m9 K H acc ys->m9 K H (kM acc kvs) (xs.foldl (λacc k=>storedH acc k.1 k.2.1 k.2.2) ys)
 | _,_,_,_,.nil,r=>r
 | (k,d)::_,x::_,_,_,.cons h t,r=>by
  obtain⟨h1,h2,v,h3,h4⟩:=h;simp only at h1;subst h1
  rename_i t1 t2 a b
  exact m9.merge (kvs:=t1) (xs:=t2) (acc:=ml a x.1 d) (ys:=storedH b x.1 x.2.1 x.2.2) t (r.put h2 h3 h4)
theorem vC:∀ (ks acc:List (List Int×Rh×Rg)),(ks.foldl (λacc k=>storedH acc k.1 k.2.1 k.2.2) acc).length<=acc.length+ks.length
 | [],acc=>P4 _
 | k::ks,acc=>by
  have h1:=vC ks (storedH acc k.1 k.2.1 k.2.2);have h2:=ms acc k.1 k.2.1 k.2.2;rw [List.foldl_cons,Qf];omega
theorem Fl {K:Fg} {H:Hp}:∀ {kvs:List (List Int×D)} {ps:List (V×V)} {vs:List (Rg×Rg)},Jh K H (kvs.map λkv=>(gH kv.1,kv.2)) ps->VV ps vs->∃ xs,m9 K H kvs xs/\Paired (λv (k:List Int×Rh×Rg)=>v.1=.ref k.2.1/\v.2=k.2.2) vs xs
 | [],_,_,r,q=>by rw [List.map_nil] at r; cases r; cases q; exact⟨[],.nil,.nil⟩
 | kv::kvs,_,_,r,q=>by
  rw [Qe] at r;cases r with
  | @cons _ p _ _ h t=>
   cases q with
   | @cons _ b _ _ h' t'=>
    obtain⟨xs,a1,a2⟩:=Fl t t';obtain⟨c,e,t1⟩:=sU.mp h.1;have h1:=h'.1;rw [e] at h1;exact⟨(kv.1,c,b.2)::xs,.cons ⟨rfl,t1,p.2,h'.2,h.2⟩ a1,.cons ⟨h1,rfl⟩ a2⟩
def Jn (K:Fg) (t:L2.St->Hp->(List (V×V)->Hp->Prop)->Prop):TE:=fun σ H Q=>∀ p,H p=none->t σ (bS H p (.ext (md p [] 0))) λps H2=>∃ ep,H2 p=some (.ext (md p [] ep))/\∃ kvs:List (List Int×D),Jh K H2 (kvs.map λkv=>(gH kv.1,kv.2)) ps/\kvs.length<=15/\
 ∀ xs ep',m9 K H2 kvs xs->Q (.ref p) (bS H2 p (.ext (md p (xs.foldl (λacc k=>storedH acc k.1 k.2.1 k.2.2) []) ep')))
theorem Ef {X:Cx} {pos:Pos} {keys:List (Ri Rj)} {values:List Rj} {t:Gr} {n:Nat} (hr:b3 n X.A) (h:PJ X pos keys values t) (hall:keys.all (·.isSome)=true:=by rfl) (hl:keys.length=values.length:=by rfl) (h0:keys≠[]:=by simp)
  (h15:keys.length<=15:=by decide):PE X (.Dict keys values pos) (Jn X.K (Oz X.K t)):=by
 intro Rw s σ H Q I q;have hn:=I.hok.fresh (P4 s.heap.objs.size);have hlen:=pairTrees_length keys values X.env pos hall hl;have I1:=I.laid (a:=s.heap.objs.size) (o:=.ext (md s.heap.objs.size [] 0)) (h':=s.heap.push {cls:=.type "dict",data:=.dict #[]}) (t':=s.toks) (λ_ _ q=>PZ _ q) (P4 _) (t5 (vp s.heap I.big))
 rw [arm_eval_Dict,zip_pairTrees keys values X.env pos hall hl,dictDisplay_pairs _ (λe=>h0 (by rw [e] at hlen; exact Rc.mp hlen.symm)) (by omega)]
 refine gt (wpAny_standAt (gt ?_));unfold subDict;refine gt (wpAny_alloc (gt (Qq ?_)));rw [if_pos (by omega)]
 refine gt (cu (h.h Rw _ σ _ _ I1 (q _ hn)) λws s2 z9=>?_)
 obtain⟨ps,H2,I2,rel,ep,e2,kvs,r2,lk,q2⟩:=z9;refine Qq (gt ?_);obtain⟨xs,rx,rw'⟩:=Fl r2 rel;have hd:=(cf I2 e2).1;have hz:xs.length<=15:=by rw [<- rx.length]; exact lk
 refine vd (Nat.lt_of_succ_lt (un1 hr)) ws xs [] s2 _ rw' (λx hx=>?_) (sj I2 e2 (kvs:=[]) .nil) (by rw [sizeLine_eq,Ra]; omega) λh' tk dd' hs=>?_
 ·clear rw' hz q2;clear r2 lk
  induction rx with
  | nil=>exact nomatch hx
  | @cons p q ps qs h t ih=>
   rcases P9.mp hx with e | hx
   ·subst e;rw [<- h.1];exact oz I2 h.2.1
   ·exact ih hx
 ·have z':(xs.foldl (λacc k=>storedH acc k.1 k.2.1 k.2.2) []).length<=sizeLine:=by have:=vC xs []; rw [Ra] at this; rw [sizeLine_eq]; omega
  obtain⟨ep',m⟩:=FW hd z' dd';exact P0 (P0 (P0 ⟨.ref s.heap.objs.size,_,rq (t':=tk) I2 (by rw [e2]; exact True.intro) hs ⟨_,m.2.2.2⟩ (t5 m),rfl,q2 xs ep' rx⟩))
def MV (t:Gr):DE:=λL S k=>∀ p,S p=none->∀ ep,t L (put S p (.gen (.dT [] ep))) λds S2=>∃ ep' kvs,S2 p=some (.gen (.dT [] ep'))/\ds=kvs.map (λ(kv:List Int×D)=>(gH kv.1,kv.2))/\kvs.length<=15/\∀ ep2,k (.ref p) (put S2 p (.gen (.dT (kM [] kvs) ep2)))
theorem w9 {X:Cx} {pos:Pos} {keys:List (Ri Rj)} {values:List Rj} {t:Gr} {n:Nat} (hr:b3 n X.A) (h:PJ X pos keys values t) (hall:keys.all (·.isSome)=true:=by rfl) (hl:keys.length=values.length:=by rfl) (h0:keys≠[]:=by simp)
  (h15:keys.length<=15:=by decide):EJ X (.Dict keys values pos) (MV t):=
 ⟨PE.imp (Ef hr h hall hl h0 h15) fun σ H Q ⟨L,S,k,hL,hS,h,n⟩ p hp=>by
  refine⟨L,_,_,hL.kp (Kp.new hp),hS.newG (g:=.dT [] 0) hp ⟨[],br,.nil⟩,h p (hS.free hp) 0,λds S2 ps H2 h2 k2 hS2 i2=>?_⟩
  obtain⟨ep',kvs,g2,rfl,lk,h2⟩:=h2;obtain⟨ys,e2,r2⟩:=hS2.dT g2;cases r2;refine⟨ep',e2,kvs,i2,lk,λxs ep2 rx=>?_⟩
  have k3:Kp H2 (bS H2 p (.ext (md p (xs.foldl (λacc k=>storedH acc k.1 k.2.1 k.2.2) []) ep2))):=Kp.mut e2 (λz=>z)
  exact n _ _ _ _ (h2 ep2) (((Kp.new hp).trans k2).trans k3) (hS2.setG e2 (λz=>z) ⟨_,br,(rx.merge .nil).kp k3⟩) (aZ.mpr rfl)⟩
end DL
namespace PySem
open Sem (wp)
open Builtin DL
section
variable {prog:Rk} {w:Rn} {A:Rm} {E:Rg->Rf->Prop}
theorem yh (c:Int):∀ l:List Ru,(l.map (·.hash)).Nodup->(l.filter (·.hash == c)).length<=1
 | [],_=>QU _
 | e::l,h=>by
  rw [Qe,QK] at h;rw [List.filter_cons]
  by_cases q:(e.hash == c)=true
  ·rw [if_pos q];have z:l.filter (·.hash == c)=[]:=by
    rw [List.filter_eq_nil_iff];intro x hx y;refine h.1 (P5.mpr ⟨x,hx,?_⟩);simp only [beq_iff_eq] at q y
    rw [q,y]
   rw [z];exact P4 _
  ·rw [if_neg q];exact yh c l h.2
theorem wZ {id:Rs} {o:Rh} {es:Rq Ru} {ep:Nat} {s:Rf} {Q:Rq Ru->Rf->Prop} (g:s.heap.get? o=some (lD es ep)) (hk:∀ e∈es.toList,∃ b q,e.key=.ref b/\s.heap.get? b=some q/\q.cls=.type "tuple") (hn:(es.toList.map (·.hash)).Nodup) (h:Q es s):
  wpAny (model prog w) A (Dict.entriesForEmpty id o) Q E s:=by
 unfold Dict.entriesForEmpty;refine gt (QR g rfl ?_);refine gt ?_;rw [<- Array.forIn_toList];refine wpAny_forIn_list _ (λav _ s'=>s'=s/\∀ e∈av,e∈es.toList) _ ?_ ?_ es.toList _ ⟨rfl,λe he=>he⟩
 ·rintro e av _ s' ⟨rfl,hr⟩;have me:=hr e (by simp)
  obtain⟨b,q,kb,gb,cb⟩:=hk e me;have one:¬ (es.filter (·.hash == e.hash)).size > 1:=by
   have z:=yh e.hash es.toList hn;rw [<- Q4,Array.toList_filter];omega
  rw [kb];have T:s'.TypeIs (.ref b) "tuple":=⟨q,gb,cb⟩
  refine gt (gt (wpAny_specialOf T F.slot_tuple_eq.lookup (P0 ?_)));rw [if_pos (by decide),if_neg one]
  exact P0 ⟨rfl,λx hx=>hr x (by simp [hx])⟩
 ·rintro _ s' ⟨rfl,_⟩;exact P0 h
theorem En {d o:Rh} {es:Rq Ru} {ep:Nat} {s:Rf} {Q:Unit->Rf->Prop} (ne:d≠o) (ho:(o == sysModules)=false) (gd:s.heap.get? d=some (lD #[] 0)) (go:s.heap.get? o=some (lD es ep))
  (hk:∀ e∈es.toList,∃ b q,e.key=.ref b/\s.heap.get? b=some q/\q.cls=.type "tuple") (hn:(es.toList.map (·.hash)).Nodup) (hz:es.size<=sizeLine) (h:∀ h' ep',h'.get? d=some (lD es ep')->Heap.SameBut d s.heap h'->Q () {s with heap:=h'}):
  wpAny (model prog w) A (Dict.mergeDict "dict.__init__" d o) Q E s:=by
 have nb:(d == o)=false:=by simpa using ne
 unfold Dict.mergeDict Dict.showsAll;rw [if_neg (by rw [nb]; exact P7),if_neg (by rw [ho]; exact P7)]
 refine gt (P0 (gt (QR go rfl ?_)));cases hes:es.toList with
 | nil=>
  have e0:es=#[]:=by cases es; simp at hes; rw [hes]
  subst e0;have z:=h s.heap 0 gd (Heap.SameBut.refl _ _);dsimp only;rw [if_neg (by simp)]
  refine gt (wpAny_dictEpoch go rfl (gt (QR go rfl ?_)));rw [Std.Legacy.Range.forIn_eq_forIn_range'];exact gt (P0 (P0 z))
 | cons e r=>
  obtain⟨b,q,kb,gb,cb⟩:=hk e (by rw [hes]; simp)
  have few:(es.size<=8 && es.all λe=>(keyPart e.key).isSome)=false:=by
   have:(es.all λe=>(keyPart e.key).isSome)=false:=by
    rw [<- Array.all_toList,hes,List.all_cons,kb]
    rfl
   rw [this,Bool.and_false]
  dsimp only;rw [if_pos (by rw [few]; rfl)]
  refine gt (QR gd rfl ?_);rw [if_pos (by rfl)]
  refine gt (wZ go (by rw [hes]; rw [hes] at hk; exact hk) hn ?_)
  have ne0:(!es.isEmpty)=true:=by
   cases es;simp at hes;rw [hes]
   rfl
  rw [if_pos ne0];have up:(s.heap.update d (Obj.mapDictKeys λ_=>es)).get? d=_:=QJ (Obj.mapDictKeys λ_=>es) gd rfl
  refine gt (wpAny_updateDictKeysTo gd rfl ?_ (Nat.le_succ_of_le hz));exact P0 (h _ _ up (Re ..))
theorem r_ {o:Rh} {es:Rq Ru} {ep:Nat} {s:Rf} {Q:Rg->Rf->Prop} (ho:(o == sysModules)=false) (go:s.heap.get? o=some (lD es ep))
  (hk:∀ e∈es.toList,∃ b q,e.key=.ref b/\s.heap.get? b=some q/\q.cls=.type "tuple") (hn:(es.toList.map (·.hash)).Nodup) (hz:es.size<=sizeLine)
  (h:∀ h' ep',h'.get? s.heap.objs.size=some (lD es ep')->(∀ b q,s.heap.get? b=some q->h'.get? b=some q)->Q (.ref s.heap.objs.size) {s with heap:=h'}):wpAny (model prog w) A (call (.type "dict") [.ref o]) Q E s:=by
 refine callType_codes (Q₁:=λob s1=>ob=.ref s.heap.objs.size/\s1={s with heap:=s.heap.push {cls:=.type "dict",data:=.dict #[]}}) F.kt_called_dict (F.kt_typeCall_dict_1 _) F.entry_dict_init (kt_code_dict_new _ ⟨rfl,rfl⟩) ?_
 rintro ob s1 ⟨rfl,rfl⟩;have lo:o < s.heap.objs.size:=P3 go;have go1:=PZ {cls:=.type "dict",data:=.dict #[]} go
 have gd1:(s.heap.push {cls:=.type "dict",data:=.dict #[]}).get? s.heap.objs.size=some (lD #[] 0):=P1 _ rfl
 have T1:({s with heap:=s.heap.push {cls:=.type "dict",data:=.dict #[]}}:Rf).TypeIs (.ref s.heap.objs.size) "dict":=⟨_,gd1,rfl⟩
 have T2:({s with heap:=s.heap.push {cls:=.type "dict",data:=.dict #[]}}:Rf).TypeIs (.ref o) "dict":=⟨_,go1,rfl⟩
 refine⟨T1,F.args_dict_init_2 _ _,gt (m:=Dict.selfAndRest "__init__" _) ?_⟩
 unfold Dict.selfAndRest;refine gt (wpAny_notOrdered_dict T1 (P0 (a:=(s.heap.objs.size,[Value.ref o])) ?_))
 show wpAny _ _ (Dict.updateFrom "dict.__init__" s.heap.objs.size (.ref o) [] .none) _ _ _
 unfold Dict.updateFrom;refine gt (wpAny_typeOf T2 ?_);rw [if_neg (by decide)]
 refine gt ?_;unfold Dict.merge;refine gt ?_;unfold Dict.readDirectly;refine gt (wpAny_isInstance T2 isSubtype_dict_dict ?_);rw [if_neg (by decide)]
 refine gt (wpAny_specialOf T2 F.slot_dict_iter.lookup (P0 ?_));rw [if_pos (by decide)]
 refine gt (P0 (En (Nat.ne_of_gt lo) ho gd1 go1 (λe he=>?_) hn hz λh' ep' g sb=>?_))
 ·obtain⟨b,q,x1,x2,x3⟩:=hk e he;exact⟨b,q,x1,PZ _ x2,x3⟩
 ·exact gt (P0 (P0 ⟨rfl,h h' ep' g λb q x=>(sb.2 b (P_ (P3 x))).trans (PZ _ x)⟩))
theorem Np (p q:Rh) (a b c d:Int) (t1 t2 t3 t4:Tok) (n n':Nat) (dd dd':Ri Rh) (sl sl':Rq (Ri Rg)):
  MeetsIn prog w (Builtin.«tuple.__gt__» ⟨[.ref p,.ref q],[]⟩) (λA R s=>A.units+1 < cLine/\s.heap.get? p=some ⟨.type "tuple",dd,.seq #[.int a t1,.int b t2] n,sl⟩/\s.heap.get? q=some ⟨.type "tuple",dd',.seq #[.int c t3,.int d t4] n',sl'⟩/\
   R (.ok (.ret (.bool (decide (c < a) || (decide (a=c) && decide (d < b)))))) s):=
 .of_wp λA R s h=>by
  obtain⟨hp,g,dr,tk,os⟩:=s;obtain⟨hu,h1,h2,h⟩:=h;have f:=AutoSeq1.sub_tuple_tuple;have stp:∀ {x y:Int} {u v:Tok} {Q:Rr->Rf->Prop} {s:Rf},Q (x == y) s->wpAny (model prog w) A.in1 (eqBool (.int x u) (.int y v)) Q (λe s'=>R (.error e) s') s:=λh=>wpAny_eqBool_int h
  have gtp:∀ {x y:Int} {u v:Tok} {Q:Rg->Rf->Prop} {s:Rf},Q (.bool (decide (y < x))) s->wpAny (model prog w) A.in1 (richCompare .Gt (.int x u) (.int y v)) Q (λe s'=>R (.error e) s') s:=λh=>PyProof.Rows.gt_int h
  by_cases e1:a=c
  ·subst e1
   by_cases e2:b=d
   ·subst e2
    repeat (any_goals (first | assumption | (with_reducible refine stp ?_) | (with_reducible refine gtp ?_) | wp_step))
    refine⟨_,rfl,?_⟩;simp only [Int.lt_irrefl,decide_false,Bool.and_false,Bool.or_false] at h;exact h
   ·have e3:(b == d)=false:=by simpa using e2
    repeat (any_goals (first | assumption | (with_reducible refine stp ?_) | (with_reducible refine gtp ?_) | wp_step))
    refine⟨_,rfl,?_⟩;simp only [Int.lt_irrefl,decide_false,Bool.false_or,decide_true,Bool.true_and] at h;exact h
  ·have e3:(a == c)=false:=by simpa using e1
   repeat (any_goals (first | assumption | (with_reducible refine stp ?_) | (with_reducible refine gtp ?_) | wp_step))
   refine⟨_,rfl,?_⟩;simp only [QT e1,Bool.false_and,Bool.or_false] at h;exact h
theorem GK {I S:Rh} {fp wr:List Rh} {n:Nat} {P:Nat->Rg->Prop} {St:Nat->Ro->Prop} {R:Result->Rf->Prop} (W:Walks prog w A.in1 I fp wr n P St) (bt:Nat->Nat->Rr) (Φ:Ro->Prop) (hS:S∉fp)
  (kΦ:∀ h h',Φ h->(∀ b o,b∉wr->b≠S->h.get? b=some o->h'.get? b=some o)->Φ h')
  (cmp:∀ i j u v (s:Rf) (Q:Rg->Rf->Prop) (E:Rg->Rf->Prop),Φ s.heap->P i u->P j v->Q (.bool (bt i j)) s->wpAny (model prog w) A.in1 (richCompare .Gt u v) Q E s):
  ∀ (k j:Nat) (s:Rf) (vb:Rg) (c:Nat),n - (j+1)=k->j+1<=n->Φ s.heap->St (j+1) s.heap->P (argBest bt j) vb->s.heap.get? S=some {cls:=.type "list",dict:=none,data:=.seq #[vb,vb] c,slots:=#[]}->
  (∀ v h' tk,P (argBest bt (n - 1)) v->(∀ b o,b∉wr->b≠S->s.heap.get? b=some o->h'.get? b=some o)->R (.ok (.ret v)) {s with heap:=h',toks:=tk})->codeAny (model prog w) A (.builtin "max.loop" ⟨[.ref I,.none,.ref S],[]⟩) R s:=by
 have nw:S∉wr:=λz=>hS (W.sub _ z)
 have nm:((toString "max"++toString ".loop":Rs))="max.loop":=by decide
 intro k
 induction k with
 | zero=>
  intro j s vb c hk hj ph st pb gS fin;have ej:n=j+1:=by omega
  refine Qz F.entry_max_loop ?_;rw [Qm Qv _];refine gt (m:=seqItems? (.ref S)) (Qy gS rfl (gt (Q0 (m:=pyNext (.ref I)) (W.done s _ _ (by rw [ej]; exact st) λh' tk far=>?_))))
  have g1:=far S _ nw gS;refine gt (m:=updateSeq S λ_=>#[]) (wpAny_updateSeq g1 rfl (gt (Q5 (P0 (fin vb _ tk (by rw [ej]; exact pb) λb o n1 n2 x=>?_)))))
  exact(Qw _ _ (Ne.symm n2)).trans (far b o n1 x)
 | succ k ih=>
  intro j s vb c hk hj ph st pb gS fin;have lt:j+1 < n:=by omega
  refine Qz F.entry_max_loop ?_;rw [Qm Qv _];refine gt (m:=seqItems? (.ref S)) (Qy gS rfl (gt (Q0 (m:=pyNext (.ref I)) (W.item (j+1) s _ _ lt st λv h' tk pv st1 far=>?_))))
  have g1:=far S _ nw gS;have ph1:=kΦ _ _ ph λb o n1 _ x=>far b o n1 x
  refine gt (P0 (gt (Q0 (Qq (gt (m:=richCompare .Gt v vb) (cmp (j+1) (argBest bt j) v vb _ _ _ ph1 pv pb (gt (Qq (wpAny_truthy_bool (gt (Q5 (P0 ?_))))))))))))
  by_cases hb:bt (j+1) (argBest bt j)=true
  ·rw [hb,if_pos rfl];refine gt (m:=updateSeq S λ_=>#[v,v]) (wpAny_updateSeq g1 rfl (gt (Q5 ?_)))
   have oth:∀ b o,b≠S->h'.get? b=some o->(h'.update S (Obj.mapSeq λ_=>#[v,v])).get? b=some o:=λb o n2 x=>(Qw _ _ (Ne.symm n2)).trans x
   rw [nm];refine P0 ⟨plainId_quiet Qv _,ih (j+1) _ v _ (by omega) lt (kΦ _ _ ph1 λb o _ n2 x=>oth b o n2 x) (W.frame _ _ _ st1 λb hb' o x=>oth b o (λz=>hS (z▸hb')) x) (by unfold argBest; rw [hb,if_pos rfl]; exact pv) (QJ _ g1 rfl) λu h2 tk2 pu far2=>?_⟩
   exact fin u h2 tk2 pu λb o n1 n2 x=>far2 b o n1 n2 (oth b o n2 (far b o n1 x))
  ·have hb':bt (j+1) (argBest bt j)=false:=by simpa using hb
   rw [hb',if_neg P7];refine gt (Q5 ?_);rw [nm];refine P0 ⟨plainId_quiet Qv _,ih (j+1) _ vb c (by omega) lt ph1 st1 (by unfold argBest; rw [hb',if_neg P7]; exact pb) g1 λu h2 tk2 pu far2=>?_⟩
   exact fin u h2 tk2 pu λb o n1 n2 x=>far2 b o n1 n2 (far b o n1 x)
theorem H9 {x:Rg} {s:Rf} {Q:Rg->Rf->Prop} (h:wpAny (model prog w) A.in1 (pyIter x) (λit s2=>∃ I fp wr n P St bt,∃ Φ:Ro->Prop,it=.ref I/\Walks prog w A.in1 I fp wr n P St/\St 0 s2.heap/\(∀ b∈fp,b < s2.heap.objs.size)/\0 < n/\Φ s2.heap/\
   (∀ S,s2.heap.objs.size<=S->∀ h h',Φ h->(∀ b o,b∉wr->b≠S->h.get? b=some o->h'.get? b=some o)->Φ h')/\
   (∀ i j u v (s:Rf) (Q:Rg->Rf->Prop) (E:Rg->Rf->Prop),Φ s.heap->P i u->P j v->Q (.bool (bt i j)) s->wpAny (model prog w) A.in1 (richCompare .Gt u v) Q E s)/\
   ∀ v h' tk,P (argBest bt (n - 1)) v->(∀ b o,b∉wr->s2.heap.get? b=some o->h'.get? b=some o)->Q v {s2 with heap:=h',toks:=tk}) E s):wpAny (model prog w) A (call (.builtin "max") [x]) Q E s:=by
 have nm:((toString "max"++toString ".loop":Rs))="max.loop":=by decide
 refine call_function_tree F.kind_max F.plain_max F.entry_max (F.args_max1 _) (gt (m:=Builtin.Builtins.bindParams "max" ["key","default"] 0 ⟨[],[]⟩) (wpAny_of_eq (a:=[none,none]) rfl (gt (P0 (gt (QD h (λit s2 h2=>?_) λ_ _ e=>e))))))
 obtain⟨I,fp,wr,n,P,St,bt,Φ,rfl,W,st,below,n0,ph,kΦ,cmp,fin⟩:=h2;refine gt (Qs ?_);have hS:s2.heap.objs.size∉fp:=λm=>QV _ (below _ m)
 have nw:s2.heap.objs.size∉wr:=λm=>hS (W.sub _ m)
 have kp:∀ b o,s2.heap.get? b=some o->(s2.heap.push {cls:=.type "list",data:=.seq #[]}).get? b=some o:=λb o x=>PZ _ x
 have gS:(s2.heap.push {cls:=.type "list",data:=.seq #[]}).get? s2.heap.objs.size=some {cls:=.type "list",dict:=none,data:=.seq #[] 0,slots:=#[]}:=P1 _ rfl
 have ph0:=kΦ _ (P4 _) _ _ ph λb o _ _ x=>kp b o x
 have st0:=W.frame 0 _ _ st λb _ o x=>kp b o x
 rw [nm];refine P0 ⟨plainId_quiet Qv _,Qz F.entry_max_loop ?_⟩;rw [Qm Qv _];refine gt (m:=seqItems? (.ref s2.heap.objs.size)) (Qy gS rfl (gt (Q0 (m:=pyNext (.ref I)) (W.item 0 _ _ _ n0 st0 λv h' tk pv st1 far=>?_))))
 have g1:=far _ _ nw gS;have ph1:=kΦ _ (P4 _) _ _ ph0 λb o n1 _ x=>far b o n1 x
 have oth:∀ b o,b≠s2.heap.objs.size->h'.get? b=some o->(h'.update s2.heap.objs.size (Obj.mapSeq λ_=>#[v,v])).get? b=some o:=λb o n2 x=>(Qw _ _ (Ne.symm n2)).trans x
 refine gt (P0 (gt (m:=updateSeq s2.heap.objs.size λ_=>#[v,v]) (wpAny_updateSeq g1 rfl ?_)))
 rw [nm];refine P0 ⟨plainId_quiet Qv _,GK W bt Φ hS (kΦ _ (P4 _)) cmp _ 0 _ v _ rfl n0 (kΦ _ (P4 _) _ _ ph1 λb o _ n2 x=>oth b o n2 x) (W.frame _ _ _ st1 λb hb o x=>oth b o (λz=>hS (z▸hb)) x) pv (QJ _ g1 rfl) λu h2 tk2 pu far2=>?_⟩
 exact fin u h2 tk2 pu λb o n1 x=>by
  have nb:b≠s2.heap.objs.size:=P_ (P3 x);exact far2 b o n1 nb (oth b o nb (far b o n1 (kp b o x)))
theorem xD (c:ue) (hh:A.handled=none) (I d:Rh) (ne:d≠I) (es:Rq Ru) (ep:Nat):Walks prog w A I [I,d] [I] es.size (λi v=>∃ e,es[i]?=some e/\v=ue.of e c) (λi h=>h.get? I=some (uL c.nm d i es.size ep)/\h.get? d=some (lD es ep)) where
 sub:=λb hb=>by simp at hb; simp [hb]
 frame:=λ_ _ _ st k=>⟨k I (by simp) _ st.1,k d (by simp) _ st.2⟩
 item:=λi s Q E hi st fin=>AZ c (e:=es[i]) st.1 st.2 (by simp [hi]) λh' a k=>fin _ h' s.toks ⟨es[i],by simp [hi],rfl⟩ ⟨a,k _ _ ne st.2⟩ λb o hb x=>k b o (λz=>hb (by simp [z])) x
 done:=λs Q E st fin=>yu c hh st.1 st.2 (by simp) λh' k=>fin h' s.toks λb o hb x=>k b o (λz=>hb (by simp [z])) x
 self:=λ_ _ _ _ st q=>AK c st.1 q
end
end PySem
namespace DL
open PySem PySem.Spec PyProof.Rows L2
def ua:List Int->List Int->Rr
 | [a,b],[c,d]=>decide (c < a) || (decide (a=c) && decide (d < b))
 | _,_=>false
theorem Bj (key:Nat->List Int) (h2:∀ i,∃ a b,key i=[a,b]):∀ k,argBest (λi j=>ua (key i) (key j)) k<=k/\∀ i,i<=k->ua (key i) (key (argBest (λi j=>ua (key i) (key j)) k))=false
 | 0=>⟨P4 _,λi h=>by
   have:i=0:=by omega
   subst this;obtain⟨a,b,e⟩:=h2 0
   show ua (key 0) (key 0)=false
   rw [e];simp [ua]⟩
 | k+1=>by
  obtain⟨b1,b2⟩:=Bj key h2 k;obtain⟨a,b,e1⟩:=h2 (k+1);obtain⟨c,d,e2⟩:=h2 (argBest (λi j=>ua (key i) (key j)) k)
  unfold argBest
  by_cases h:ua (key (k+1)) (key (argBest (λi j=>ua (key i) (key j)) k))=true
  ·rw [if_pos h];refine⟨P4 _,λi hi=>?_⟩
   obtain⟨x,y,e3⟩:=h2 i;rw [e1,e2] at h;rw [e1,e3]
   by_cases q:i=k+1
   ·subst q;rw [e1] at e3;injection e3 with z1 z2
    injection z2 with z2 _
    subst z1 z2;simp [ua]
   ·have z:=b2 i (by omega)
    rw [e2,e3] at z;simp only [ua,Bool.or_eq_true,QG,Q3,Bool.or_eq_false_iff,Bool.and_eq_false_iff,decide_eq_false_iff_not] at h z ⊢
    omega
  ·rw [if_neg h];refine⟨by omega,λi hi=>?_⟩
   by_cases q:i=k+1
   ·subst q; simpa using h
   ·exact b2 i (by omega)
def oX (ys:List (List Int×Rh×Rg)) (i:Nat):List Int:=(ys[i]?.map (·.1)).getD [0,0]
theorem km {ys:List (List Int×Rh×Rg)} {i:Nat} {y:List Int×Rh×Rg} (h:ys[i]?=some y):oX ys i=y.1:=by unfold oX; rw [h]; rfl
def IK:ce:=λds S k=>match ds with
 | [.ref a]=>∃ kvs ep,S a=some (.gen (.dT kvs ep))/\kvs≠[]/\(∀ p∈kvs,∃ i j,p.1=[i,j])/\∀ m∈kvs,(∀ p∈kvs,ua p.1 m.1=false)->k (gH m.1) S
 | _=>False
theorem Jc {X:Cx} {n:Nat} (hr:b3 n X.A):dw X (.builtin "max") (xn X.K IK):=by
 intro Rw s σ H xs us Q I rs h;obtain⟨ds,S,k,i,hS,r,m⟩:=h;unfold IK at r
 split at r
 ·rename_i a
  obtain⟨v,rfl,j⟩:=jl i;have ex:=aZ.mp j;subst ex;obtain⟨u,rfl,ru⟩:=lG rs;cases (show u=Value.ref a from ru)
  obtain⟨kvs,ep,g1,ne,two,r⟩:=r;obtain⟨ys,e1,r1⟩:=hS.dT g1;obtain⟨hd,z,ndk,g⟩:=cf I e1;have hun:=hr.un;have la:a < s.heap.objs.size:=P3 g;have len:=r1.length;have n0:0 < ys.length:=by rw [<- len]; exact List.length_pos_iff.mpr ne
  have tup:∀ y∈ys,∃ i j dd sl t1 t2 c,y.1=[i,j]/\s.heap.get? y.2.1=some ⟨.type "tuple",dd,.seq #[.int i t1,.int j t2] c,sl⟩:=λy hy=>by
   obtain⟨q,hq,rfl⟩:=List.mem_iff_getElem.mp hy;obtain⟨p',hp1,hp2,hp3,_⟩:=r1.at_ (i:=q) (p:=kvs[q]'(by omega)) (by simp)
   rw [Qr hq] at hp1;cases hp1;obtain⟨i,j,ee⟩:=two _ (Q6 (by omega:q < kvs.length))
   rw [ee] at hp2 hp3
   obtain⟨its,rv,⟨⟨cls,dd,data,sl⟩,h1,h2,c,h3⟩,_⟩:=I.tuple hp3;obtain⟨w1,w2,rfl,rw1,rw2⟩:=C9 rv;obtain⟨t1,rfl⟩:=rw1;obtain⟨t2,rfl⟩:=rw2;simp only at h2 h3
   subst h2 h3;exact⟨i,j,dd,sl,t1,t2,c,hp2.symm,h1⟩
  have hz:ys.length<=sizeLine:=z;have szE:(ys.map eT).toArray.size=ys.length:=by simp
  have keyOk:∀ i,∃ a b,oX ys i=[a,b]:=λi=>by
   unfold oX;cases q:ys[i]? with
   | none=>exact⟨0,0,rfl⟩
   | some y=>
    obtain⟨a,b,_,_,_,_,_,e,_⟩:=tup y (List.mem_of_getElem? q);exact⟨a,b,e⟩
  refine H9 (vn (A:=X.A.in1) hd g ?_);refine⟨s.heap.objs.size,_,_,_,_,_,λi j=>ua (oX ys i) (oX ys j),λh=>∀ y∈ys,∃ i j dd sl t1 t2 c,y.1=[i,j]/\h.get? y.2.1=some ⟨.type "tuple",dd,.seq #[.int i t1,.int j t2] c,sl⟩,rfl,
   xD .k (show X.A.in1.handled=none from hr.hd) s.heap.objs.size a (P_ la) _ ep,⟨P1 _ rfl,PZ _ g⟩,ER la,by rw [szE]; exact n0,λy hy=>?_,λS' hS' h h' ph far y hy=>?_,λi j u v s' Q' E' ph pu pv q=>?_,λv h' tk pv far=>?_⟩
  ·obtain⟨i,j,dd,sl,t1,t2,c,ee,gg⟩:=tup y hy;exact⟨i,j,dd,sl,t1,t2,c,ee,PZ _ gg⟩
  ·obtain⟨i0,j0,dd0,sl0,t10,t20,c0,ee0,gg0⟩:=tup y hy;have ly:y.2.1 < s.heap.objs.size:=P3 gg0;obtain⟨i,j,dd,sl,t1,t2,c,ee,gg⟩:=ph y hy;have sp:s.heap.objs.size < S':=Qc (P3 (P1 s.heap (o:=uL "dict_keyiterator" a 0 (ys.map eT).toArray.size ep) rfl)) hS'
   exact⟨i,j,dd,sl,t1,t2,c,ee,far _ _ (by simp; exact P_ ly) (P_ (Nat.lt_trans ly sp)) gg⟩
  ·obtain⟨e,he,rfl⟩:=pu;obtain⟨e',he',rfl⟩:=pv;simp only [Q8,Qt] at he he'
   obtain⟨y,hy,rfl⟩:=QO.mp he;obtain⟨y',hy',rfl⟩:=QO.mp he';obtain⟨a1,b1,dd,sl,t1,t2,c,ee,gg⟩:=ph y (List.mem_of_getElem? hy);obtain⟨a2,b2,dd',sl',t1',t2',c',ee',gg'⟩:=ph y' (List.mem_of_getElem? hy');have T1:s'.TypeIs (.ref y.2.1) "tuple":=⟨_,gg,rfl⟩
   simp only [km hy,km hy',ee,ee',ua] at q;have fin:Value.bool (decide (a2 < a1) || (decide (a1=a2) && decide (b2 < b1)))≠.notImplemented/\Q' (.bool (decide (a2 < a1) || (decide (a1=a2) && decide (b2 < b1)))) s':=⟨(by intro z; cases z),q⟩
   exact wpAny_richCompare_same_room (op:=.Gt) T1 ⟨_,gg',rfl⟩ F.slot_tuple_gt (call_meetsIn F.slot_tuple_gt T1 F.entry_tuple_gt (F.args_tuple_gt_2 _ _) (Np y.2.1 y'.2.1 a1 b1 a2 b2 t1 t2 t1' t2' c c' dd dd' sl sl') ⟨by show X.A.units+1+1 < cLine; omega,gg,gg',fin⟩) (by show X.A.units+1 < cLine; omega)
  ·obtain⟨e,he,rfl⟩:=pv;simp only [Q8,Qt] at he;rw [szE] at he;obtain⟨y,hy,rfl⟩:=QO.mp he;obtain⟨b1,b2⟩:=Bj (oX ys) keyOk (ys.length - 1);generalize argBest (λi j=>ua (oX ys i) (oX ys j)) (ys.length - 1)=bi at b1 b2 hy
   have lb:bi < kvs.length:=by omega
   obtain⟨q,hq,f1,f2,_⟩:=r1.at_ (i:=bi) (p:=kvs[bi]) (by simp)
   rw [hy] at hq;cases hq;have kq:=r kvs[bi] (Q6 lb) λp hp=>by
    obtain⟨x,hx,rfl⟩:=List.mem_iff_getElem.mp hp;obtain⟨q',hq',f1',_⟩:=r1.at_ (i:=x) (p:=kvs[x]) (by simp)
    have z:=b2 x (by omega)
    rw [km hq',km hy,<- f1',<- f1] at z;exact z
   have I1:aC X Rw σ H {s with heap:=s.heap.push (uL "dict_keyiterator" a 0 (ys.map eT).toArray.size ep)}:=I.kept (t':=s.toks) λc o e=>PZ _ e
   refine⟨.ref y.2.1,H,aC.turnedL (s:={s with heap:=s.heap.push (uL "dict_keyiterator" a 0 (ys.map eT).toArray.size ep)}) (t':=tk) [s.heap.objs.size] I1 far (λc hc=>?_),rfl,m _ S _ H kq (Kp.refl H) hS (sU.mpr ⟨_,rfl,f2⟩)⟩
   have e:c=s.heap.objs.size:=by simpa using hc
   subst e;exact I.fpOk (P4 _) (I.hok.fresh (P4 _))
 ·exact r.elim
end DL
namespace L2
open PySem PySem.Spec PyProof.Rows
def Ln (p a:Rh):Ro->Prop:=λh=>h.get? p=some {cls:=.type "dict_values",data:=.fields #[.ref a]}
section
variable {X:Cx} {o:Rj} {to:TE} {apos cpos pos p0:Pos}
def Nc (to:TE):TE:=fun σ H Q=>to σ H λx H1=>∃ a xs ep,x=.ref a/\H1 a=some (.ext (DL.md a xs ep))/\∀ p,H1 p=none->Q (.ref p) (bS H1 p (.ext (Ln p a)))
theorem HF (ho:PE X o to) (hbase:attributeBase o "values" X.env (eval o X.env)=eval o X.env:=by rfl) (hline:(apos.endLine == cpos.line)=true:=by rfl):PE X (.Call (.Attribute o "values" apos) [] [] cpos) (Nc to):=by
 intro Rw s σ H Q I h;refine wpAny_Call_method0_late hbase hline (cu (ho Rw s σ H _ I h) λv s1 z9=>?_)
 obtain⟨x,H1,I1,r1,a,xs,ep,ex,e1,q⟩:=z9;subst ex;cases (show v=Value.ref a from r1)
 obtain⟨hd,_,_,g⟩:=DL.cf I1 e1;refine⟨"dict","dict.values",F.plainAttrs_dict,F.slot_dict_values,F.type_dict_values,⟨_,g,rfl⟩,λb e=>by cases e; exact⟨_,g,rfl⟩,Calls.callWith_builtin rfl (PySem.evalArgs_none ?_)⟩
 refine call_meetsIn F.slot_dict_values ⟨_,g,rfl⟩ F.entry_dict_values (F.args_dict_values_1 _) (OL a _ ep hd) ⟨g,?_⟩;have hn:=I1.hok.fresh (P4 s1.heap.objs.size);have gp:(s1.heap.push {cls:=.type "dict_values",data:=.fields #[.ref a]}).get? s1.heap.objs.size=some {cls:=.type "dict_values",data:=.fields #[.ref a]}:=P1 _ rfl
 exact⟨.ref s1.heap.objs.size,_,I1.laid (o:=.ext (Ln s1.heap.objs.size a)) (t':=s1.toks) (λb o e=>PZ _ e) (P4 _) ⟨gp,⟨_,gp⟩,λh1 h2 z k=>k _ z⟩,rfl,q _ hn⟩
theorem C8 {P:Rk} {w:Rn} {p a:Rh} {es:Rq Ru} {ep:Nat}:PySem.W.KdlSrc P w "dict_values" p a es.size (λi v=>∃ e,es[i]?=some e/\v=ue.of e .v) (λh=>Ln p a h/\h.get? a=some (DL.lD es ep)) where
 type:=λs ok=>⟨_,ok.1,rfl⟩
 there:=λh ok=>⟨P3 ok.1,P3 ok.2⟩
 keep:=λh h' ok k=>⟨k p (.inl rfl) _ ok.1,k a (.inr rfl) _ ok.2⟩
 notList:=by decide
 notTuple:=by decide
 hint:=λA E s Q ok q=>PySem.W.kdl_hint_values ⟨_,ok.1,rfl⟩ q
 iter:=λA s hh ok=>⟨uL "dict_valueiterator" a 0 es.size ep,_,λE Q q=>uO ok.1 ok.2 q,xD .v hh s.heap.objs.size a (P_ (P3 ok.2)) es ep,⟨P1 _ rfl,PZ _ ok.2⟩⟩
def J8:List V->Hp->VK->Prop:=λxs H Q=>∃ p a ys ep vs,xs=[.ref p]/\H p=some (.ext (Ln p a))/\H a=some (.ext (DL.md a ys ep))/\bf vs (ys.map (·.2.2))/\∀ q,H q=none->Q (.ref q) (bS H q (.lst vs))
theorem zQ (hc:X.calm=true):dw X (.type "list") J8:=by
 intro Rw s σ H xs us Q I rs h;obtain⟨p,a,ys,ep,vs,rfl,e1,e2,rv,q⟩:=h;obtain⟨u,rfl,ru⟩:=lG rs;cases (show u=Value.ref p from ru)
 have g1:=(I.hok p _ e1).1;obtain⟨_,z,_,g2⟩:=DL.cf I e2;have hn:=I.hok.fresh (P4 s.heap.objs.size);have sz:(ys.map DL.eT).toArray.size=ys.length:=by simp
 refine PySem.W.kdl_call (C8 (p:=p) (a:=a) (es:=(ys.map DL.eT).toArray) (ep:=ep)) (I.ok.hd hc) ⟨g1,g2⟩ (by rw [sz]; exact z) λh' tk acc' c' kk gn it=>?_
 have ev:acc'.toList=ys.map (·.2.2):=by
  obtain⟨l1,l2⟩:=it;apply List.ext_getElem?;intro i;rw [Array.getElem?_toList,Qt];cases q1:acc'[i]? with
  | none=>
   have:acc'.size<=i:=by simpa using q1
   rw [l1,sz] at this;rw [List.getElem?_eq_none this]
   rfl
  | some v=>
   obtain⟨e,he,rfl⟩:=l2 i v q1;simp only [Q8,Qt] at he;obtain⟨y,hy,rfl⟩:=QO.mp he;rw [hy]
   rfl
 have ea:acc'=(ys.map (·.2.2)).toArray:=by rw [<- ev]
 refine⟨.ref s.heap.objs.size,_,I.laid (o:=.lst vs) (t':=tk) kk (P4 _) ⟨?_,_,c',rv,by rw [gn,ea]⟩,rfl,q _ hn⟩
 rw [rv.length,P6];exact z
end
end L2
namespace DL
open PySem PySem.Spec PyProof.Rows L2
theorem m9.vals {K:Fg} {H:Hp}:∀ {kvs:List (List Int×D)} {xs:List (List Int×Rh×Rg)},m9 K H kvs xs->∃ vs,bf vs (xs.map (·.2.2))/\IsDs K H (kvs.map (·.2)) vs
 | _,_,.nil=>⟨[],.nil,IsDs.nil⟩
 | _,_,.cons ⟨_,_,v,h3,h4⟩ t=>by
  obtain⟨vs,a,b⟩:=m9.vals t;exact⟨v::vs,.cons h3 a,IsDs.cons h4 b⟩
def Kz (go:DE):DE:=λL S k=>go L S λd S1=>match d with
 | .ref a=>∃ kvs ep,S1 a=some (.gen (.dT kvs ep))/\∀ p,S1 p=none->k (.ref p) (put S1 p (.lst (kvs.map (·.2))))
 | _=>False
theorem pB {X:Cx} {o:Rj} {go:DE} {apos cpos pos p0:Pos} (hc:X.calm=true) (hg:Gl X "list") (hm:X.mg "list"=none) (ho:EJ X o go) (hbase:attributeBase o "values" X.env (eval o X.env)=eval o X.env:=by rfl) (hline:(apos.endLine == cpos.line)=true:=by rfl):
  EJ X (.Call (.Name "list" p0) [.Call (.Attribute o "values" apos) [] [] cpos] [] pos) (Kz go):=
 ⟨PE.imp (pN (zQ hc) hg hm (by decide +kernel) (mU (HF ho.h hbase hline) pM rfl)) fun σ H Q ⟨L,S,k,hL,hS,h,n⟩=>up.go hL hS h λd S1 v H1 h1 k1 hL1 hS1 i1=>by
  cases d with
  | ref a=>
   obtain⟨kvs,ep,g1,h1⟩:=h1;obtain⟨xs,e1,r1⟩:=hS1.dT g1;have ex:=aZ.mp i1;subst ex;refine⟨a,xs,ep,rfl,e1,λp hp=>?_⟩
   obtain⟨vs,q1,q2⟩:=r1.vals;have kn:Kp H1 (bS H1 p (.ext (Ln p a))):=Kp.new hp;have na:a≠p:=a9 e1 hp;refine⟨p,a,xs,ep,vs,rfl,br,by rw [aF na]; exact e1,q1,λq hq=>?_⟩
   have hS2:Hs X.K (bS H1 p (.ext (Ln p a))) S1:=hS1.new hp;exact n _ _ _ _ (h1 q (hS2.free hq)) ((k1.trans kn).trans (Kp.new hq)) (hS2.newL hq (q2.kp kn)) (aZ.mpr rfl)
  | _=>exact(show False from h1).elim⟩
end DL
namespace PySem
set_option maxRecDepth 100000
namespace F
theorem args_max1K (a d:Rg):argsOk "max" ⟨[a],[("default",d)]⟩:=by unfold argsOk; kernel_rfl
end F
section
variable {prog:Rk} {w:Rn} {A:Rm} {E:Rg->Rf->Prop}
theorem FX {s:Rf} {id:Rs} {b:Builtin} {args:List Rg} {kw:List (Str×Rg)} {Q:Rg->Rf->Prop} (hk:builtinKind id=none) (hp:plainId id=true) (hb:entryFor table id=some b) (ha:argsOk id ⟨args,kw⟩)
  (hc:wpAny (model prog w) A.in1 (b ⟨args,kw⟩) (λfin s'=>match fin with
   | .done f=>(match (Except.ok f:Result) with | .ok (.ret v)=>Q v s' | .ok _=>False | .error e=>E e s')
   | .again c'=>c'.quiet=true/\codeAny (model prog w) A c' (λr s'=>match r with | .ok (.ret v)=>Q v s' | .ok _=>False | .error e=>E e s') s') E s):
  wpAny (model prog w) A (call (.builtin id) args kw) Q E s:=by
 refine wpAny_call (codeAny_call_builtin hp hb ?_);unfold checkBuiltinCall;rw [hk];unfold argsOk at ha;dsimp only
 split at ha
 ·rename_i sg eg
  rw [eg];exact wpAny_of_eq ha hc
 ·rename_i eg
  rw [eg];exact P0 hc
theorem HV {I S:Rh} {fp wr:List Rh} {n:Nat} {P:Nat->Rg->Prop} {St:Nat->Ro->Prop} {R:Result->Rf->Prop} {kw:List (Str×Rg)} (W:Walks prog w A.in1 I fp wr n P St) (bt:Nat->Nat->Rr) (hS:S∉fp) (cmp:CmpOf prog w A.in1 .Gt P bt):
  ∀ (k j:Nat) (s:Rf) (vb:Rg) (c:Nat),n - (j+1)=k->j+1<=n->St (j+1) s.heap->P (argBest bt j) vb->s.heap.get? S=some {cls:=.type "list",dict:=none,data:=.seq #[vb,vb] c,slots:=#[]}->
  (∀ v h' tk,P (argBest bt (n - 1)) v->(∀ b o,b∉wr->b≠S->s.heap.get? b=some o->h'.get? b=some o)->R (.ok (.ret v)) {s with heap:=h',toks:=tk})->codeAny (model prog w) A (.builtin "max.loop" ⟨[.ref I,.none,.ref S],kw⟩) R s:=by
 have nw:S∉wr:=λz=>hS (W.sub _ z)
 have nm:((toString "max"++toString ".loop":Rs))="max.loop":=by decide
 intro k
 induction k with
 | zero=>
  intro j s vb c hk hj st pb gS fin;have ej:n=j+1:=by omega
  refine Qz F.entry_max_loop ?_;rw [Qm Qv _];refine gt (m:=seqItems? (.ref S)) (Qy gS rfl (gt (Q0 (m:=pyNext (.ref I)) (W.done s _ _ (by rw [ej]; exact st) λh' tk far=>?_))))
  have g1:=far S _ nw gS;refine gt (m:=updateSeq S λ_=>#[]) (wpAny_updateSeq g1 rfl (gt (Q5 (P0 (fin vb _ tk (by rw [ej]; exact pb) λb o n1 n2 x=>?_)))))
  exact(Qw _ _ (Ne.symm n2)).trans (far b o n1 x)
 | succ k ih=>
  intro j s vb c hk hj st pb gS fin;have lt:j+1 < n:=by omega
  refine Qz F.entry_max_loop ?_;rw [Qm Qv _];refine gt (m:=seqItems? (.ref S)) (Qy gS rfl (gt (Q0 (m:=pyNext (.ref I)) (W.item (j+1) s _ _ lt st λv h' tk pv st1 far=>?_))))
  have g1:=far S _ nw gS;refine gt (P0 (gt (Q0 (Qq (gt (m:=richCompare .Gt v vb) (cmp (j+1) (argBest bt j) v vb _ _ _ pv pb (gt (Qq (wpAny_truthy_bool (gt (Q5 (P0 ?_))))))))))))
  by_cases hb:bt (j+1) (argBest bt j)=true
  ·rw [hb,if_pos rfl];refine gt (m:=updateSeq S λ_=>#[v,v]) (wpAny_updateSeq g1 rfl (gt (Q5 ?_)))
   have oth:∀ b o,b≠S->h'.get? b=some o->(h'.update S (Obj.mapSeq λ_=>#[v,v])).get? b=some o:=λb o n2 x=>(Qw _ _ (Ne.symm n2)).trans x
   rw [nm];refine P0 ⟨plainId_quiet Qv _,ih (j+1) _ v _ (by omega) lt (W.frame _ _ _ st1 λb hb' o x=>oth b o (λz=>hS (z▸hb')) x) (by unfold argBest; rw [hb,if_pos rfl]; exact pv) (QJ _ g1 rfl) λu h2 tk2 pu far2=>?_⟩
   exact fin u h2 tk2 pu λb o n1 n2 x=>far2 b o n1 n2 (oth b o n2 (far b o n1 x))
  ·have hb':bt (j+1) (argBest bt j)=false:=by simpa using hb
   rw [hb',if_neg P7];refine gt (Q5 ?_);rw [nm];refine P0 ⟨plainId_quiet Qv _,ih (j+1) _ vb c (by omega) lt st1 (by unfold argBest; rw [hb',if_neg P7]; exact pb) g1 λu h2 tk2 pu far2=>?_⟩
   exact fin u h2 tk2 pu λb o n1 n2 x=>far2 b o n1 n2 (far b o n1 x)
theorem GI {x d:Rg} {s:Rf} {Q:Rg->Rf->Prop} (h:wpAny (model prog w) A.in1 (pyIter x) (λit s2=>∃ I fp wr n P St bt,it=.ref I/\Walks prog w A.in1 I fp wr n P St/\St 0 s2.heap/\(∀ b∈fp,b < s2.heap.objs.size)/\CmpOf prog w A.in1 .Gt P bt/\
   (0 < n->∀ v h' tk,P (argBest bt (n - 1)) v->(∀ b o,b∉wr->s2.heap.get? b=some o->h'.get? b=some o)->Q v {s2 with heap:=h',toks:=tk})/\
   (n=0->∀ h' tk,(∀ b o,b∉wr->s2.heap.get? b=some o->h'.get? b=some o)->Q d {s2 with heap:=h',toks:=tk})) E s):wpAny (model prog w) A (call (.builtin "max") [x] [("default",d)]) Q E s:=by
 have nm:((toString "max"++toString ".loop":Rs))="max.loop":=by decide
 refine FX F.kind_max F.plain_max F.entry_max (F.args_max1K _ _) (gt (m:=Builtin.Builtins.bindParams "max" ["key","default"] 0 ⟨[],[("default",d)]⟩) (wpAny_of_eq (a:=[none,some d]) rfl (gt (P0 (gt (QD h (λit s2 h2=>?_) λ_ _ e=>e))))))
 obtain⟨I,fp,wr,n,P,St,bt,rfl,W,st,below,cmp,fin,fin0⟩:=h2;refine gt (Qs ?_);have hS:s2.heap.objs.size∉fp:=λm=>QV _ (below _ m)
 have nw:s2.heap.objs.size∉wr:=λm=>hS (W.sub _ m)
 have kp:∀ b o,s2.heap.get? b=some o->(s2.heap.push {cls:=.type "list",data:=.seq #[]}).get? b=some o:=λb o x=>PZ _ x
 have gS:(s2.heap.push {cls:=.type "list",data:=.seq #[]}).get? s2.heap.objs.size=some {cls:=.type "list",dict:=none,data:=.seq #[] 0,slots:=#[]}:=P1 _ rfl
 have st0:=W.frame 0 _ _ st λb _ o x=>kp b o x
 rw [nm];refine P0 ⟨plainId_quiet Qv _,Qz F.entry_max_loop ?_⟩;rw [Qm Qv _]
 by_cases n0:0 < n
 ·refine gt (m:=seqItems? (.ref s2.heap.objs.size)) (Qy gS rfl (gt (Q0 (m:=pyNext (.ref I)) (W.item 0 _ _ _ n0 st0 λv h' tk pv st1 far=>?_))))
  have g1:=far _ _ nw gS;have oth:∀ b o,b≠s2.heap.objs.size->h'.get? b=some o->(h'.update s2.heap.objs.size (Obj.mapSeq λ_=>#[v,v])).get? b=some o:=λb o n2 x=>(Qw _ _ (Ne.symm n2)).trans x
  refine gt (P0 (gt (m:=updateSeq s2.heap.objs.size λ_=>#[v,v]) (wpAny_updateSeq g1 rfl ?_)))
  rw [nm];refine P0 ⟨plainId_quiet Qv _,HV W bt hS cmp _ 0 _ v _ rfl n0 (W.frame _ _ _ st1 λb hb o x=>oth b o (λz=>hS (z▸hb)) x) pv (QJ _ g1 rfl) λu h2 tk2 pu far2=>?_⟩
  exact fin n0 u h2 tk2 pu λb o n1 x=>by
   have nb:b≠s2.heap.objs.size:=P_ (P3 x);exact far2 b o n1 nb (oth b o nb (far b o n1 (kp b o x)))
 ·have e0:n=0:=by omega
  refine gt (m:=seqItems? (.ref s2.heap.objs.size)) (Qy gS rfl (gt (Q0 (m:=pyNext (.ref I)) (W.done _ _ _ (by rw [e0]; exact st0) λh' tk far=>?_))))
  have q:=fin0 e0 h' tk λb o n1 x=>far b o n1 (kp b o x)
  repeat (any_goals (first | assumption | wp_step))
end
end PySem
namespace L2
open PySem PySem.Spec PyProof.Rows
section
variable {X:Cx}
def IV (X:Cx) (f:Rg) (nm:Str) (r:List V->V->Hp->VK->Prop):Prop:=
 ∀ (Rw:List (Rh×Rv)) (s:Rf) (σ:St) (H:Hp) (xs:List V) (us:List Rg) (d:V) (u:Rg) (Q:VK),aC X Rw σ H s->bf xs us->aP d u->r xs d H Q->wpAny (model X.prog X.w) X.A (call f us [(nm,u)]) (EP X Rw σ Q) X.xe s
theorem BW (hc:X.calm=true):IV X (.builtin "max") "default" (λxs d H Q=>∃ (p:Rh) (ns:List Int),xs=[.ref p]/\jv X.K H p (ns.map V.int)/\(ns=[]->Q d H)/\∀ m:Int,m∈ns->(∀ x∈ns,x<=m)->Q (.int m) H):=by
 intro Rw s σ H xs us d ud Q I r rd h;obtain⟨p,ns,rfl,hq,q0,q⟩:=h;obtain⟨u,rfl,rx⟩:=lG r;cases rx;obtain⟨its,rv,pl,hz⟩:=I.list hq;have hl:=rv.length;rw [P6] at hl;have hlt:=pl.lt;have hh:X.A.in1.handled=none:=I.ok.hd hc;have hv:∀ i v,its.toArray[i]?=some v->∃ t,v=Value.int (ns.getD i 0) t:=λi v h=>tt (i:=i) (v:=v) rv (by rw [Q8] at h; exact h)
 refine GI (wpAny_pyIter_list pl.isList ?_);refine⟨s.heap.objs.size,_,_,_,_,_,λi j=>decide (ns.getD i 0 > ns.getD j 0),rfl,Walks.list hh s.heap.objs.size p (P_ hlt) its.toArray,⟨⟨_,P1 _ rfl,rfl,rfl⟩,Heap.IsList.at pl.isList λo e=>PZ _ e⟩,ER hlt,CmpOf.ints_gt _ hv,λn0 v h' tk hP kk=>?_,λn0 h' tk kk=>?_⟩
 ·rw [P8,<- hl] at hP n0
  obtain⟨t,rfl⟩:=hv _ _ hP;obtain⟨b1,b2⟩:=tF (λi=>ns.getD i 0) (ns.length - 1)
  have hm:ns.getD (argBest (λi j=>decide (ns.getD i 0 > ns.getD j 0)) (ns.length - 1)) 0∈ns:=by
   have hlt2:argBest (λi j=>decide (ns.getD i 0 > ns.getD j 0)) (ns.length - 1) < ns.length:=by omega
   rw [QA,Qr hlt2];exact Q6 hlt2
  refine tX I (show aP (.int _) (.int _ t) from⟨t,rfl⟩) (q _ hm λx hx=>?_) h' tk kk
  obtain⟨i,hi,rfl⟩:=List.mem_iff_getElem.mp hx;have:=b2 i (by omega)
  rw [QA,Qr hi] at this;exact this
 ·rw [P8,<- hl] at n0;exact tX I rd (q0 (Rc.mp n0)) h' tk kk
theorem Cq {x nm:Str} {p pos kp:Pos} {e ed:Rj} {es:List Rj} {t:TA} {id:Rs} {td:TE} {r:List V->V->Hp->VK->Prop} (hc:IV X (.builtin id) nm r) (hg:Gl X x) (hm:X.mg x=none) (hv:bootBuiltins x=some (.builtin id)) (ha:PA X (e::es) t) (hd:PE X ed td) (hn:x≠"__name__":=by decide) (hdb:(x == ("__debug__":Str))=false:=by decide)
  (he:backTo pos (starEach (e::es) X.env)=(false,eval e X.env)::backTo pos (starEach es X.env):=by rfl) (hpl:(backTo pos (starEach (e::es) X.env)).any (·.1)=false:=by rfl):
  PE X (.Call (.Name x p) (e::es) [⟨some nm,ed,kp⟩] pos) (fun σ H Q=>t σ H λxs H1=>td σ H1 λd H2=>r xs d H2 Q):=by
 intro Rw s σ H Q I h;refine wpAny_Call_Name_kw (pL I hg hm hv ?_ hn hdb);refine callWith_kw (cu (ha pos Rw s σ H _ I h) λus s1 ⟨vs,H1,I1,r1,q1⟩=>kws_cons (cu (hd Rw s1 σ H1 _ I1 q1) λu s2 ⟨d,H2,I2,r2,q2⟩=>kws_nil ?_)) he hpl
 exact hc Rw s2 σ H2 vs us d u Q I2 r1 r2 q2
end
end L2
namespace DL
open PySem PySem.Spec PyProof.Rows L2
def Lz (t:DA):DE:=λL S k=>t L S λds S1=>match ds with
 | [.ref a]=>∃ ns:List Int,S1 a=some (.lst (ns.map D.int))/\(ns=[]->k .non S1)/\∀ m:Int,m∈ns->(∀ x∈ns,x<=m)->k (.int m) S1
 | _=>False
section
variable {X:Cx} {x:Str} {p pos kp:Pos} {e ed:Rj} {t:DA}
theorem Ic (hg:Gl X x) (hm:X.mg x=none) (hv:bootBuiltins x=some (.builtin "max")) (ha:AJ X [e] t) (hd:EJ X ed (dC .non)) (hc:X.calm=true:=by rfl) (hn:x≠"__name__":=by decide) (hdb:(x == ("__debug__":Str))=false:=by decide)
  (he:backTo pos (starEach [e] X.env)=(false,eval e X.env)::backTo pos (starEach [] X.env):=by rfl) (hpl:(backTo pos (starEach [e] X.env)).any (·.1)=false:=by rfl):
  EJ X (.Call (.Name x p) [e] [⟨some "default",ed,kp⟩] pos) (Lz t):=
 ⟨PE.imp (Cq (BW hc) hg hm hv ha.h hd.h hn hdb he hpl) fun σ H Q z9=>by obtain⟨L,S,k,hL,hS,h,n⟩:=z9; exact yA.go hL hS h λds S1 vs H1 h1 k1 hL1 hS1 i1=>⟨L,S1,λd S2=>d=.non/\S2=S1,hL1,hS1,⟨rfl,rfl⟩,λd S2 v H2 ⟨e1,e2⟩ k2 hS2 i2=>by
  subst e1 e2
  split at h1
  ·rename_i a
   obtain⟨ns,z,r0,r⟩:=h1;obtain⟨x,rfl,j1⟩:=jl (i1.kp k2);have e1:=aZ.mp j1;subst e1;obtain⟨vs,q1,j⟩:=hS2.lst z;have e:=j_ j;subst e;exact⟨_,ns,rfl,jv.of q1,λe0=>n _ _ _ _ (r0 e0) (k1.trans k2) hS2 i2,λm a1 a2=>n _ _ _ _ (r m a1 a2) (k1.trans k2) hS2 (isInt.mpr rfl)⟩
  ·exact h1.elim⟩⟩
end
end DL
namespace PySem
open Builtin DL
def NE (A:Rm) (s:Rf) (ys:List (List Int×Rh×Rg)):List (List Int×Rh×Rg)->Rr->Prop
 | [],r=>r=true
 | x::xs,r=>(atKey ys x.1=none/\r=false)\/∃ p e r',atKey ys x.1=some p/\SeqAt.EqAt A s x.2.2 p.2 e/\NE A s ys xs r'/\r=(e && r')
section
variable {prog:Rk} {w:Rn} {A:Rm} {E:Rg->Rf->Prop}
theorem L6 {nm:Rs} {a b:Rh} {s:Rf} {xs ys:List (List Int×Rh×Rg)} {ep ep':Nat} {r:Rr} {Q:Rr->Rf->Prop} (ha:(a == sysModules)=false) (hb:(b == sysModules)=false) (ga:s.heap.get? a=some (lD (xs.map eT).toArray ep)) (gb:s.heap.get? b=some (lD (ys.map eT).toArray ep'))
  (ka:∀ x∈xs,(tupleKind (intKind prog w)).is s.heap x.1 x.2.1) (kb:∀ x∈ys,(tupleKind (intKind prog w)).is s.heap x.1 x.2.1) (nb:(ys.map (·.1)).Nodup) (hu:(tupleKind (intKind prog w)).room A) (len:xs.length=ys.length) (hit:NE A s ys xs r) (h:Q r s):
  wpAny (model prog w) A (Builtin.Dict.samePairs nm a b) Q E s:=by
 have na:¬ (a == sysModules)=true:=by rw [ha]; decide
 have nb':¬ (b == sysModules)=true:=by rw [hb]; decide
 unfold Builtin.Dict.samePairs Builtin.Dict.showsAll;rw [if_neg na,if_neg nb'];refine gt (P0 (gt (P0 (gt (QR ga rfl ?_)))));dsimp only;refine gt (QR gb rfl ?_);have sz:(xs.map eT).toArray.size=(ys.map eT).toArray.size:=by simp [len]
 rw [if_neg (by rw [sz]; simp)]
 refine gt (wpAny_dictEpoch ga rfl (gt ?_));rw [Std.Legacy.Range.forIn_eq_forIn_range'];have sz2:(xs.map eT).toArray.size=xs.length:=by simp
 simp only [Std.Legacy.Range.size,Nat.sub_zero,Nat.add_sub_cancel,Nat.div_one,sz2];refine wpAny_forIn_list _ (λav q s'=>s'=s/\q=(none,())/\∃ pre suf,xs=pre++suf/\av=List.range' pre.length suf.length/\NE A s ys suf r) _ ?_ ?_ _ _ ⟨rfl,rfl,[],xs,rfl,rfl,hit⟩
 ·rintro i av q s' ⟨rfl,rfl,pre,suf,ex,er,ht⟩;cases suf with
  | nil=>cases er
  | cons x suf=>
   rw [Qf,List.range'_succ] at er;injection er with e1 e2
   subst e1;have gx:(xs.map eT).toArray[pre.length]?=some (eT x):=by simp [ex]
   refine gt (QR ga rfl ?_);rw [gx];have mx:x∈xs:=by rw [ex]; simp
   refine gt (Qq (gt (wpAny_dictFind_heap (knd:=tupleKind (intKind prog w)) (k:=x.1) (a:=x.2.1) (xs:=ys) hu (ka x mx) gb rfl rfl kb nb (λno=>?_) (λj p hj=>?_))))
   ·rcases ht with ⟨_,er⟩ | ⟨p,e,r',hp,_⟩
    ·subst er;exact P0 (P0 (P0 h))
    ·rw [atKey_none_of_get no] at hp;cases hp
   ·rcases ht with ⟨hn,_⟩ | ⟨p',e,r',hp,he,ht',er⟩
    ·rw [atKey_of_get nb hj] at hn;cases hn
    ·rw [atKey_of_get nb hj] at hp;cases hp;have gy:(ys.map eT).toArray[j]?=some (eT (x.1,p)):=by simp [hj]
     refine gt (QR gb rfl ?_);rw [gy];refine Qq (he prog w _ _ ?_);cases e with
     | false=>
      rw [Bool.false_and] at er;subst er;exact P0 (P0 h)
     | true=>
      rw [Bool.true_and] at er;subst er;refine gt (wpAny_dictEpoch ga rfl ?_);rw [if_neg (by simp)]
      exact P0 ⟨rfl,rfl,pre++[x],suf,by rw [ex]; simp,by simp [e2],ht'⟩
 ·rintro q s' ⟨rfl,rfl,pre,suf,ex,er,ht⟩;cases suf with
  | cons x suf=>rw [Qf,List.range'_succ] at er; cases er
  | nil=>
   have ht:r=true:=ht;subst ht;exact P0 h
end
end PySem
namespace DL
open PySem PySem.Spec PyProof.Rows L2
def Hx (kvs':List (List Int×D)):List (List Int×D)->Rr->Prop
 | [],r=>r=true
 | p::ps,r=>(fy kvs' p.1=none/\r=false)\/∃ d e r',fy kvs' p.1=some d/\qE 6 p.2 d=some e/\Hx kvs' ps r'/\r=(e && r')
section
variable {X:Cx} {Rw:List (Rh×Rv)} {σ:L2.St} {H:Hp} {s:Rf}
theorem FP (I:aC X Rw σ H s) {A:Rm} (hu:A.units+6 < cLine) {kvs':List (List Int×D)} {ys:List (List Int×Rh×Rg)} (r2:m9 X.K H kvs' ys):∀ {kvs:List (List Int×D)} {xs:List (List Int×Rh×Rg)} {r:Rr},m9 X.K H kvs xs->Hx kvs' kvs r->NE A s ys xs r
 | _,_,_,.nil,h=>h
 | p::ps,q::qs,r,.cons c t,h=>by
  obtain⟨e1,_,v,rv,iv⟩:=c;rcases h with ⟨hn,er⟩ | ⟨d,e,r',hd,he,ht,er⟩
  ·rcases r2.get p.1 with ⟨_,g⟩ | ⟨_,_,_,_,g,_⟩
   ·exact .inl ⟨by rw [<- e1]; exact g,er⟩
   ·rw [hn] at g;cases g
  ·rcases r2.get p.1 with ⟨g,_⟩ | ⟨d',b,u,v2,g,hp,rv2,iv2⟩
   ·rw [hd] at g;cases g
   ·rw [hd] at g;cases g;exact .inr ⟨(b,u),e,r',by rw [<- e1]; exact hp,(vJ I 6 A p.2 d v v2 q.2.2 u e hu he iv iv2 rv rv2).1,FP I hu r2 t ht,er⟩
end
end DL
namespace PySem
open Builtin DL
section
variable {prog:Rk} {w:Rn} {A:Rm} {E:Rg->Rf->Prop}
theorem Nh {a b:Rh} {s:Rf} {r:Rr} {Q:Rg->Rf->Prop} (T1:s.TypeIs (.ref a) "dict") (T2:s.TypeIs (.ref b) "dict") (hu:A.units < cLine) (sp:∀ (Q':Rr->Rf->Prop),Q' r s->wpAny (model prog w) A.in1 (Builtin.Dict.samePairs "dict.__eq__" a b) Q' E s) (h:Q (.bool r) s):
  wpAny (model prog w) A (compareOp .Eq (.ref a) (.ref b)) Q E s:=by
 refine wpAny_richCompare_same_room (op:=.Eq) T1 T2 F.slot_dict_eq (QN F.slot_dict_eq T1 F.entry_dict_eq ?_ (F.args_dict_eq_2 _ _)) hu;refine gt (m:=Builtin.Dict.dictSlotArgs "__eq__" ⟨[.ref a,.ref b],[]⟩) ?_
 unfold Builtin.Dict.dictSlotArgs;refine gt (wpAny_notOrdered_dict T1 (P0 (gt (wpAny_isInstance (T:="dict") T2 F.sub_dict_dict ?_))))
 rw [if_neg (by decide)]
 refine gt (P0 (gt (P0 (gt (sp _ ?_)))));exact P0 ⟨_,rfl,(by intro z; cases z),by cases r <;> exact h⟩
theorem MO {a b:Rh} {s:Rf} {r:Rr} {Q:Rg->Rf->Prop} (T1:s.TypeIs (.ref a) "dict") (T2:s.TypeIs (.ref b) "dict") (hu:A.units < cLine) (sp:∀ (Q':Rr->Rf->Prop),Q' r s->wpAny (model prog w) A.in1 (Builtin.Dict.samePairs "dict.__ne__" a b) Q' E s) (h:Q (.bool (!r)) s):
  wpAny (model prog w) A (compareOp .NotEq (.ref a) (.ref b)) Q E s:=by
 refine wpAny_richCompare_same_room (op:=.NotEq) T1 T2 F.slot_dict_ne (QN F.slot_dict_ne T1 F.entry_dict_ne ?_ (F.args_dict_ne_2 _ _)) hu;refine gt (m:=Builtin.Dict.dictSlotArgs "__ne__" ⟨[.ref a,.ref b],[]⟩) ?_
 unfold Builtin.Dict.dictSlotArgs;refine gt (wpAny_notOrdered_dict T1 (P0 (gt (wpAny_isInstance (T:="dict") T2 F.sub_dict_dict ?_))))
 rw [if_neg (by decide)]
 refine gt (P0 (gt (P0 (gt (sp _ ?_)))));exact P0 ⟨_,rfl,(by intro z; cases z),by cases r <;> exact h⟩
theorem Ki {nm:Rs} {a b:Rh} {s:Rf} {es es':Rq Ru} {ep ep':Nat} {Q:Rr->Rf->Prop} (ha:(a == sysModules)=false) (hb:(b == sysModules)=false) (ga:s.heap.get? a=some (lD es ep)) (gb:s.heap.get? b=some (lD es' ep')) (n:es.size≠es'.size) (h:Q false s):
  wpAny (model prog w) A (Builtin.Dict.samePairs nm a b) Q E s:=by
 have na:¬ (a == sysModules)=true:=by rw [ha]; decide
 have nb':¬ (b == sysModules)=true:=by rw [hb]; decide
 unfold Builtin.Dict.samePairs Builtin.Dict.showsAll;rw [if_neg na,if_neg nb'];refine gt (P0 (gt (P0 (gt (QR ga rfl ?_)))));dsimp only;refine gt (QR gb rfl ?_);rw [if_pos (by simpa using n)]
 exact gt (wpAny_rule (P0 h))
end
end PySem
namespace DL
open PySem PySem.Spec PyProof.Rows L2
theorem zI {p q:Rk} {u v:Rn}:∀ {k:List Int} {l:List Rg},PySem.ItemsAre (intKind p u) k l->PySem.ItemsAre (intKind q v) k l:=by
 intro k l h
 induction h with
 | nil=>exact .nil
 | cons a _ ih=>exact .cons a ih
def Jq (kvs kvs':List (List Int×D)) (r:Rr):Prop:=(kvs.length≠kvs'.length/\r=false)\/(kvs.length=kvs'.length/\Hx kvs' kvs r)
section
variable {X:Cx} {Rw:List (Rh×Rv)} {σ:L2.St} {H:Hp} {s:Rf}
theorem IR (I:aC X Rw σ H s) {S:DH} (hS:Hs X.K H S) {a b:Rh} {kvs kvs':List (List Int×D)} {ep ep':Nat} {r:Rr} {A:Rm} (hu:A.units+7 < cLine) (g1:S a=some (.gen (.dT kvs ep))) (g2:S b=some (.gen (.dT kvs' ep'))) (h:Jq kvs kvs' r) {nm:Rs} {E:Rg->Rf->Prop} {prog:Rk} {w:Rn}:
  ∀ (Q':Rr->Rf->Prop),Q' r s->wpAny (model prog w) A.in1 (Builtin.Dict.samePairs nm a b) Q' E s:=λQ' hq=>by
 obtain⟨xs,w1,r1⟩:=hS.dT g1;obtain⟨ys,w2,r2⟩:=hS.dT g2;obtain⟨hd1,_,n1,t1⟩:=cf I w1;obtain⟨hd2,_,n2,t2⟩:=cf I w2;have l1:=r1.length;have l2:=r2.length;rcases h with ⟨hl,rfl⟩ | ⟨hl,ht⟩
 ·exact Ki hd1 hd2 t1 t2 (by simp; omega) hq
 ·obtain⟨_,_,_,_,_,_,_,k1,_⟩:=sj I w1 r1;obtain⟨_,_,_,_,_,_,_,k2,_⟩:=sj I w2 r2;have ct:∀ k a,(tupleKind (intKind X.prog X.w)).is s.heap k a->(tupleKind (intKind prog w)).is s.heap k a:=λk a h=>by
   obtain⟨o,its,n,h1,h2,h3,h4⟩:=h;exact⟨o,its,n,h1,h2,h3,zI h4⟩
  exact L6 hd1 hd2 t1 t2 (λx hx=>ct _ _ (k1 x hx)) (λx hx=>ct _ _ (k2 x hx)) n2 (tupleKind_room_in1 (by omega)) (by omega) (FP I (by show A.units+1+6 < cLine; omega) r2 r1 ht) hq
end
def Io:D2:=λd e S k=>match d,e with
 | .ref a,.ref b=>∃ kvs ep kvs' ep' r,S a=some (.gen (.dT kvs ep))/\S b=some (.gen (.dT kvs' ep'))/\Jq kvs kvs' r/\k (.bl r) S
 | _,_=>False
def IC:D2:=λd e S k=>match d,e with
 | .ref a,.ref b=>∃ kvs ep kvs' ep' r,S a=some (.gen (.dT kvs ep))/\S b=some (.gen (.dT kvs' ep'))/\Jq kvs kvs' r/\k (.bl (!r)) S
 | _,_=>False
theorem KE {X:Cx} {n:Nat} (hr:b3 n X.A):jf X (compareOp .Eq) (mM X.K Io):=by
 intro Rw s σ H x y v u Q I rx ry h;obtain⟨d,e,S,k,i1,i2,hS,r,m⟩:=h;unfold Io at r
 split at r
 ·rename_i a b
  obtain⟨kvs,ep,kvs',ep',r0,g1,g2,hl,r⟩:=r;have e1:=aZ.mp i1;have e2:=aZ.mp i2;subst e1 e2;cases (show v=Value.ref a from rx)
  cases (show u=Value.ref b from ry)
  obtain⟨xs,w1,r1⟩:=hS.dT g1;obtain⟨ys,w2,r2⟩:=hS.dT g2;have hu:=hr.units;exact Nh ⟨_,(cf I w1).2.2.2,rfl⟩ ⟨_,(cf I w2).2.2.2,rfl⟩ (by omega) (IR I hS (by omega) g1 g2 hl) ⟨.bl r0,H,I,rfl,om m hS r (cU.mpr rfl)⟩
 ·exact r.elim
theorem JB {X:Cx} {n:Nat} (hr:b3 n X.A):jf X (compareOp .NotEq) (mM X.K IC):=by
 intro Rw s σ H x y v u Q I rx ry h;obtain⟨d,e,S,k,i1,i2,hS,r,m⟩:=h;unfold IC at r
 split at r
 ·rename_i a b
  obtain⟨kvs,ep,kvs',ep',r0,g1,g2,hl,r⟩:=r;have e1:=aZ.mp i1;have e2:=aZ.mp i2;subst e1 e2;cases (show v=Value.ref a from rx)
  cases (show u=Value.ref b from ry)
  obtain⟨xs,w1,r1⟩:=hS.dT g1;obtain⟨ys,w2,r2⟩:=hS.dT g2;have hu:=hr.units;exact MO ⟨_,(cf I w1).2.2.2,rfl⟩ ⟨_,(cf I w2).2.2.2,rfl⟩ (by omega) (IR I hS (by omega) g1 g2 hl) ⟨.bl (!r0),H,I,rfl,om m hS r (cU.mpr rfl)⟩
 ·exact r.elim
end DL
namespace PySem
open Builtin DL
def subM (m:Nat):List Nat:=(List.range 7).filter λi=>m.testBit i
def yT (led:Rr) (m:Nat):SetTable:={mask:=if (subM m).length < 5 then 7 else 31,place:=(subM m).toArray,dummies:=#[],finger:=0,led:=led,moves:=if (subM m).length < 5 then 0 else 1,plain:=true}
def B9 (led:Rr) (m v:Nat):SetTable:={yT led m with place:=(subM (m ||| 2 ^ v)).toArray}
def v0 (m v:Nat):Nat:=((subM m).filter (· < v)).length
def DV (led:Rr) (m v:Nat):Rr:=
 (m.testBit v && (m ||| 2 ^ v) == m) || (!m.testBit v && (yT led m).freeSlot v == some (v,false) && decide ((yT led m).put v=(B9 led m v,v0 m v)) && (B9 led m v).fits (subM (m ||| 2 ^ v)).length && decide (SetTable.insertAt (subM m).toArray (v0 m v) v=(subM (m ||| 2 ^ v)).toArray) && decide (m ||| 2 ^ v < 128) &&
  (if (B9 led m v).tooFull then decide ((B9 led m v).relaid ((subM (m ||| 2 ^ v)).map fun(i:Nat)=>(i:Int)).toArray (SetTable.grown (subM (m ||| 2 ^ v)).length)=some (yT led (m ||| 2 ^ v),Array.range (subM (m ||| 2 ^ v)).length)) && (yT led (m ||| 2 ^ v)).fits (subM (m ||| 2 ^ v)).length else decide (B9 led m v=yT led (m ||| 2 ^ v))))
theorem Gc:∀ m∈List.range 128,∀ v∈List.range 7,(DV true m v && DV false m v)=true:=by decide +kernel
def IT (m i:Nat):Nat:=if i=0 then 0 else(subM m).getD (i - 1) 0+1
theorem F6:∀ m∈List.range 128,∀ i∈List.range 8,i<=(subM m).length->SetTable.below (subM m).toArray (IT m i)=i:=by decide +kernel
theorem yi:∀ m∈List.range 128,(subM m).length<=7/\((yT true m).fits (subM m).length && (yT false m).fits (subM m).length)=true:=by decide +kernel
theorem AU (led:Rr) {m v:Nat} (hm:m < 128) (hv:v < 7):DV led m v=true:=by
 have z:=Gc m (QY.mpr hm) v (QY.mpr hv);rw [QG] at z;cases led
 ·exact z.2
 ·exact z.1
theorem NW (led:Rr) {m:Nat} (hm:m < 128):(yT led m).fits (subM m).length=true:=by
 have z:=(yi m (QY.mpr hm)).2;rw [QG] at z;cases led
 ·exact z.2
 ·exact z.1
theorem oB {m v:Nat}:v∈subM m↔v < 7/\m.testBit v=true:=by simp [subM]
theorem nC {α:Type} (l:List α) (p:Nat) (x:α):SetTable.insertAt l.toArray p x=(l.take p++x::l.drop p).toArray:=by
 unfold SetTable.insertAt;apply Array.ext';simp;exact List.take_of_length_le (by simp)
theorem vk {α:Type}:∀ l:List α,(List.range l.length).filterMap (λi=>l[i]?)=l
 | []=>rfl
 | a::l=>by
  rw [Qf,List.range_succ_eq_map,List.filterMap_cons];simp only [List.getElem?_cons_zero,List.filterMap_map]
  congr 1
  exact vk l
theorem zM {α:Type} (xs:Rq α):(Array.range xs.size).filterMap (λi=>xs[i]?)=xs:=by
 apply Array.ext';rw [Array.toList_filterMap,Array.toList_range];have:=vk xs.toList
 simpa using this
abbrev Sx:=Nat×Tok
def kS (xs:List Sx):Rq (Int×Rg):=(xs.map λx=>((x.1:Int),Value.int x.1 x.2)).toArray
def BM (led:Rr) (m:Nat) (xs:List Sx) (ep:Nat):Rv:={cls:=.type "set",dict:=none,data:=.set (kS xs) ep (yT led m),slots:=#[]}
def qT (h:Ro) (a:Rh) (led:Rr) (m:Nat):Prop:=m < 128/\∃ xs ep,xs.map (·.1)=subM m/\h.get? a=some (BM led m xs ep)
theorem fV (xs:List Sx):(kS xs).size=xs.length:=by simp [kS]
theorem sh {v:Nat} (hv:v < 7):hashInt (v:Int)=v:=by
 have:∀ v∈List.range 7,hashInt ((v:Nat):Int)=(v:Int):=by decide
 exact this v (QY.mpr hv)
section
variable {prog:Rk} {w:Rn} {A:Rm} {E:Rg->Rf->Prop} {s:Rf}
theorem CS {xs:List Sx} (h:∀ x∈xs,x.1 < 7):ElemsOf (intKind prog w) (kS xs).toList:=λe he=>by
 simp only [kS,P5] at he;obtain⟨x,hx,rfl⟩:=he;exact⟨⟨x.1,by simp [intKind,Value.isInt],(sh (h x hx)).symm⟩,rfl⟩
theorem BK (led:Rr) {m v:Nat} {xs:List Sx} {tk:Tok} (hm:m < 128) (hv:v < 7) (hx:xs.map (·.1)=subM m) (ht:m.testBit v=false):
  ∃ xs',xs'.map (·.1)=subM (m ||| 2 ^ v)/\layNew (yT led m) (kS xs) (v:Int) (.int v tk)=(kS xs',B9 led m v,false,false)/\m ||| 2 ^ v < 128/\
   (((B9 led m v).tooFull=true/\relayAll (B9 led m v) (kS xs') (SetTable.grown (kS xs').size)=(kS xs',yT led (m ||| 2 ^ v),false))\/((B9 led m v).tooFull=false/\B9 led m v=yT led (m ||| 2 ^ v))):=by
 have c:=AU led hm hv;unfold DV at c;rw [ht] at c;simp only [Bool.false_and,Bool.false_or,Bool.not_false,Bool.true_and,QG,beq_iff_eq,Q3] at c;obtain⟨⟨⟨⟨⟨c1,c2⟩,c3⟩,c4⟩,c5⟩,c6⟩:=c;have e0:xs.take (v0 m v)++(v,tk)::xs.drop (v0 m v)=xs.take (v0 m v)++(v,tk)::xs.drop (v0 m v):=rfl;generalize hx':xs.take (v0 m v)++(v,tk)::xs.drop (v0 m v)=xs' at e0;have m':xs'.map (·.1)=subM (m ||| 2 ^ v):=by
  rw [nC] at c4;rw [<- hx',List.map_append,Qe,List.map_take,List.map_drop,hx];have c4:=congrArg Array.toList c4
  simpa using c4
 have ei:SetTable.insertAt (kS xs) (v0 m v) ((v:Int),Value.int v tk)=kS xs':=by
  unfold kS;rw [nC,<- hx',List.map_append,Qe,List.map_take,List.map_drop]
 have sz:(kS xs').size=(subM (m ||| 2 ^ v)).length:=by rw [fV,<- m',P6]
 refine⟨xs',m',?_,c5,?_⟩
 ·unfold layNew;rw [c1];dsimp only;rw [c2];dsimp only;rw [ei,sz,c3];unfold SetTable.orStandIn;rw [c3]
  rfl
 ·by_cases tf:(B9 led m v).tooFull=true
  ·rw [if_pos tf] at c6;simp only [QG,Q3] at c6;refine .inl ⟨tf,?_⟩;have eh:(kS xs').map (·.1)=((subM (m ||| 2 ^ v)).map fun(i:Nat)=>(i:Int)).toArray:=by
    apply Array.ext';simp only [kS,<- m',List.map_toArray,QH]
    rfl
   unfold relayAll;rw [eh,sz,c6.1];dsimp only;rw [<- sz,zM,sz,c6.2];have cv:coversAll (Array.range (subM (m ||| 2 ^ v)).length) (subM (m ||| 2 ^ v)).length=true:=by
    unfold coversAll;rw [List.isPerm_iff,Array.toList_range]
   rw [cv]
   rfl
  ·rw [if_neg tf] at c6;simp only [Q3] at c6;exact .inr ⟨by simpa using tf,c6⟩
theorem HX {m:Nat} {xs:List Sx} (hx:xs.map (·.1)=subM m):∀ x∈xs,x.1 < 7:=λx h=>(oB.mp (by rw [<- hx]; exact List.mem_map_of_mem h)).1
theorem sK {m:Nat} (hm:m < 128):(subM m).length<=7:=(yi m (QY.mpr hm)).1
theorem mE (led:Rr) {m:Nat} {xs:List Sx} (hm:m < 128) (hx:xs.map (·.1)=subM m):(yT led m).fits (kS xs).size=true:=by
 rw [fV,<- P6 (f:=(·.1)),hx];exact NW led hm
theorem mI {m:Nat} {xs:List Sx} (hm:m < 128) (hx:xs.map (·.1)=subM m):(kS xs).size<=7:=by
 rw [fV,<- P6 (f:=(·.1)),hx];exact sK hm
theorem Db {h:Ro} {a:Rh} {led:Rr} {m ep:Nat} {xs:List Sx} (es:Rq (Int×Rg)) (t:SetTable) {es0:Rq (Int×Rg)} {t0:SetTable} (g:h.get? a=some {cls:=.type "set",dict:=none,data:=.set es0 ep t0,slots:=#[]}):
  (h.update a (Obj.putSet es t)).get? a=some {cls:=.type "set",dict:=none,data:=.set es (ep+1) t,slots:=#[]}:=QJ _ g rfl
set_option maxHeartbeats 1600000 in
theorem JM {a:Rh} {led:Rr} {m v:Nat} {tk:Tok} {Q:Rr->Rf->Prop} (hS:qT s.heap a led m) (hv:v < 7)
  (h:∀ b h',Heap.SameBut a s.heap h'->qT h' a led (m ||| 2 ^ v)->Q b {s with heap:=h'}):wpAny (model prog w) A (setAddHashed a (.int v tk) (hashInt v)) Q E s:=by
 obtain⟨hm,xs,ep,hx,ho⟩:=hS;have hf:=mE led hm hx;have lt:=HX hx;have hel:ElemsOf (intKind prog w) (kS xs).toList:=CS lt;have sm:=mI hm hx;have hb:(kS xs).size < scanBound:=by unfold scanBound; omega
 unfold setAddHashed setAddHashedIn;refine Qq (gt (wpAny_setState_of ho rfl hf ?_));dsimp only;rw [byScan_of (knd:=intKind prog w) (x:=.int v tk) rfl hb hel];simp only [↓reduceIte];unfold setAddByScan;refine gt (gt (wpAny_rule (gt (wpAny_setScan_of (knd:=intKind prog w) (k:=(v:Int)) (by simp [intKind,Value.isInt]) ho rfl hf hel ?_))))
 cases hr:List.findIdx? (λe=>(intKind prog w).is (v:Int) e.2) (kS xs).toList with
 | some j=>
  dsimp only;have ht:m.testBit v=true:=by
   obtain⟨hj,hp,_⟩:=List.findIdx?_eq_some_iff_getElem.mp hr;have me:=Q6 hj;generalize (kS xs).toList[j]=e at hp me
   simp only [kS,P5] at me;obtain⟨x,hx1,rfl⟩:=me;have:(x.1:Int)=v:=by simpa [intKind,Value.isInt] using hp
   have e2:x.1=v:=by omega
   exact e2▸(oB.mp (hx▸List.mem_map_of_mem (f:=(·.1)) hx1)).2
  have c:=AU led hm hv;unfold DV at c;rw [ht] at c;simp only [Bool.true_and,Bool.not_true,Bool.false_and,Bool.or_false,beq_iff_eq] at c;refine P0 (P0 ?_);have z:=h false s.heap (Heap.SameBut.refl a s.heap) ⟨by rw [c]; exact hm,xs,ep,by rw [c]; exact hx,by rw [c]; exact ho⟩
  cases s;exact z
 | none=>
  dsimp only;have ht:m.testBit v=false:=by
   cases e:m.testBit v with
   | false=>rfl
   | true=>
    have me:v∈xs.map (·.1):=by rw [hx]; exact oB.mpr ⟨hv,e⟩
    obtain⟨x,h1,h2⟩:=P5.mp me;have z:=List.findIdx?_eq_none_iff.mp hr ((x.1:Int),Value.int x.1 x.2) (by simp only [kS,P5]; exact⟨x,h1,rfl⟩)
    have h2:x.1=v:=h2;simp [intKind,Value.isInt,h2] at z
  obtain⟨xs',m',eL,lt',alt⟩:=BK led (tk:=tk) hm hv hx ht;have sm':=mI lt' m';have bl:(kS xs').size<=sizeLine:=fits_of_scanBound (by unfold scanBound; omega)
  rw [sh hv,eL];dsimp only;refine gt (P0 ?_);rw [if_pos (show (B9 led m v).plain=true from rfl),hashByValue_scannable 8 (x:=.int v tk) rfl]
  refine gt (P0 ?_);rw [if_pos (show plainKind (.int v tk)=true from rfl)]
  refine gt (wpAny_storeSet_of ho rfl ?_ bl);have g1:=Db (led:=led) (m:=m) (xs:=xs) (kS xs') (B9 led m v) ho;rcases alt with ⟨tf,er⟩ | ⟨tf,et⟩
  ·rw [tf];simp only [Bool.not_false,Bool.true_and,↓reduceIte];rw [er];refine gt (P0 (gt (wpAny_storeSet_of g1 rfl ?_ bl)));have g2:=Db (led:=led) (m:=m) (xs:=xs) (kS xs') (yT led (m ||| 2 ^ v)) g1
   exact P0 (P0 (h _ _ ((Re _ a _).trans (Re _ a _)) ⟨lt',xs',_,m',g2⟩))
  ·rw [tf];simp only [Bool.not_false,Bool.true_and,Q9,↓reduceIte];rw [et] at g1 ⊢;exact P0 (P0 (h _ _ (Re _ a _) ⟨lt',xs',_,m',g1⟩))
end
end PySem
namespace PySem
open PySem.Spec Builtin DL
def Gg (val:Nat->Nat):Nat->Nat
 | 0=>0
 | i+1=>Gg val i ||| 2 ^ val i
theorem FH (led:Rr):yT led 0=.fresh 0 0 led:=by cases led <;> rfl
abbrev Gj (led:Rr):Rv:={cls:=.type "set",dict:=none,data:=.set #[] 0 (.fresh 0 0 led)}
section
variable {prog:Rk} {w:Rn} {A:Rm} {R:Result->Rf->Prop} {I:Rh} {fp wr:List Rh} {G:Rq GenState->Rq GenState->Prop} {n:Nat} {P:Nat->Rg->Prop} {St:Nat->Rf->Prop}
theorem qT.keep {h h':Ro} {a:Rh} {led:Rr} {m:Nat} (x:qT h a led m) (k:∀ o,h.get? a=some o->h'.get? a=some o):qT h' a led m:=by
 obtain⟨hm,xs,ep,hx,g⟩:=x;exact⟨hm,xs,ep,hx,k _ g⟩
theorem HH (W:WalksS prog w A.in1 I fp wr G n P St) (S:Rh) (hSf:S∉fp) (led:Rr) (val:Nat->Nat) (hv:∀ i,val i < 7) (hval:∀ i v,P i v->∃ t,v=.int (val i:Nat) t):
  ∀ (k i:Nat) (s:Rf),n - i=k->i<=n->St i s->qT s.heap S led (Gg val i)->(∀ s',Moved (S::wr) G s s'->qT s'.heap S led (Gg val n)->R (.ok (.ret .none)) s')->
   codeAny (model prog w) A (.builtin "set.update.loop" ⟨[.ref S,.ref I],[]⟩) R s:=by
 have hSw:S∉wr:=λh=>hSf (W.sub _ h)
 have hsub:∀ b∈wr,b∈S::wr:=λb hb=>Qb _ hb
 intro k
 induction k with
 | zero=>
  intro i s hk hi hst hS hR;have hin:i=n:=by omega
  subst hin;refine Qz PyProof.Rows.F.entry_set_update_loop ?_;rw [Qm PyProof.Rows.F.plain_set_update_loop _]
  show wpAny _ A.in1 (pyNext (.ref I) >>= _) _ _ s
  refine gt (W.done s _ _ hst λs' hm=>?_)
  show wpAny _ A.in1 (ret Value.none) _ _ s'
  exact P0 (hR s' (hm.mono hsub) (hS.keep λo e=>hm.heap S _ hSw e))
 | succ k ih=>
  intro i s hk hi hst hS hR;have hlt:i < n:=by omega
  refine Qz PyProof.Rows.F.entry_set_update_loop ?_;rw [Qm PyProof.Rows.F.plain_set_update_loop _]
  show wpAny _ A.in1 (pyNext (.ref I) >>= _) _ _ s
  refine gt (W.item i s _ _ hlt hst λv s' hP hst' hm=>?_)
  obtain⟨t,rfl⟩:=hval i v hP;have hS':qT s'.heap S led (Gg val i):=hS.keep λo e=>hm.heap S _ hSw e
  refine gt (Qq ?_);unfold setAdd;refine Qq (gt ((intKind prog w).pyHash (k:=(val i:Nat)) (by simp [intKind,Value.isInt]) ?_))
  refine JM (s:={s' with toks:=s'.toks+1}) hS' (hv i) λb h' hsb hS2=>?_
  refine P0 ⟨plainId_quiet PyProof.Rows.F.plain_set_update_loop _,ih (i+1) _ (by omega) hlt (W.frame _ s' _ _ hst' (Nat.le_succ _) λb hb o e=>?_) hS2 λs'' hm'' hS''=>?_⟩
  ·rw [hsb.2 b (λh:b=S=>hSf (by rw [<- h]; exact hb))]
   exact e
  ·refine hR s'' (Moved.trans W.gtrans ((hm.mono hsub).then_heap (Nat.le_succ _) λb o hb e=>?_) hm'') hS''
   rw [hsb.2 b (λh:b=S=>hb (by rw [h]; exact Qa))]
   exact e
end
section
variable {prog:Rk} {w:Rn} {A:Rm} {E:Rg->Rf->Prop} {s:Rf}
theorem um (a:Rg) {Q₁:Rg->Rf->Prop} (h:Q₁ (.ref s.heap.objs.size) {s with heap:=s.heap.push (Gj (!w.params.followText "set-order"))}):
  codeAny (model prog w) A (.call (.builtin "set.__new__") ⟨[.type "set",a],[]⟩) (wants Q₁ E) s:=by
 refine codeAny_of_tree ?_
 show wpAny _ A.in1 (do checkBuiltinCall "set.__new__" ⟨[.type "set",a],[]⟩; again (.builtin "set.__new__" ⟨[.type "set",a],[]⟩)) _ _ s
 refine gt (wpAny_of_eq (F.newCall_set_1 a) (P0 ⟨plainId_quiet F.plain_set_new _,Qz F.entry_set_new ?_⟩));rw [Qm F.plain_set_new _];unfold Builtin.«set.__new__» Builtin.Frozenset.newClass;have hsub:=sub_set_self;obtain⟨hp,g,d,tk,os⟩:=s;dsimp only
 wp_walk
 refine wpAny_askSetting (P0 ?_);dsimp only;simp only [newObj];exact gt (wpAny_alloc (P0 (P0 h)))
set_option maxRecDepth 100000 in
set_option maxHeartbeats 3200000 in
theorem tZ {l:Rh} {items:Rq Rg} {val:Nat->Nat} {led:Rr} {R:Result->Rf->Prop} (hh:A.handled=none) (hl:s.heap.IsList l items) (hv:∀ i,val i < 7) (hval:∀ (i:Nat) (v:Rg),items[i]?=some v->∃ t,v=.int (val i:Nat) t)
  (h:∀ (h':Ro) (tk:Nat),qT h' s.heap.objs.size led (Gg val items.size)->(∀ b o,b < s.heap.objs.size->s.heap.get? b=some o->h'.get? b=some o)->R (.ok (.ret Value.none)) {s with heap:=h',toks:=tk}):
  wpAny (model prog w) A (Builtin.«set.__init__» ⟨[.ref s.heap.objs.size,.ref l],[]⟩) (λfin s'=>∃ v,fin=Fin.done (Flow.ret v)/\R (.ok (.ret v)) s') (λe s'=>R (.error e) s') {s with heap:=s.heap.push (Gj led)}:=by
 obtain⟨⟨ocls,odict,odata,oslots⟩,hol,hcl,nl,hdl⟩:=id hl;simp only at hcl hdl
 subst hcl hdl;have hS:(s.heap.push (Gj led)).get? s.heap.objs.size=some (Gj led):=P1 _ rfl;have hol':=PZ (h:=s.heap) (Gj led) hol;have s1:=F.sub_list_set;have s2:=F.sub_list_frozenset;have hne:(Value.type "list" == Value.type "dict")=false:=by decide
 unfold Builtin.«set.__init__» noKeywords Builtin.Frozenset.updateFrom;generalize hPI:pyIter=PI
 wp_walk
 subst hPI;have hl1:(s.heap.push (Gj led)).IsList l items:=⟨_,hol',rfl,nl,rfl⟩;have hlt:l < s.heap.objs.size:=P3 hol;have hsz:(s.heap.push (Gj led)).objs.size=s.heap.objs.size+1:=QW _ _;refine wpAny_pyIter_list hl1 (gt (wpAny_runValue ?_));refine HH ((Walks.list (by simp [hh]) _ l (by rw [hsz]; exact P_ (Nat.lt_succ_of_lt hlt)) items).toS) s.heap.objs.size
  (by rw [hsz]; simp only [P9,Qh,or_false,not_or]; exact⟨P_ (Nat.lt_succ_self _),Nat.ne_of_gt hlt⟩) led val hv hval (items.size - 0) 0 _ (by omega) (QU _)
  ⟨⟨_,P1 _ rfl,rfl,rfl⟩,hl1.push _⟩ ?setA ?setB
 case setA=>
  exact⟨by show 0 < 128; decide,[],0,by show []=subM 0; decide,by rw [PZ _ hS]; show some (Gj led)=some (BM led 0 [] 0); unfold BM; rw [FH]; rfl⟩
 case setB=>
  rintro⟨h',g',d',tk',os'⟩ hm hS';cases (show g'=s.gens from hm.gens)
  cases (show d'=s.drawn from hm.drawn)
  cases (show os'=s.os from hm.os)
  refine P0 (P0 ⟨_,rfl,h h' tk' hS' λb o hlb e=>?_⟩)
  refine hm.heap b o ?_ (PZ _ (PZ _ e));rw [hsz];simp only [P9,Qh,or_false,not_or];exact⟨P_ hlb,P_ (Nat.lt_succ_of_lt hlb)⟩
set_option maxRecDepth 100000 in
set_option maxHeartbeats 3200000 in
theorem sS {l:Rh} {items:Rq Rg} {val:Nat->Nat} {Q:Rg->Rf->Prop} (hh:A.handled=none) (hl:s.heap.IsList l items) (hv:∀ i,val i < 7) (hval:∀ (i:Nat) (v:Rg),items[i]?=some v->∃ t,v=.int (val i:Nat) t)
  (h:∀ (h':Ro) (tk:Nat),qT h' s.heap.objs.size (!w.params.followText "set-order") (Gg val items.size)->(∀ b o,b < s.heap.objs.size->s.heap.get? b=some o->h'.get? b=some o)->Q (.ref s.heap.objs.size) {s with heap:=h',toks:=tk}):
  wpAny (model prog w) A (call (.type "set") [.ref l]) Q E s:=by
 obtain⟨c,tl,g1⟩:=F.called_set.mro;have g2:=F.called_set.made;have g3:=F.called_set.sub;have g4:=F.called_set.notType;have g5:=F.called_set.canCreate;have g6:=F.typeCall_set_1 (.ref l);refine wpAny_call (codeAny_of_tree (show wpAny _ _ (callAny (.type "set") _) _ _ _ from P0 ⟨Code.quiet_builtin _ (by decide +kernel),Qz F.entry_type_call ?_⟩))
 rw [Around.under_plain (weight_type_call_type "set" [.ref l] []) rfl]
 repeat (any_goals (first | assumption | wp_step))
 generalize hL:(!w.params.followText "set-order")=led at h
 refine codeAny_mono (um (.ref l) (E:=E) (Q₁:=λv t=>v=.ref s.heap.objs.size/\t={s with heap:=s.heap.push (Gj led)}) ⟨rfl,by rw [hL]⟩) λr t hr=>?_
 match r,hr with
 | .error e,hr=>exact hr
 | .ok (.ret v),⟨e1,e2⟩=>
  subst e1 e2;have hT:Shared.TypeIs {s with heap:=s.heap.push (Gj led)} (.ref s.heap.objs.size) "set":=⟨_,P1 _ rfl,rfl⟩
  have g7:=F.called_set.init.lookup;have g8:=F.called_set.init.bind (.ref s.heap.objs.size)
  repeat (any_goals (first | assumption | wp_step))
  refine codeAny_mono (codeAny_call_builtin (R:=wants (λr t=>r=.none/\∃ h' tk,t={s with heap:=h',toks:=tk}/\Q (.ref s.heap.objs.size) {s with heap:=h',toks:=tk}) E) F.called_set.init.plain F.entry_set_init (check_set_init_1 hT ?_)) λr2 t2 hr2=>?_
  ·refine QD (tZ (R:=wants (λr t=>r=.none/\∃ h' tk,t={s with heap:=h',toks:=tk}/\Q (.ref s.heap.objs.size) {s with heap:=h',toks:=tk}) E) (by simp [hh]) hl hv hval λh' tk a b=>⟨rfl,h',tk,rfl,h h' tk a b⟩) ?_ ?_
   ·rintro fin t ⟨v,rfl,q⟩;exact q
   ·exact λ_ _ e=>e
  ·match r2,hr2 with
   | .error e,hr2=>exact hr2
   | .ok (.ret v),⟨e1,h',tk,e2,q⟩=>
    subst e1 e2
    repeat (any_goals (first | assumption | wp_step))
end
end PySem
namespace PySem
open Builtin DL
theorem iJ:Slot "set_iterator" "__next__" "set_iterator.__next__":=
 .of (owner:="set_iterator") (n:="__next__") (by rw [typeLookup_type,builtinLookup_eq_fast]; kernel_rfl) (by decide +kernel) (by decide +kernel) (by decide +kernel)
  (by first | exact .inl (by decide +kernel) | exact .inr (by decide +kernel)) (by rw [isSubtype_type]; kernel_rfl)
theorem nh:entryFor table "set_iterator.__next__"=some Builtin.«set_iterator.__next__»:=entryFor_of_tree (by kernel_rfl)
theorem xy:Manifest.owners.lookup (String.ofList ['r','o','t','a','r','e','t','i','_','t','e','s'].reverse)=some Manifest.sig_set_iterator:=by kernel_rfl
theorem oH (a:Rg):argsOk "set_iterator.__next__" ⟨[a],[]⟩:=by
 unfold argsOk; rw [signature?_of (id:="set_iterator.__next__") (n:=['_','_','t','x','e','n','_','_']) (o:=['r','o','t','a','r','e','t','i','_','t','e','s']) (by kernel_rfl) xy]; kernel_rfl
theorem pe:Slot "set_iterator" "__iter__" "set_iterator.__iter__":=
 .of (owner:="set_iterator") (n:="__iter__") (by rw [typeLookup_type,builtinLookup_eq_fast]; kernel_rfl) (by decide +kernel) (by decide +kernel) (by decide +kernel)
  (by first | exact .inl (by decide +kernel) | exact .inr (by decide +kernel)) (by rw [isSubtype_type]; kernel_rfl)
theorem uk:entryFor table "set_iterator.__iter__"=some Builtin.«dict_keyiterator.__iter__»:=entryFor_alias (id':="dict_keyiterator.__iter__") (by kernel_rfl) rfl (by decide +kernel) (by kernel_rfl)
theorem wd (a:Rg):argsOk "set_iterator.__iter__" ⟨[a],[]⟩:=by
 unfold argsOk; rw [signature?_of (id:="set_iterator.__iter__") (n:=['_','_','r','e','t','i','_','_']) (o:=['r','o','t','a','r','e','t','i','_','t','e','s']) (by kernel_rfl) xy]; kernel_rfl
theorem uE:entryFor table "set.__iter__"=some Builtin.«frozenset.__iter__»:=entryFor_alias (id':="frozenset.__iter__") (by kernel_rfl) rfl (by decide +kernel) (by kernel_rfl)
theorem tq {α:Type}:∀ (l:List α) (i:Nat) (h:i < l.length),(l[i]::l.eraseIdx i).Perm l
 | _::_,0,_=>List.Perm.refl _
 | x::l,i+1,h=>(List.Perm.swap _ _ _).trans (List.Perm.cons x (tq l i (by simpa using h)))
theorem EC {α:Type} (next:Nat->Nat):∀ (fuel k:Nat) (left:List α) (out:Rq α),fuel=left.length->(pickOrder.go next fuel k left out).toList.Perm (out.toList++left)
 | 0,_,[],out,_=>by
  unfold pickOrder.go;rw [Qn]
 | fuel+1,k,x::left,out,e=>by
  have lt:next k % (x::left).length < (x::left).length:=Nat.mod_lt _ (by simp)
  unfold pickOrder.go;rw [Qr lt];refine(EC next fuel (k+1) _ _ (by rw [List.length_eraseIdx_of_lt lt]; omega)).trans ?_
  rw [Array.toList_push,List.append_assoc];exact List.Perm.append_left _ (tq _ _ lt)
theorem Ck {α:Type} (next:Nat->Nat) (xs:Rq α):(pickOrder next xs).toList.Perm xs.toList:=EC next xs.size 0 xs.toList #[] rfl
def KN (sl i:Nat) (a:Rh) (n ep:Nat):Rv:={cls:=.type "set_iterator",dict:=none,data:=.fields #[.int sl 0,.int i 0,.ref a,.int n 0,.int ep 0],slots:=#[]}
def xf (w:Rn) (a:Rh) (ep:Nat) (xs:List Sx):Rq (Int×Rg):=if w.params.followText "set-order" then pickOrder (w.params.setOrder a ep) (kS xs) else kS xs
theorem sN (w:Rn) (a:Rh) (ep:Nat) (xs:List Sx):(xf w a ep xs).toList.Perm (kS xs).toList:=by
 unfold xf
 split
 ·exact Ck _ _
 ·exact List.Perm.refl _
theorem lO (w:Rn) (a:Rh) (ep:Nat) (xs:List Sx):(xf w a ep xs).size=xs.length:=by
 rw [<- fV,<- Q4,<- Q4];exact(sN w a ep xs).length_eq
section
variable {prog:Rk} {w:Rn} {A:Rm} {E:Rg->Rf->Prop} {s:Rf} {a it:Rh} {m ep sl i:Nat} {xs:List Sx}
theorem rP {Q:Ri (Rg×Nat)->Rf->Prop} (hm:m < 128) (hx:xs.map (·.1)=subM m) (ho:s.heap.get? a=some (BM (!w.params.followText "set-order") m xs ep)) (hsl:w.params.followText "set-order"=false->sl=IT m i) (hi:i<=xs.length)
  (h:∀ sl',(w.params.followText "set-order"=false->sl'=IT m (i+1))->Q ((xf w a ep xs)[i]?.map λe=>(e.2,sl')) s):wpAny (model prog w) A (setNext a sl i ep) Q E s:=by
 have hf:=mE (!w.params.followText "set-order") hm hx
 unfold setNext;refine gt (wpAny_setState_of ho rfl hf ?_);dsimp only;unfold setsByText;refine gt (gt (wpAny_askSetting (P0 ?_)));dsimp only;cases hF:w.params.followText "set-order" with
 | true=>
  rw [show (model prog w).w.params.followText "set-order"=true from hF,if_pos rfl,if_neg (by simp)]
  unfold setWalk;refine gt (gt (wpAny_setState_of ho rfl hf ?_));dsimp only;unfold setsByText;refine gt (gt (wpAny_askSetting (P0 ?_)));dsimp only;rw [show (model prog w).w.params.followText "set-order"=true from hF,if_pos rfl]
  refine gt (wpAny_askSetting (P0 (P0 ?_)));have z:=h sl (by rw [hF]; intro q; cases q)
  unfold xf at z;rw [hF,if_pos rfl] at z;exact z
 | false=>
  rw [show (model prog w).w.params.followText "set-order"=false from hF,if_neg (by simp)]
  refine wpAny_ite_split (λz=>absurd (show false=true from z) P7) (λ_=>?_)
  refine gt (wpAny_ite_split (λz=>absurd (show (false && !(kS xs).isEmpty)=true from z) (by simp)) (λ_=>P0 ?_))
  have l8:i < 8:=by
   have:=mI hm hx;rw [fV] at this;omega
  have ln:(subM m).length=xs.length:=by rw [<- hx,P6]
  have eb:SetTable.below (subM m).toArray sl=i:=by
   rw [hsl hF];exact F6 m (QY.mpr hm) i (QY.mpr l8) (by omega)
  have ew:xf w a ep xs=kS xs:=by unfold xf; rw [hF]; rfl
  rw [ew] at h
  show wpAny _ _ (pure (match (kS xs)[SetTable.below (subM m).toArray sl]?,(subM m).toArray[SetTable.below (subM m).toArray sl]? with | some (_,x),some j=>some (x,j+1) | _,_=>none)) _ _ _
  rw [eb];have z:=h (IT m (i+1)) λ_=>rfl
  by_cases lt:i < xs.length
  ·have e1:(kS xs)[i]?=some ((xs[i].1:Int),Value.int xs[i].1 xs[i].2):=by simp [kS,lt]
   have e2:(subM m).toArray[i]?=some ((subM m).getD i 0):=by
    rw [Q8,QA,Qr (by omega)]
    rfl
   rw [e1] at z ⊢;rw [e2];exact P0 z
  ·have e1:(kS xs)[i]?=none:=by simp [kS]; omega
   rw [e1] at z ⊢;exact P0 z
theorem Pn {Q:Rg->Rf->Prop} (hm:m < 128) (hx:xs.map (·.1)=subM m) (led:Rr) (ho:s.heap.get? a=some (BM led m xs ep)) (h:Q (.ref s.heap.objs.size) {s with heap:=s.heap.push (KN 0 0 a xs.length ep)}):wpAny (model prog w) A (pyIter (.ref a)) Q E s:=by
 have T:s.TypeIs (.ref a) "set":=⟨_,ho,rfl⟩
 have hf:=mE led hm hx;refine wpAny_pyIter_slot T F.slot_set_iter (QN F.slot_set_iter T uE ?_ (F.args_set_iter_1 _));unfold Builtin.«frozenset.__iter__» Builtin.Frozenset.slot0 slotArgs;simp only [List.isEmpty_nil,Bool.not_true,Q9,↓reduceIte,bind_assoc,Ra,bne_self_eq_false];unfold Builtin.Frozenset.addrOf Builtin.Frozenset.sizeOf;refine gt (P0 ?_)
 try dsimp only
 refine gt (P0 ?_);refine gt (gt (wpAny_setEntries_of ho rfl hf (P0 ?_)));unfold setDrawn setsByText;refine gt (gt (wpAny_setState_of ho rfl hf ?_));refine gt (gt (wpAny_askSetting (P0 (P0 ?_))));refine wpAny_ite_split (λz=>absurd (show (!w.params.followText "set-order" && false)=true from z) (by simp)) (λ_=>gt (P0 (gt (wpAny_setEpoch_of ho rfl hf ?_))))
 refine gt (Qs (P0 ⟨_,rfl,"set_iterator",_,⟨_,P1 _ rfl,rfl⟩,iJ.lookup,?_⟩))
 rw [fV];exact h
theorem Pl (it a:Rh) (m ep sl i:Nat) (xs:List Sx) (hm:m < 128) (hx:xs.map (·.1)=subM m) (hsl:w.params.followText "set-order"=false->sl=IT m i) (e:Int×Rg) (he:(xf w a ep xs)[i]?=some e):
  MeetsIn prog w (Builtin.«set_iterator.__next__» ⟨[.ref it],[]⟩) (λ_ R s=>s.heap.get? it=some (KN sl i a xs.length ep)/\s.heap.get? a=some (BM (!w.params.followText "set-order") m xs ep)/\
   ∀ sl' h',(w.params.followText "set-order"=false->sl'=IT m (i+1))->h'.get? it=some (KN sl' (i+1) a xs.length ep)->(∀ b o,b≠it->s.heap.get? b=some o->h'.get? b=some o)->R (.ok (.ret e.2)) {s with heap:=h'}):=
 .of_wp λA R s h=>by
  obtain⟨hp,g,dr,tk,os⟩:=s;obtain⟨h1,h2,h⟩:=h;have hf:=mE (!w.params.followText "set-order") hm hx
  have hi:i<=xs.length:=by
   have:=(Array.getElem?_eq_some_iff.mp he).1;rw [lO] at this;omega
  unfold Builtin.«set_iterator.__next__» slotArgs;simp only [List.isEmpty_nil,Bool.not_true,Q9,↓reduceIte,bind_assoc,Ra,bne_self_eq_false];refine gt (P0 ?_);refine gt (wpAny_fieldsOf h1 rfl ?_)
  show wpAny _ _ (setEntries a >>= _) _ _ _
  refine gt (wpAny_setEntries_of h2 rfl hf ?_);refine wpAny_ite_split (λz=>absurd z (by rw [fV]; simp)) (λ_=>?_)
  refine gt (rP (sl:=sl) (i:=i) (ep:=ep) hm hx h2 hsl hi λsl' q=>?_)
  rw [he];refine gt (m:=setField (.ref it) 0 (rawInt sl')) (Qp h1 (by simp) λk1 a1 b1=>gt (m:=setField (.ref it) 1 (rawInt ((i:Int)+1))) (Qp a1 (by simp) λk2 a2 b2=>P0 ⟨_,rfl,h sl' k2 q a2 (λb o nb x=>b2.extBut b o nb (b1.extBut b o nb x))⟩))
theorem O8 (it a:Rh) (m ep sl i:Nat) (xs:List Sx) (hm:m < 128) (hx:xs.map (·.1)=subM m) (hsl:w.params.followText "set-order"=false->sl=IT m i) (hi:i=xs.length):
  MeetsIn prog w (Builtin.«set_iterator.__next__» ⟨[.ref it],[]⟩) (λA R s=>A.handled=none/\s.heap.get? it=some (KN sl i a xs.length ep)/\s.heap.get? a=some (BM (!w.params.followText "set-order") m xs ep)/\
   (∀ h' e,Heap.ExtBut it s.heap h'->(∃ o,h'.get? e=some o/\o.cls=.type "StopIteration")->R (.error (.ref e)) {s with heap:=h'})):=
 .of_wp λA R s h=>by
  obtain⟨hp,g,dr,tk,os⟩:=s;obtain⟨h0,h1,h2,h⟩:=h;have hf:=mE (!w.params.followText "set-order") hm hx
  have he:(xf w a ep xs)[i]?=none:=by rw [Array.getElem?_eq_none_iff,lO]; omega
  unfold Builtin.«set_iterator.__next__» slotArgs;simp only [List.isEmpty_nil,Bool.not_true,Q9,↓reduceIte,bind_assoc,Ra,bne_self_eq_false];refine gt (P0 ?_);refine gt (wpAny_fieldsOf h1 rfl ?_)
  show wpAny _ _ (setEntries a >>= _) _ _ _
  refine gt (wpAny_setEntries_of h2 rfl hf ?_);refine wpAny_ite_split (λz=>absurd z (by rw [fV]; simp)) (λ_=>?_)
  refine gt (rP (sl:=sl) (i:=i) (ep:=ep) hm hx h2 hsl (by omega) λsl' q=>?_)
  rw [he];refine gt (m:=setField (.ref it) 2 .none) (Qp h1 (by simp) λk1 a1 b1=>?_)
  wp_walk
  unfold raiseNew;refine gt (wpAny_handled ?_);rw [show A.in1.handled=none from h0]
  exact gt (P0 (wpAny_throw (h _ _ (λb o nb x=>PZ _ (PZ _ (b1.extBut b o nb x))) ⟨_,P1 _ rfl,rfl⟩)))
theorem Ib {n:Nat} {Q:Rg->Rf->Prop} (h1:s.heap.get? it=some (KN sl i a n ep)) (h:Q (.ref it) s):wpAny (model prog w) A (pyIter (.ref it)) Q E s:=by
 have T:s.TypeIs (.ref it) "set_iterator":=⟨_,h1,rfl⟩
 refine wpAny_pyIter_slot T pe (QN pe T uk ?_ (wd _));exact P0 ⟨_,rfl,"set_iterator",_,T,iJ.lookup,h⟩
theorem Dt (hh:A.handled=none) (I a:Rh) (ne:a≠I) (m ep:Nat) (xs:List Sx) (hm:m < 128) (hx:xs.map (·.1)=subM m):Walks prog w A I [I,a] [I] xs.length (λi v=>∃ e,(xf w a ep xs)[i]?=some e/\v=e.2)
  (λi h=>(∃ sl,(w.params.followText "set-order"=false->sl=IT m i)/\h.get? I=some (KN sl i a xs.length ep))/\h.get? a=some (BM (!w.params.followText "set-order") m xs ep)) where
 sub:=λb hb=>by simp at hb; simp [hb]
 frame:=λ_ _ _ ⟨⟨sl,q,st⟩,st2⟩ k=>⟨⟨sl,q,k I (by simp) _ st⟩,k a (by simp) _ st2⟩
 item:=λi s Q E hi ⟨⟨sl,q,st⟩,st2⟩ fin=>by
  have lt:i < (xf w a ep xs).size:=by rw [lO]; exact hi
  have he:(xf w a ep xs)[i]?=some (xf w a ep xs)[i]:=by simp [lt]
  exact jn iJ ⟨_,st,rfl⟩ nh (oH _) (Pl I a m ep sl i xs hm hx q _ he) ⟨st,st2,λsl' h' q' g k=>fin _ h' s.toks ⟨_,he,rfl⟩ ⟨⟨sl',q',g⟩,k _ _ ne st2⟩ λb o hb x=>k b o (λz=>hb (by simp [z])) x⟩
 done:=λs Q E ⟨⟨sl,q,st⟩,st2⟩ fin=>jn iJ ⟨_,st,rfl⟩ nh (oH _) (O8 I a m ep sl _ xs hm hx q rfl) ⟨hh,st,st2,λh' e x z9=>by obtain⟨o,y1,y2⟩:=z9; exact⟨⟨e,o,rfl,y1,y2⟩,fin h' s.toks λb o hb z=>x b o (λy=>hb (by simp [y])) z⟩⟩
 self:=λ_ _ _ _ ⟨⟨sl,q,st⟩,st2⟩ z=>Ib st z
theorem Hb {r:Rh} {Q:Rr->Rf->Prop} (hT:s.TypeIs (.ref r) "set") (h:Q false s):wpAny (model prog w) A (Builtin.List.listLengthHint (.ref r)) Q E s:=by
 unfold Builtin.List.listLengthHint;refine gt (wpAny_specialOf hT F.slot_set_len.lookup ?_);generalize hid:("set.__len__":Rs)=id0
 wp_delta
 rw [show splitId id0=some ("set","__len__") from by subst hid; decide +kernel]
 subst hid;refine gt (wpAny_isInstance (T:="set") (b:=true) hT (by rw [isSubtype_type]; kernel_rfl) ?_)
 refine wpAny_ite_split (λhab=>absurd hab (by decide)) (λ_=>?_)
 refine wpAny_ite_split (λ_=>?_) (λhab=>absurd (by decide +kernel) hab)
 refine gt (wpAny_typeOf hT ?_);exact P0 h
theorem Kg (hm:m < 128) (hx:xs.map (·.1)=subM m):PySem.W.KdlSrc prog w "set" a a xs.length (λi v=>∃ e,(xf w a ep xs)[i]?=some e/\v=e.2) (λh=>h.get? a=some (BM (!w.params.followText "set-order") m xs ep)) where
 type:=λs ok=>⟨_,ok,rfl⟩
 there:=λh ok=>⟨P3 ok,P3 ok⟩
 keep:=λh h' ok k=>k a (.inl rfl) _ ok
 notList:=by decide
 notTuple:=by decide
 hint:=λA E s Q ok q=>Hb ⟨_,ok,rfl⟩ q
 iter:=λA s hh ok=>⟨KN 0 0 a xs.length ep,_,λE Q q=>Pn hm hx _ ok q,Dt hh s.heap.objs.size a (P_ (P3 ok)) m ep xs hm hx,⟨0,λ_=>rfl,P1 _ rfl⟩,PZ _ ok⟩
end
end PySem
namespace PySem
open Builtin DL PyProof.Rows
section
variable {prog:Rk} {w:Rn} {A:Rm} {E:Rg->Rf->Prop} {s:Rf} {a it:Rh} {m ep:Nat} {xs:List Sx}
theorem vM {R:Result->Rf->Prop} (hh:A.handled=none) (hm:m < 128) (hx:xs.map (·.1)=subM m) (ho:s.heap.get? a=some (BM (!w.params.followText "set-order") m xs ep))
  (h:∀ h' tk acc c',(∀ b o,s.heap.get? b=some o->h'.get? b=some o)->h'.get? s.heap.objs.size=some {cls:=.type "list",dict:=none,data:=.seq acc c',slots:=#[]}->ItemsOf (λi v=>∃ e,(xf w a ep xs)[i]?=some e/\v=e.2) acc xs.length->R (.ok (.ret (.ref s.heap.objs.size))) {s with heap:=h',toks:=tk}):
  codeAny (model prog w) A (.builtin "proto.collect" ⟨[.ref a],[]⟩) R s:=by
 have la:=P3 ho;have hz:xs.length<=sizeLine:=by
  have:=mI hm hx;rw [fV] at this;exact fits_of_scanBound (by unfold scanBound; omega)
 refine Qz F.entry_proto_collect ?_;rw [Qm F.plain_proto_collect _]
 show wpAny _ A.in1 (newList [] >>= λl=>again (.builtin "list.__iadd__" ⟨[l,.ref a],[]⟩)) _ _ s
 refine gt (Qs ?_);refine P0 ⟨plainId_quiet F.plain_list_iadd _,Qz F.entry_list_iadd ?_⟩;rw [Qm F.plain_list_iadd _];have ho1:(s.heap.push {cls:=.type "list",data:=.seq ([]:List Rg).toArray}).get? a=some (BM (!w.params.followText "set-order") m xs ep):=PZ _ ho
 have hS1:(s.heap.push {cls:=.type "list",data:=.seq ([]:List Rg).toArray}).get? s.heap.objs.size=some {cls:=.type "list",data:=.seq #[] 0}:=P1 _ rfl
 exact PySem.W.kdl_extend (R:=R) (s:={s with heap:=s.heap.push {cls:=.type "list",data:=.seq ([]:List Rg).toArray}}) (Kg hm hx) hh ho1 s.heap.objs.size (Nat.ne_of_gt la) (Nat.ne_of_gt la) _ 0 hS1 (λh' tk acc c' kk gn itm=>h h' tk acc c' (λb o e=>kk b o (P_ (P3 e)) (PZ _ e)) gn itm) hz
theorem zC {Q:List Rg->Rf->Prop} (hh:A.handled=none) (hm:m < 128) (hx:xs.map (·.1)=subM m) (ho:s.heap.get? a=some (BM (!w.params.followText "set-order") m xs ep))
  (h:∀ h' tk acc,(∀ b o,s.heap.get? b=some o->h'.get? b=some o)->s.heap.objs.size < h'.objs.size->ItemsOf (λi v=>∃ e,(xf w a ep xs)[i]?=some e/\v=e.2) acc xs.length->Q acc.toList {s with heap:=h',toks:=tk}):wpAny (model prog w) A (collect (.ref a)) Q E s:=by
 unfold collect;refine gt (wpAny_runValue (vM hh hm hx ho λh' tk acc c' kk gn itm=>?_))
 show wpAny _ A (load s.heap.objs.size >>= _) _ _ _
 refine gt (wpAny_load gn ?_);exact P0 (h h' tk acc kk (P3 gn) itm)
theorem rZ:∀ l:List (Int×Rg),(∀ e∈l,∃ t,e.2=.int e.1 t)->IntsAre (l.map (·.2)) (l.map (·.1))
 | [],_=>.nil
 | e::l,h=>by
  obtain⟨t,q⟩:=h e (by simp)
  rw [Qe,Qe,q];exact .cons _ _ (rZ l λx hx=>h x (by simp [hx]))
theorem qF:∀ (l l':List Int),l.Perm l'->l.Pairwise (·<=·)->l'.Pairwise (·<=·)->l=l'
 | [],l',p,_,_=>(List.Perm.nil_eq p)
 | x::l,[],p,_,_=>absurd p.length_eq (by simp)
 | x::l,y::l',p,s1,s2=>by
  have hx:x∈y::l':=p.mem_iff.mp (by simp)
  have hy:y∈x::l:=p.mem_iff.mpr (by simp)
  have e:x=y:=by
   rcases P9.mp hx with q | q
   ·exact q
   rcases P9.mp hy with r | r
   ·exact r.symm
   exact Int.le_antisymm ((List.pairwise_cons.mp s1).1 y r) ((List.pairwise_cons.mp s2).1 x q)
  subst e;rw [qF l l' (List.Perm.cons_inv p) (List.pairwise_cons.mp s1).2 (List.pairwise_cons.mp s2).2]
def subI (m:Nat):List Int:=(subM m).map fun(v:Nat)=>(v:Int)
theorem Bo (m:Nat):(subI m).Pairwise (· < ·):=by
 unfold subI subM;rw [List.pairwise_map];exact(List.Pairwise.filter _ List.pairwise_lt_range).imp λh=>by omega
theorem B7 {Q:Rg->Rf->Prop} (hh:A.handled=none) (hm:m < 128) (hx:xs.map (·.1)=subM m) (ho:s.heap.get? a=some (BM (!w.params.followText "set-order") m xs ep))
  (h:∀ h' tk l vs e,s.heap.objs.size<=l->(∀ b o,s.heap.get? b=some o->h'.get? b=some o)->h'.get? l=some (seqObj "list" vs e)->IntsAre vs.toList (subI m)->Q (.ref l) {s with heap:=h',toks:=tk}):
  wpAny (model prog w) A (call (.builtin "sorted") [.ref a]) Q E s:=by
 refine Calls.call_function_entry kind_sorted plain_sorted entry_sorted (args_sorted1 _) ?_;unfold Builtin.«sorted»;refine gt (m:=checkCount "sorted" 1 1 _) (P0 ?_)
 refine gt (zC (A:=A.in1) hh hm hx ho λh1 tk acc kk sz itm=>?_)
 have ev:acc.toList=(xf w a ep xs).toList.map (·.2):=by
  obtain⟨l1,l2⟩:=itm;apply List.ext_getElem?;intro i;rw [Array.getElem?_toList,Qt,Array.getElem?_toList];cases q1:acc[i]? with
  | none=>
   have:acc.size<=i:=by simpa using q1
   rw [Array.getElem?_eq_none (by rw [lO]; omega)]
   rfl
  | some v=>
   obtain⟨e,he,rfl⟩:=l2 i v q1;rw [he]
   rfl
 have hI:IntsAre acc.toList ((xf w a ep xs).toList.map (·.1)):=by
  rw [ev];refine rZ _ λe he=>?_
  have:=(sN w a ep xs).mem_iff.mp he;simp only [kS,P5] at this;obtain⟨x,_,rfl⟩:=this;exact⟨x.2,rfl⟩
 have hp:((xf w a ep xs).toList.map (·.1)).Perm (subI m):=by
  refine((sN w a ep xs).map _).trans (List.Perm.of_eq ?_);unfold subI;rw [<- hx];simp only [kS,QH]
  rfl
 have hl:acc.toList.length < 64:=by
  have:=sK hm;rw [ev,P6,Q4,lO,<- P6 (f:=(·.1)),hx];omega
 refine gt (wpAny_newList ?_);have hoL:(h1.push (seqObj "list" acc.toList.toArray 0)).get? h1.objs.size=some (seqObj "list" acc.toList.toArray 0):=P1 _ rfl
 refine gt (Qq (QN slot_list_sort ⟨_,hoL,rfl⟩ entry_list_sort (list_sort_tree hoL hI hl λout ns' a1 a2 a3=>⟨_,rfl,?_⟩) (args_list_sort _)))
 have e:ns'=subI m:=qF _ _ (a2.trans hp) a3 ((Bo m).imp λh=>Int.le_of_lt h)
 subst e;obtain⟨ep',g⟩:=sortedHeap_at (out:=out) hoL;refine P0 ⟨_,rfl,h _ tk _ out ep' (Nat.le_of_lt sz) (λb o x=>?_) g a1⟩
 have lb:=P3 (kk b o x);rw [sortedHeap_old (P_ lb) (by rw [size_push']; exact Nat.lt_succ_of_lt lb)]
 exact PZ _ (kk b o x)
end
end PySem
namespace L2
open PySem PySem.Spec PyProof.Rows
def Nl (led:Rr) (p:Rh) (m:Nat):Ro->Prop:=λh=>qT h p led m
def Bz (ns:List Int) (i:Nat):Nat:=(ns.getD i 0).toNat
def EH (ns:List Int):Nat:=Gg (Bz ns) ns.length
theorem wa (val:Nat->Nat) (v:Nat):∀ k,(Gg val k).testBit v=true↔∃ i,i < k/\val i=v
 | 0=>by simp [Gg]
 | k+1=>by
  show(Gg val k ||| 2 ^ val k).testBit v=true↔_
  rw [Nat.testBit_or,Bool.or_eq_true,wa val v k,Nat.testBit_two_pow,Q3]
  constructor
  ·rintro(⟨i,h1,h2⟩ | h)
   ·exact⟨i,by omega,h2⟩
   ·exact⟨k,by omega,h⟩
  ·rintro⟨i,h1,h2⟩
   by_cases e:i=k
   ·subst e; exact .inr h2
   ·exact .inl ⟨i,by omega,h2⟩
def o7 (ns:List Int):List Int:=subI (EH ns)
theorem GC (ns:List Int):(o7 ns).Pairwise (· < ·):=Bo _
theorem lZ {ns:List Int} (hb:∀ n∈ns,0<=n/\n < 7) {v:Int}:v∈o7 ns↔v∈ns:=by
 unfold o7 subI;simp only [P5,oB]
 constructor
 ·rintro⟨u,⟨_,h2⟩,rfl⟩;obtain⟨i,hi,e⟩:=(wa _ _ _).mp h2;have e1:ns.getD i 0=ns[i]:=by rw [QA,Qr hi]; rfl
  have m1:ns[i]∈ns:=Q6 hi;have b1:=hb _ m1;unfold Bz at e;rw [e1] at e;have:(u:Int)=ns[i]:=by omega
  rw [this];exact m1
 ·intro h;obtain⟨i,hi,e⟩:=List.getElem_of_mem h;have b1:=hb _ h;have e1:ns.getD i 0=v:=by rw [QA,Qr hi,<- e]; rfl
  exact⟨v.toNat,⟨by omega,(wa _ _ _).mpr ⟨i,hi,by unfold Bz; rw [e1]⟩⟩,by omega⟩
section
variable {X:Cx}
theorem Cu (hc:X.calm=true):dw X (.type "set") (λxs H Q=>∃ a ns,xs=[.ref a]/\jv X.K H a (ns.map V.int)/\(∀ n∈ns,0<=n/\n < 7)/\∀ p,H p=none->Q (.ref p) (bS H p (.ext (Nl (!X.w.params.followText "set-order") p (EH ns))))):=by
 intro Rw s σ H xs us Q I r h;obtain⟨a,ns,rfl,hq,hb,q⟩:=h;obtain⟨u,rfl,rx⟩:=lG r;cases rx;obtain⟨its,r',pl,hz⟩:=I.list hq;have hlen:=r'.length;rw [P6] at hlen;have hI:IntsAre its ns:=Ad r';have nb:∀ i,0<=ns.getD i 0/\ns.getD i 0 < 7:=λi=>by
  rw [QA];cases e:ns[i]? with
  | none=>exact⟨by decide,by decide⟩
  | some v=>exact hb v (List.mem_of_getElem? e)
 refine sS (val:=Bz ns) (I.ok.hd hc) pl.isList (λi=>?_) (λi v hv=>?_) λh' tk hS kp=>?_
 ·have:=nb i;unfold Bz;omega
 ·obtain⟨t,rfl⟩:=IntsAre.int_at hI i v (by simpa using hv)
  have:=nb i;refine⟨t,?_⟩;unfold Bz;rw [Int.toNat_of_nonneg this.1]
 have e:its.toArray.size=ns.length:=by rw [P8]; exact hlen.symm
 rw [e] at hS;have hS':Nl (!X.w.params.followText "set-order") s.heap.objs.size (EH ns) h':=hS
 obtain⟨_,_,_,_,g⟩:=id hS;exact⟨.ref s.heap.objs.size,_,I.laid (o:=.ext (Nl (!X.w.params.followText "set-order") s.heap.objs.size (EH ns))) (t':=tk) (λb o z=>kp b o (P3 z) z) (P4 _) ⟨hS',⟨_,g⟩,λh1 h2 z k=>qT.keep z λo e=>k o e⟩,rfl,q _ (I.hok.fresh (P4 _))⟩
theorem zw (hc:X.calm=true):dw X (.builtin "sorted") (λxs H Q=>∃ p m,xs=[.ref p]/\H p=some (.ext (Nl (!X.w.params.followText "set-order") p m))/\∀ q,H q=none->Q (.ref q) (bS H q (.lst ((subI m).map V.int)))):=by
 intro Rw s σ H xs us Q I r h;obtain⟨p,m,rfl,e1,q⟩:=h;obtain⟨u,rfl,rx⟩:=lG r;cases rx;obtain⟨hm,ys,ep,hx,g⟩:=(I.hok p _ e1).1;refine B7 (I.ok.hd hc) hm hx g λh' tk l vs e le kk gl ia=>?_
 have hl:((subI m).map V.int).length<=sizeLine:=by
  have:=sK hm;unfold subI;rw [P6,P6];exact fits_of_scanBound (by unfold scanBound; omega)
 exact⟨.ref l,_,I.laid (a:=l) (o:=.lst ((subI m).map V.int)) (t':=tk) kk le ⟨hl,vs.toList,e,tD ia,by simpa using gl⟩,rfl,q l (I.hok.fresh le)⟩
end
end L2
namespace DL
open PySem PySem.Spec PyProof.Rows L2
def Ep (g:DE):DE:=λL S k=>g L S λd S1=>match d with
 | .ref a=>∃ ns:List Int,S1 a=some (.lst (ns.map D.int))/\(∀ n∈ns,0<=n/\n < 7)/\∀ p,S1 p=none->k (.ref p) (put S1 p (.lst ((o7 ns).map D.int)))
 | _=>False
theorem zX {X:Cx} {e:Rj} {g:DE} {p1 p2 pos1 pos2:Pos} (hc:X.calm=true) (hg1:Gl X "sorted") (hm1:X.mg "sorted"=none) (hv1:bootBuiltins "sorted"=some (.builtin "sorted")) (hg2:Gl X "set") (hm2:X.mg "set"=none) (hv2:bootBuiltins "set"=some (.type "set")) (he:EJ X e g)
  (s1:starEach [e] X.env=(false,eval e X.env)::starEach [] X.env:=by exact cQ rfl) (s2:(backTo pos2 (starEach [] X.env)).any (·.1)=false:=by exact fi rfl)
  (s3:starEach [.Call (.Name "set" p2) [e] [] pos2] X.env=(false,eval (.Call (.Name "set" p2) [e] [] pos2) X.env)::starEach [] X.env:=by exact cQ rfl) (s4:(backTo pos1 (starEach [] X.env)).any (·.1)=false:=by exact fi rfl):
  EJ X (.Call (.Name "sorted" p1) [.Call (.Name "set" p2) [e] [] pos2] [] pos1) (Ep g):=
 ⟨PE.imp (yn (zw hc) hg1 hm1 hv1 (mU (pN (Cu hc) hg2 hm2 hv2 (mU he.h pM s1) (by decide) (by decide) s1 s2) pM s3) (by decide) (by decide) s3 s4) fun σ H Q ⟨L,S,k,hL,hS,h,n⟩=>up.go hL hS h λd S1 v H1 h1 k1 hL1 hS1 i1=>by
  cases d with
  | ref a=>
   obtain⟨ns,g1,hb,w⟩:=h1;have ex:=aZ.mp i1;subst ex;obtain⟨vs,q1,j⟩:=hS1.lst g1;have e:=j_ j;subst e;refine⟨a,ns,rfl,jv.of q1,hb,λp hp=>⟨p,_,rfl,br,λq hq=>?_⟩⟩
   have hS2:=hS1.new (o:=.ext (Nl (!X.w.params.followText "set-order") p (EH ns))) hp
   exact n _ _ _ _ (w q (hS2.free hq)) ((k1.trans (Kp.new hp)).trans (Kp.new hq)) (hS2.newL hq t_) (aZ.mpr rfl)
  | _=>exact(show False from h1).elim⟩
def xz (kvs:List (eG×D)) (k:eG):Ri D:=(kvs.find? λkv=>decide (kv.1=k)).map (·.2)
def EX (kvs:List (eG×D)) (k:eG) (d:D):List (eG×D):=if (kvs.any λkv=>decide (kv.1=k))=true then kvs.map (λkv=>if kv.1=k then(kv.1,d) else kv) else kvs++[(k,d)]
abbrev rD (K:Fg) (H:Hp):List (eG×D)->List (eG×V)->Prop:=Paired λp q=>p.1=q.1/\cq K H p.2 q.2
section
variable {K:Fg} {H H':Hp}
theorem rD.kp {kvs:List (eG×D)} {ys:List (eG×V)} (r:rD K H kvs ys) (k:Kp H H'):rD K H' kvs ys:=Paired.mapP r λ_ _ z=>⟨z.1,z.2.kp k⟩
theorem rD.val {k:eG}:∀ {kvs:List (eG×D)} {ys:List (eG×V)},rD K H kvs ys->∀ {d:D},xz kvs k=some d->∃ v,qW ys k=some v/\cq K H d v
 | _,_,.nil,d,h=>by simp [xz] at h
 | (k1,d1)::kvs,(k2,v2)::ys,.cons ⟨a,b⟩ t,d,h=>by
  have a:k1=k2:=a;subst a
  by_cases e:k1=k
  ·refine⟨v2,oZ e,?_⟩;simp [xz,Qg,e] at h;rw [<- h];exact b
  ·obtain⟨v,q1,q2⟩:=rD.val (k:=k) t (d:=d) (by simpa [xz,Qg,e] using h)
   exact⟨v,by rw [o9 e]; exact q1,q2⟩
theorem rD.any {k:eG}:∀ {kvs:List (eG×D)} {ys:List (eG×V)},rD K H kvs ys->(kvs.any λkv=>decide (kv.1=k))=(ys.any λkv=>decide (kv.1=k))
 | _,_,.nil=>rfl
 | (k1,d1)::kvs,(k2,v2)::ys,.cons ⟨a,b⟩ t=>by
  have a:k1=k2:=a;rw [List.any_cons,List.any_cons,rD.any t,a]
theorem rD.map {k:eG} {d:D} {v:V} (hd:cq K H d v):∀ {kvs:List (eG×D)} {ys:List (eG×V)},rD K H kvs ys->rD K H (kvs.map λkv=>if kv.1=k then(kv.1,d) else kv) (ys.map λkv=>if kv.1=k then(kv.1,v) else kv)
 | _,_,.nil=>.nil
 | (k1,d1)::kvs,(k2,v2)::ys,.cons ⟨a,b⟩ t=>by
  have a:k1=k2:=a;subst a;rw [Qe,Qe];refine .cons ?_ (rD.map hd t);dsimp only
  split
  ·exact⟨rfl,hd⟩
  ·exact⟨rfl,b⟩
theorem rD.snoc {k:eG} {d:D} {v:V} (hd:cq K H d v):∀ {kvs:List (eG×D)} {ys:List (eG×V)},rD K H kvs ys->rD K H (kvs++[(k,d)]) (ys++[(k,v)])
 | _,_,.nil=>.cons ⟨rfl,hd⟩ .nil
 | _,_,.cons a t=>.cons a (rD.snoc hd t)
theorem rD.put {k:eG} {d:D} {v:V} {kvs:List (eG×D)} {ys:List (eG×V)} (hd:cq K H d v) (r:rD K H kvs ys):rD K H (EX kvs k d) (nM ys k v):=by
 unfold EX nM;rw [r.any]
 split
 ·exact rD.map hd r
 ·exact rD.snoc hd r
end
section
variable {X:Cx}
def Mn:DE:=λ_ S k=>∀ p,S p=none->k (.ref p) (put S p (.gen (.dK [])))
theorem G8 {pos:Pos}:EJ X (.Dict [] [] pos) Mn:=
 ⟨PE.imp FM fun σ H Q ⟨L,S,k,hL,hS,h,n⟩ p hp=>n _ _ _ _ (h p (hS.free hp)) (Kp.new hp) (hS.newG hp ⟨[],br,.nil⟩) (aZ.mpr rfl)⟩
def Mu (go gi:DE):DE:=λL S k=>go L S λd S1=>gi L S1 λe S2=>match d,e with
 | .ref a,.int i=>∃ kvs c,S2 a=some (.gen (.dK kvs))/\xz kvs (.inl i)=some c/\k c S2
 | _,_=>False
theorem AH {o i:Rj} {go gi:DE} {pos:Pos} {n:Nat} (hr:b3 n X.A) (ho:EJ X o go) (hi:EJ X i gi) (hs:Da i):EJ X (.Subscript o i pos) (Mu go gi):=
 ⟨PE.imp (GU (un1 hr) ho.h hi.h hs) fun σ H Q ⟨L,S,k,hL,hS,h,m⟩=>up.go hL hS h λd S1 x H1 h1 k1 hL1 hS1 i1=>up.go hL1 hS1 h1 λe S2 y H2 h2 k2 hL2 hS2 i2=>by
  split at h2
  ·rename_i a j
   obtain⟨kvs,c,g1,g2,h2⟩:=h2;obtain⟨ys,e1,r1⟩:=(show qd X.K H2 a (.dK kvs) from hS2 a _ g1)
   have ex:=aZ.mp i1;have ey:=isInt.mp i2;subst ex ey;obtain⟨v,q1,q2⟩:=rD.val r1 g2;exact⟨a,v,rfl,by rw [<- q1]; exact BS.k (k:=.inl j) e1,m c S2 v H2 h2 (k1.trans k2) hS2 q2⟩
  ·exact h2.elim⟩
def LS:FC:=λx y v H Q=>∃ a kvs j,x=.ref a/\y=.int j/\H a=some (.dK kvs)/\kvs.length < sizeLine/\Q (bS H a (.dK (nM kvs (.inl j) v)))
theorem BU {n:Nat} (hr:b3 n X.A):Gn X LS:=by
 intro Rw s σ H o i v ov iv u Q I ro ri rv h;obtain⟨a,kvs,j,rfl,rfl,e1,z,q⟩:=h;cases (show ov=Value.ref a from ro)
 exact Cs (un1 hr) I (GY.k (k:=.inl j) e1 z) ri rv λs' I'=>⟨_,I',q⟩
def JN (go gi:DE):DG:=λd L S k=>go L S λo S1=>gi L S1 λi S2=>match o,i with
 | .ref a,.int j=>∃ kvs,S2 a=some (.gen (.dK kvs))/\kvs.length < sizeLine/\k L (put S2 a (.gen (.dK (EX kvs (.inl j) d))))
 | _,_=>False
theorem HZ {o i:Rj} {go gi:DE} {pos:Pos} {n:Nat} (hr:b3 n X.A) (ho:EJ X o go) (hi:EJ X i gi)
  (ha:∀ v,assign (.Subscript o i pos) X.env v=(do
   let ov <- holding [v] (eval o X.env)
   let iv <- holding [v,ov] (eval i X.env)
   standAt pos
   holding [v,ov,iv] (setItem ov iv v)
   release [v,ov,iv] []):=by intro _; rfl):GJ X (.Subscript o i pos) (JN go gi):=
 ⟨PG.imp (ze ho.h hi.h (BU hr) ha) λv σ H Q ⟨d,L,S,k,i1,hL,hS,h,m⟩=>up.go hL hS h λc S1 u H1 h1 k1 hL1 hS1 j1=>up.go hL1 hS1 h1 λc2 S2 u2 H2 h2 k2 hL2 hS2 j2=>by
  split at h2
  ·rename_i a j
   obtain⟨kvs,g1,z,h2⟩:=h2;obtain⟨ys,e1,r1⟩:=(show qd X.K H2 a (.dK kvs) from hS2 a _ g1)
   have ex:=aZ.mp j1;have ey:=isInt.mp j2;subst ex ey;have hl:=Paired.length r1;refine⟨a,ys,j,rfl,rfl,e1,by rw [<- hl]; exact z,?_⟩
   have k3:Kp H2 (bS H2 a (.dK (nM ys (.inl j) v))):=Kp.mut e1 (λz=>z)
   exact m L _ σ _ h2 (k1.trans (k2.trans k3)) (hL2.kp k3) (hS2.setG e1 (λz=>z) ⟨_,br,(rD.put (i1.kp (k1.trans k2)) r1).kp k3⟩)
  ·exact h2.elim⟩
end
end DL
namespace ST
open PySem PySem.SetTable
def Py (mask:Nat) (p:Probe):Probe:=
 if p.more > 0 then {p with j:=p.j+1,more:=p.more - 1} else {p with j:=(leap mask p.i p.perturb).1,more:=runEnd mask (leap mask p.i p.perturb).1 - (leap mask p.i p.perturb).1,i:=(leap mask p.i p.perturb).1,perturb:=(leap mask p.i p.perturb).2}
def Pb (mask i pt:Nat):Probe:={j:=i,more:=runEnd mask i - i,i:=i,perturb:=pt,dummy:=none}
def sq (mask:Nat) (h:Int):Nat->Probe
 | 0=>Pb mask (bits h % (mask+1)) (bits h)
 | n+1=>Py mask (sq mask h n)
def PC (mask:Nat):Prop:=mask=7\/mask=31\/mask=127
def PF (xs:Rq Nat):Prop:=∀ i j:Nat,i < j->∀ a b:Nat,xs[i]?=some a->xs[j]?=some b->a < b
def On (t:SetTable) (j:Nat):Prop:=∃ i:Nat,t.place[i]?=some j
def PK (t:SetTable) (h:Int) (j:Nat):Prop:=∃ n,(sq t.mask h n).j=j/\∀ m,m < n->On t (sq t.mask h m).j
structure TI (t:SetTable) (hs:List Int):Prop where
 dm:t.dummies=#[]
 ris:PF t.place
 sz:t.place.size=hs.length
 le:∀ j,On t j->j < t.mask+1
 msk:PC t.mask
 way:∀ q∈t.place.toList.zip hs,PK t q.2 q.1
def Pu (t:SetTable):Prop:=t.place.size*5 < t.mask*3
end ST
namespace ST
open PySem PySem.SetTable PySem.Spec
section
variable {prog:Rk} {w:Rn} {K:Type} [DecidableEq K] {knd:KeyKind prog w K} {A:Rm} {E:Rg->Rf->Prop} {s:Rf}
def ent (knd:KeyKind prog w K) (x:List K×Rh):Int×Rg:=(tupleKeyHash knd x.1,.ref x.2)
structure NT (knd:KeyKind prog w K) (h:Ro) (a:Rh) (o:Rv) (es:Rq (Int×Rg)) (ep:Nat) (t:SetTable) (xs:List (List K×Rh)):Prop where
 get:h.get? a=some o
 ex:o.ExactSet
 data:o.data=.set es ep t
 ent:es.toList=xs.map (ent knd)
 is:∀ x∈xs,IsTupleKey knd h x.1 x.2
 ti:TI t (xs.map λx=>tupleKeyHash knd x.1)
 lax:Pu t
end
end ST
namespace ST
open PySem PySem.SetTable PySem.Spec PyProof.Rows
def Mg {α:Type} [DecidableEq α] (a:List α) (k:α):List α:=if k∈a then a else a++[k]
def dd {α:Type} [DecidableEq α] (l:List α):List α:=l.foldl Mg []
section
variable {prog:Rk} {w:Rn} {K:Type} [DecidableEq K] {knd:KeyKind prog w K} {A:Rm} {R:Result->Rf->Prop} {I:Rh} {fp wr:List Rh} {G:Rq GenState->Rq GenState->Prop} {n:Nat} {P:Nat->Rg->Prop} {St:Nat->Rf->Prop}
def Holds (knd:KeyKind prog w K) (h:Ro) (S:Rh) (V:Rh->Prop) (l:List (List K)):Prop:=∃ o es ep t xs,NT knd h S o es ep t xs/\xs.length=(dd l).length/\(∀ k,k∈xs.map (·.1)↔k∈dd l)/\∀ x∈xs,V x.2
end
end ST
namespace DL
open PySem PySem.Spec PyProof.Rows L2
theorem Ez:bootBuiltins "range"=some (.type "range"):=by decide +kernel
end DL
namespace L2
open PySem PySem.Spec PyProof.Rows
section
variable {X:Cx} {Rw:List (Rh×Rv)} {σ:St} {H:Hp} {s s':Rf} {E:XK}
theorem G_ {e:Rg} (hex:X.ex=[]) (hst:X.stack=X.env::X.outer) (hf:X.env.frame=some X.env.locals) (I:aC X Rw σ H s) (h:iy X.prog X.w X.stack H s E e s') {Cn:Str} {cv:Rg} {p1 hp:Pos} {b0:Rp} {suite:List Rp} {Q:Flow->Rf->Prop}
  (hg:Gl X Cn) (hm:X.mg Cn=some cv) (hdb:(Cn == ("__debug__":Str))=false) (hx:∀ c H',E c none H'->PySem.W.exmOne X.K c cv=some true)
  (k:∀ ea c H' o s6,E c none H'->H' ea=none->o.cls=c->aC X Rw σ (bS H' ea (.frz o (.ext λ_=>True))) s6->
   wpAny (model X.prog X.w) (X.A.mark (some (.ref ea))) (execs (b0::suite) X.env) Q qH s6):
  wpAny (model X.prog X.w) X.A (noteFrame e X.env) (λ_ s2=>wpAny (model X.prog X.w) X.A (setFlight e none) (λ_ s3=>wpAny (model X.prog X.w) X.A (handleBy e X.env [.ExceptHandler (some (.Name Cn p1)) none (b0::suite) hp]) Q X.xe s3) X.xe s2) X.xe s':=by
 obtain⟨ea,cls,a0,H',B,rfl,os,bare,fl,hok,hB,hB2,un,q⟩:=h;have fl:=fl.1;have fr0:X.A.frames=some (X.env::X.outer):=by rw [<- hst]; exact I.ok.frames
 have fl0:Heap.FlyingW B (X.env::X.outer) ea cls a0 s'.heap:=by rw [<- hst]; exact fl
 refine wpAny_looks_onW fr0 hf fl0 λh4 held4 up4=>?_
 refine wpAny_landsW held4 λh5 fl5 up5=>?_
 have up45:=up4.trans up5;have I5:=I.landed os bare fl (by rw [hst]; exact fl5) up45 hok hB hB2 un
 obtain⟨ob,hob,hobc⟩:=fl5.there;refine wpAny_handleBy_cons (codeAny_handlers_test (jr (X:=X.marked (.ref ea) qH) (I5.marked (.ref ea) _) hg hm ?_ hdb)) (by intro z; cases z)
 have LT:PySem.W.Looks (model X.prog X.w) h5 (typeOf (.ref ea)) cls:=by
  subst hobc;exact(PySem.W.Looks.ld hob).andThen .now
 refine PySem.W.exm_one I5.kIn LT (hx cls H' q) _ _ _ _ (λ_ _ z=>z) ?_
 refine codeAny_handlers_suite ?_;refine lands_againW fl5 λh6 fl6 up6=>?_
 have I6:=I.landed os bare fl (by rw [hst]; exact fl6) (up45.trans up6) hok hB hB2 un
 obtain⟨o6,ho6,hc6⟩:=fl6.there;have nfr:ea∉ic X.stack:=λz=>by
  obtain⟨_,o2,e2,d2⟩:=fl.2.2.1.mem z;obtain⟨oe,vs,T,oT,ts,w1,w2,w3,w4⟩:=fl.2.2.2;rw [w1] at e2;cases e2;exact d2 _ w3
 have nB:B.get? ea=none:=fl.2.1;have nw:∀ b o,s.heap.get? b=some o->b≠ea:=λb o z y=>by
  subst y;obtain⟨o',z'⟩:=hB2 b o z nfr;rw [nB] at z';cases z'
 have hn:H' ea=none:=by
  cases y:H' ea with
  | none=>rfl
  | some u=>
   obtain⟨o',z'⟩:=(hok ea u y).there;rw [nB] at z';cases z'
 have h0:X.s₀.heap.get? ea=none:=by
  cases y:X.s₀.heap.get? ea with
  | none=>rfl
  | some u=>
   obtain⟨o',z'⟩:=I.base.there ea u y (by rw [hex]; simp)
   exact absurd rfl (nw ea o' z')
 have I7:=I6.freeze ho6 hn h0 (λz=>nfr (by rw [hst,z]; unfold ic; rw [List.filterMap_cons,hf]; exact Qa)) (λx c z=>by
  obtain⟨v,o,z2,_⟩:=I.cell x c z;exact nw c o z2) (λp z=>nw p.1 p.2 (I.pin p z).1)
 exact QD (k ea cls H' o6 _ q hn hc6 I7) (λ_ _ z=>z) λ_ _ z=>z.elim
end
abbrev Cx.still (X:Cx):Cx:={X with xe:=qH}
theorem aC.still {X:Cx} {Rw:List (Rh×Rv)} {σ:St} {H:Hp} {s:Rf} (I:aC X Rw σ H s):aC X.still Rw σ H s:=
 ⟨⟨I.ok.mod,I.ok.kind,I.ok.glob,I.ok.blt,I.ok.above,I.ok.inj,I.ok.has,I.ok.cab,I.ok.hd,I.ok.frames,I.ok.stk,I.ok.exf,I.ok.bs,I.ok.bsz,I.ok.noex,I.ok.exfs,I.ok.funs,I.ok.frf⟩,I.os,I.bare,I.base,I.loc,I.cell,I.free,I.freeC,I.pin,I.hok,I.len⟩
theorem aC.unstill {X:Cx} {Rw:List (Rh×Rv)} {σ:St} {H:Hp} {s:Rf} (I:aC X.still Rw σ H s):aC X Rw σ H s:=
 ⟨⟨I.ok.mod,I.ok.kind,I.ok.glob,I.ok.blt,I.ok.above,I.ok.inj,I.ok.has,I.ok.cab,I.ok.hd,I.ok.frames,I.ok.stk,I.ok.exf,I.ok.bs,I.ok.bsz,I.ok.noex,I.ok.exfs,I.ok.funs,I.ok.frf⟩,I.os,I.bare,I.base,I.loc,I.cell,I.free,I.freeC,I.pin,I.hok,I.len⟩
def XW (X:Cx) (Rw:List (Rh×Rv)) (σ:St) (R:Hp->Prop) (E:XK) (e:Rg) (s':Rf):Prop:=∃ H1 s1,aC X Rw σ H1 s1/\R H1/\iy X.prog X.w X.stack H1 s1 E e s'
abbrev TX:=St->Hp->VK->(Hp->Prop)->Prop
def Fs (X:Cx) (E:XK) (e:Rj) (t:TX):Prop:=∀ (Rw:List (Rh×Rv)) (s:Rf) (σ:St) (H:Hp) (Q:VK) (R:Hp->Prop),aC X Rw σ H s->t σ H Q R->wpAny (model X.prog X.w) X.A (eval e X.env) (EP X Rw σ Q) (XW X Rw σ R E) s
section
variable {X:Cx} {E:XK}
theorem EP.unstill {Rw:List (Rh×Rv)} {σ:St} {Q:VK} {u:Rg} {s:Rf} (h:EP X.still Rw σ Q u s):EP X Rw σ Q u s:=by
 obtain⟨v,H',I,r,q⟩:=h;exact⟨v,H',I.unstill,r,q⟩
theorem Fs.imp {e:Rj} {t t':TX} (h:Fs X E e t) (i:∀ σ H Q R,t' σ H Q R->t σ H Q R):Fs X E e t':=λRw s σ H Q R I q=>h Rw s σ H Q R I (i σ H Q R q)
theorem HW {fn:Str} {f:Rh} {fd:FuncData} {ps:List Str} {sp:Sp} {k:Nat} {e:Rj} {es:List Rj} {ta:TA} {fp cp:Pos}
  (F:aL X.prog X.w X.K X.mg X.base (iy X.prog X.w) k f fd ps sp) (hr:b3 k X.A) (hgf:Gl X fn) (hmf:X.mg fn=some (.ref f)) (hkf:PySem.W.keepIn X.K (.ref f)=true) (hb:ju X.K fd ps []) (ha:PA X.still (e::es) ta)
  (hdf:(fn == ("__debug__":Str))=false:=by decide) (he:starEach (e::es) X.env=(false,eval e X.env)::starEach es X.env:=by rfl) (hpl:(backTo cp (starEach es X.env)).any (·.1)=false:=by rfl):
  Fs X E (.Call (.Name fn fp) (e::es) [] cp) (fun σ H Q R=>ta σ H λvs H1=>R H1/\sp vs H1 Q E):=by
 intro Rw s σ H Q R I h;refine wpAny_Call_Name_kw (jr I hgf hmf ?_ hdf);refine PySem.W.callWith_K (h₀:=X.base) I.ok.mod.kin hkf (QD (ha cp Rw s σ H _ I.still h) (λus s1 ⟨vs,H1,I1,r,hR,q⟩=>?_) λ_ _ z=>z.elim) he hpl
 have I1:aC X Rw σ H1 s1:=I1.unstill;refine⟨I1.kIn,?_⟩;have r2:bf (vs++[]) (us++[]):=by rw [Qn,Qn]; exact r
 have q2:sp (vs++[]) H1 Q E:=by rw [Qn]; exact q
 have hl:(us++[]).length=ps.length:=by rw [<- r2.length]; exact F.len _ _ _ _ q2
 refine wpAny_call (codeAny_mono (F.run X.A X.stack s1 H1 ⟨us,[]⟩ (us++[]) (vs++[]) _ E hr I1.env0 (hb s1 us I1.kIn hl) r2 q2) λr s' hq=>?_)
 cases r with
 | ok fl=>
  cases fl with
  | ret u=>exact I1.after hq
  | next=>exact False.elim hq
  | brk=>exact False.elim hq
  | cont=>exact False.elim hq
 | error e=>exact⟨H1,s1,I1,hR,hq⟩
theorem Md {a b:Rj} {ta:TX} {tb:TE} {pos:Pos} {r:R2} (hr:AS X.still r) (ha:Fs X E a ta) (hb:PE X.still b tb) (hs:rJ b):Fs X E (.Subscript a b pos) (fun σ H Q R=>ta σ H (λx H1=>tb σ H1 λy H2=>r x y H2 Q) R):=by
 intro Rw s σ H Q R I h;refine Subscript_ (cu (ha Rw s σ H _ R I h) λv s1 z9=>?_)
 obtain⟨x,H1,I1,r1,q1⟩:=z9;refine QD (hb Rw s1 σ H1 _ I1.still q1) (λu s2 ⟨y,H2,I2,r2,q2⟩=>?_) λ_ _ z=>z.elim
 exact QD (hr a b Rw s2 σ H2 x y v u Q I2 r1 r2 q2 (hs _ _)) (λ_ _ z=>z.unstill) λ_ _ z=>z.elim
theorem B6 {Rw:List (Rh×Rv)} {σ:St} {R:Hp->Prop} {s':Rf} {e:Rg} {Cn:Str} {cv:Rg} {p1 hp:Pos} {b0:Rp} {suite:List Rp} {D:s9} {t:TS} (h:XW X Rw σ R E e s') (hd:X.calm=true->X.A.handled=none) (hex:X.ex=[]) (hst:X.stack=X.env::X.outer) (hf:X.env.frame=some X.env.locals)
  (hg:Gl X Cn) (hm:X.mg Cn=some cv) (hdb:(Cn == ("__debug__":Str))=false) (hs:∀ v,ub (X.marked v qH) (b0::suite) t) (hE:∀ c H',E c none H'->PySem.W.exmOne X.K c cv=some true)
  (kk:∀ H1 ea c H' o,R H1->E c none H'->DL.Kp H1 H'->H' ea=none->o.cls=c->t D σ (bS H' ea (.frz o (.ext λ_=>True)))):
  wpAny (model X.prog X.w) X.A (noteFrame e X.env) (λ_ s2=>wpAny (model X.prog X.w) X.A (setFlight e none) (λ_ s3=>wpAny (model X.prog X.w) X.A (handleBy e X.env [.ExceptHandler (some (.Name Cn p1)) none (b0::suite) hp]) (SP X Rw D) X.xe s3) X.xe s2) X.xe s':=by
 obtain⟨H1,s1,I1,hR,hq⟩:=h;refine G_ hex hst hf I1 (DL.C4 hq) hg hm hdb (λc H' z=>hE c H' z.1) λea c H' o s6 y1 y2 y3 I6=>?_
 refine cu (hs (.ref ea) Rw s6 _ _ _ (I6.marked (.ref ea) qH) (kk H1 ea c H' o hR y1.1 y1.2 y2 y3)) λf s7 y=>?_
 cases f with
 | next=>
  obtain⟨σ7,H7,I7,q⟩:=y;exact⟨σ7,H7,I7.unmarked hd,q⟩
 | brk=>
  obtain⟨σ7,H7,I7,q⟩:=y;exact⟨σ7,H7,I7.unmarked hd,q⟩
 | cont=>
  obtain⟨σ7,H7,I7,q⟩:=y;exact⟨σ7,H7,I7.unmarked hd,q⟩
 | ret v=>
  obtain⟨v,σ7,H7,I7,r,q⟩:=y;exact⟨v,σ7,H7,I7.unmarked hd,r,q⟩
def IG (K:PySem.W.Frag) (E:XK) (cv:Rg) (te:TX) (k:s9->St->VK) (t:TS):TS:=λD σ H=>(∀ c H',E c none H'->PySem.W.exmOne K c cv=some true)/\
 ∃ R:Hp->Prop,te σ H (k D σ) R/\∀ H1 ea c H' o,R H1->E c none H'->DL.Kp H1 H'->H' ea=none->o.cls=c->t D σ (bS H' ea (.frz o (.ext λ_=>True)))
theorem GG {x Cn:Str} {cv:Rg} {i:Nat} {e:Rj} {te:TX} {t:TS} {b0:Rp} {suite:List Rp} {xp ap p1 hp pos:Pos} (he:Fs X E e te)
  (hd:X.calm=true->X.A.handled=none) (hex:X.ex=[]) (hst:X.stack=X.env::X.outer) (hf:X.env.frame=some X.env.locals) (hg:Gl X Cn) (hm:X.mg Cn=some cv) (hN:X.N.Nodup) (hi:X.N[i]?=some x) (hx:Gh X.env.scope x) (hs:∀ v,ub (X.marked v qH) (b0::suite) t)
  (hsw:swapsWith e (some (.Name x xp)) ap.line X.env=pure false:=by rfl) (hfx:X.fn x=true\/X.env.scope.names.lookup x=some .local:=by first | exact .inl rfl | exact .inr rfl | assumption) (hdb:(Cn == ("__debug__":Str))=false:=by decide):
  PS X (.Try [.Assign [.Name x xp] e ap] [.ExceptHandler (some (.Name Cn p1)) none (b0::suite) hp] [] [] pos) (IG X.K E cv te (λD σ v H=>D.nx (σ.set i (some v)) H) t):=by
 intro Rw s σ H D I h;obtain⟨hE,R,h,kk⟩:=h;refine wpAny_Try_except (wpAny_execs_cons (wpAny_Assign_Name (QD (he Rw s σ H _ R I h) (λv s1 ⟨y,H1,I1,r1,q1⟩=>?_) λe s' z=>?_) hsw))
 ·exact jY I1 hN hi hx r1 (λs2 I2=>wpAny_execs_nil (wpAny_execs_nil ⟨_,H1,I2,q1⟩)) hfx
 ·exact B6 z hd hex hst hf hg hm hdb hs hE kk
end
end L2
namespace DL
open PySem PySem.Spec PyProof.Rows L2
def Pk (K:Fg) (g:DE):TX:=fun σ H Q R=>∃ L S k,Lc K H L σ/\Hs K H S/\g L S k/\(∀ d S' v H',k d S'->Kp H H'->Hs K H' S'->cq K H' d v->Q v H')/\∀ H1,Kp H H1->R H1
structure MH (X:Cx) (ex:Rh->DH->Prop) (e:Rj) (g:DE):Prop where
 h:Fs X (PR X.K ex) e (Pk X.K g)
section
variable {X:Cx} {ex:Rh->DH->Prop}
theorem yq {fn:Str} {n:Nat} {F:qV} {e:Rj} {es:List Rj} {ta:DA} {fp cp:Pos} (c:uG X.prog X.w X.K X.mg X.base fn n F) (hr:b3 n X.A) (hgf:Gl X fn) (ha:AJ X.still (e::es) ta)
  (hdf:(fn == ("__debug__":Str))=false:=by decide) (he:starEach (e::es) X.env=(false,eval e X.env)::starEach es X.env:=by exact cQ rfl) (hpl:(backTo cp (starEach es X.env)).any (·.1)=false:=by exact fi rfl):
  MH X ex (.Call (.Name fn fp) (e::es) [] cp) (EV F ex ta):=by
 obtain⟨g,fd,ps,F1,h1,h2,h3⟩:=c.ex;refine⟨Fs.imp (HW F1 hr hgf h1 h2 h3 ha.h hdf he hpl) fun σ H Q R ⟨L,S,k,hL,hS,h,n,hR⟩=>?_⟩
 refine yA.go hL hS h λds S1 vs H1 h1 k1 hL1 hS1 i1=>?_
 exact⟨hR H1 k1,ds,S1,k,ex,i1,hS1,h1,λd' S' v H' q k3 z1 z2=>n d' S' v H' q (k1.trans k3) z1 z2,λC S' H' z zs=>⟨C,S',rfl,z,zs⟩⟩
theorem Jy {a b:Rj} {ga gb:DE} {pos:Pos} {r:D2} (hr:AS X.still (mM X.K r)) (ha:MH X ex a ga) (hb:EJ X.still b gb) (hs:rJ b):MH X ex (.Subscript a b pos) (CY r ga gb):=by
 refine⟨Fs.imp (Md hr ha.h hb.h hs) fun σ H Q R ⟨L,S,k,hL,hS,h,n,hR⟩=>?_⟩
 refine⟨L,S,_,hL,hS,h,λd S1 v H1 h1 k1 hS1 i1=>?_,hR⟩
 refine up.go (hL.kp k1) hS1 h1 λe S2 u H2 h2 k2 hL2 hS2 i2=>?_
 exact⟨d,e,S2,k,i1.kp k2,i2,hS2,h2,λd' S' v' H' q k3 z1 z2=>n d' S' v' H' q (k1.trans (k2.trans k3)) z1 z2⟩
def IN (K:Fg) (cv:Rg) (g:(Rh->DH->Prop)->DE) (i:Nat) (t:DS):DS:=λM L S=>g (λC S2=>PySem.W.exmOne K (.ref C) cv=some true/\t M L S2) L S λd S2=>M.nx (L.set i (some d)) S2
theorem BH {x Cn:Str} {cv:Rg} {i:Nat} {e:Rj} {g:(Rh->DH->Prop)->DE} {t:DS} {b0:Rp} {suite:List Rp} {xp ap p1 hp pos:Pos} (he:∀ ex,MH X ex e (g ex))
  (hd:X.calm=true->X.A.handled=none) (hex:X.ex=[]) (hst:X.stack=X.env::X.outer) (hf:X.env.frame=some X.env.locals) (hg:Gl X Cn) (hm:X.mg Cn=some cv) (hN:X.N.Nodup) (hi:X.N[i]?=some x) (hx:Gh X.env.scope x) (hs:∀ v,zo (X.marked v qH) (b0::suite) t)
  (hsw:swapsWith e (some (.Name x xp)) ap.line X.env=pure false:=by rfl) (hfx:X.fn x=true\/X.env.scope.names.lookup x=some .local:=by first | exact .inl rfl | exact .inr rfl | assumption) (hdb:(Cn == ("__debug__":Str))=false:=by decide):
  SJ X (.Try [.Assign [.Name x xp] e ap] [.ExceptHandler (some (.Name Cn p1)) none (b0::suite) hp] [] [] pos) (IN X.K cv g i t):=by
 refine⟨λRw s σ H N I ⟨L,S,M,hL,hS,h,r⟩=>GG (t:=Ig X.K t) (he (λC S2=>PySem.W.exmOne X.K (.ref C) cv=some true/\t M L S2)).h hd hex hst hf hg hm hN hi hx (λv=>(hs v).h) hsw hfx hdb Rw s σ H N I ⟨?_,Kp H,⟨L,S,_,hL,hS,h,λd S' v H' q k1 hS' i1=>r.nx _ _ _ _ q k1 ((hL.kp k1).set i1 i) hS',λ_ z=>z⟩,?_⟩⟩
 ·rintro c H' ⟨C,S',rfl,z,_⟩;exact z.1
 ·rintro H1 ea c H' o k0 ⟨C,S',rfl,z,zs⟩ kp hn ho;have k2:Kp H (bS H' ea (.frz o (.ext λ_=>True))):=k0.trans (kp.trans (Kp.new hn))
  exact⟨L,S',M,hL.kp k2,zs.new hn,z.2,r.kp k2⟩
end
inductive Nd (K:Fg) (n:Str) (st:Rp) (f:Rh) (cd:Rg):Prop where
 | mk {oc kV doc pm ct:Rg} {od an:Ri Rh} {osl:Rq (Ri Rg)} (l:K.lookup f=some ⟨oc,od,.func (PySem.W.fnOf n n (di st) (bL st) (aj st) .none kV doc pm an cd ct),osl⟩):Nd K n st f cd
structure DI (K:Fg) (n:Str) (st:Rp) (f:Rh) (cd:Rg):Prop where
 a:PySem.W.nsIn K mainGlobals n=some (some (.ref f))
 x:Nd K n st f cd
 e:PySem.W.codeIn K cd n=true
 k:PySem.W.keepIn K (.ref f)=true
def Bd (n:Str) (st:Rp) (ps:List Str):Prop:=∀ (kV doc pm:Rg) (an:Ri Rh) (cdv ct:Rg) (us:List Rg),us.length=ps.length->bindArgs (PySem.W.fnOf n n (di st) (bL st) (aj st) .none kV doc pm an cdv ct) ⟨us,[]⟩=pure (ps.zip us)
theorem lc {us:List Rg} {n:Nat} (h:us.length=n+1):∃ u r,us=u::r/\r.length=n:=by
 cases us with
 | nil=>cases h
 | cons u r=>exact⟨u,r,rfl,Nat.succ.inj h⟩
theorem OV {n a1:Str} {st:Rp} (h:∀ (kV doc pm:Rg) (an:Ri Rh) (cdv ct u1:Rg),bindArgs (PySem.W.fnOf n n (di st) (bL st) (aj st) .none kV doc pm an cdv ct) ⟨[u1],[]⟩=pure (List.zip [a1] [u1])):Bd n st [a1]:=λ_ _ _ _ _ _ us hl=>by obtain⟨u1,us,rfl,h1⟩:=lc hl; cases Rc.mp h1; exact h _ _ _ _ _ _ u1
theorem OX {n a1 a2:Str} {st:Rp} (h:∀ (kV doc pm:Rg) (an:Ri Rh) (cdv ct u1 u2:Rg),bindArgs (PySem.W.fnOf n n (di st) (bL st) (aj st) .none kV doc pm an cdv ct) ⟨[u1,u2],[]⟩=pure (List.zip [a1,a2] [u1,u2])):Bd n st [a1,a2]:=λ_ _ _ _ _ _ us hl=>by obtain⟨u1,us,rfl,h1⟩:=lc hl; obtain⟨u2,us,rfl,h2⟩:=lc h1; cases Rc.mp h2; exact h _ _ _ _ _ _ u1 u2
theorem OO {n a1 a2 a3:Str} {st:Rp} (h:∀ (kV doc pm:Rg) (an:Ri Rh) (cdv ct u1 u2 u3:Rg),bindArgs (PySem.W.fnOf n n (di st) (bL st) (aj st) .none kV doc pm an cdv ct) ⟨[u1,u2,u3],[]⟩=pure (List.zip [a1,a2,a3] [u1,u2,u3])):Bd n st [a1,a2,a3]:=λ_ _ _ _ _ _ us hl=>by obtain⟨u1,us,rfl,h1⟩:=lc hl; obtain⟨u2,us,rfl,h2⟩:=lc h1; obtain⟨u3,us,rfl,h3⟩:=lc h2; cases Rc.mp h3; exact h _ _ _ _ _ _ u1 u2 u3
theorem O4 {n a1 a2 a3 a4:Str} {st:Rp} (h:∀ (kV doc pm:Rg) (an:Ri Rh) (cdv ct u1 u2 u3 u4:Rg),bindArgs (PySem.W.fnOf n n (di st) (bL st) (aj st) .none kV doc pm an cdv ct) ⟨[u1,u2,u3,u4],[]⟩=pure (List.zip [a1,a2,a3,a4] [u1,u2,u3,u4])):Bd n st [a1,a2,a3,a4]:=λ_ _ _ _ _ _ us hl=>by obtain⟨u1,us,rfl,h1⟩:=lc hl; obtain⟨u2,us,rfl,h2⟩:=lc h1; obtain⟨u3,us,rfl,h3⟩:=lc h2; obtain⟨u4,us,rfl,h4⟩:=lc h3; cases Rc.mp h4; exact h _ _ _ _ _ _ u1 u2 u3 u4
theorem ON {n a1 a2 a3 a4 a5:Str} {st:Rp} (h:∀ (kV doc pm:Rg) (an:Ri Rh) (cdv ct u1 u2 u3 u4 u5:Rg),bindArgs (PySem.W.fnOf n n (di st) (bL st) (aj st) .none kV doc pm an cdv ct) ⟨[u1,u2,u3,u4,u5],[]⟩=pure (List.zip [a1,a2,a3,a4,a5] [u1,u2,u3,u4,u5])):Bd n st [a1,a2,a3,a4,a5]:=λ_ _ _ _ _ _ us hl=>by obtain⟨u1,us,rfl,h1⟩:=lc hl; obtain⟨u2,us,rfl,h2⟩:=lc h1; obtain⟨u3,us,rfl,h3⟩:=lc h2; obtain⟨u4,us,rfl,h4⟩:=lc h3; obtain⟨u5,us,rfl,h5⟩:=lc h4; cases Rc.mp h5; exact h _ _ _ _ _ _ u1 u2 u3 u4 u5
theorem OS {n a1 a2 a3 a4 a5 a6:Str} {st:Rp} (h:∀ (kV doc pm:Rg) (an:Ri Rh) (cdv ct u1 u2 u3 u4 u5 u6:Rg),bindArgs (PySem.W.fnOf n n (di st) (bL st) (aj st) .none kV doc pm an cdv ct) ⟨[u1,u2,u3,u4,u5,u6],[]⟩=pure (List.zip [a1,a2,a3,a4,a5,a6] [u1,u2,u3,u4,u5,u6])):Bd n st [a1,a2,a3,a4,a5,a6]:=λ_ _ _ _ _ _ us hl=>by obtain⟨u1,us,rfl,h1⟩:=lc hl; obtain⟨u2,us,rfl,h2⟩:=lc h1; obtain⟨u3,us,rfl,h3⟩:=lc h2; obtain⟨u4,us,rfl,h4⟩:=lc h3; obtain⟨u5,us,rfl,h5⟩:=lc h4; obtain⟨u6,us,rfl,h6⟩:=lc h5; cases Rc.mp h6; exact h _ _ _ _ _ _ u1 u2 u3 u4 u5 u6
theorem OP {n a1 a2 a3 a4 a5 a6 a7:Str} {st:Rp} (h:∀ (kV doc pm:Rg) (an:Ri Rh) (cdv ct u1 u2 u3 u4 u5 u6 u7:Rg),bindArgs (PySem.W.fnOf n n (di st) (bL st) (aj st) .none kV doc pm an cdv ct) ⟨[u1,u2,u3,u4,u5,u6,u7],[]⟩=pure (List.zip [a1,a2,a3,a4,a5,a6,a7] [u1,u2,u3,u4,u5,u6,u7])):Bd n st [a1,a2,a3,a4,a5,a6,a7]:=λ_ _ _ _ _ _ us hl=>by obtain⟨u1,us,rfl,h1⟩:=lc hl; obtain⟨u2,us,rfl,h2⟩:=lc h1; obtain⟨u3,us,rfl,h3⟩:=lc h2; obtain⟨u4,us,rfl,h4⟩:=lc h3; obtain⟨u5,us,rfl,h5⟩:=lc h4; obtain⟨u6,us,rfl,h6⟩:=lc h5; obtain⟨u7,us,rfl,h7⟩:=lc h6; cases Rc.mp h7; exact h _ _ _ _ _ _ u1 u2 u3 u4 u5 u6 u7
inductive Bs (P:Rk) (w:Rn) (base:Ro):Prop where
 | mk:Bs P w base
section
variable {P:Rk} {w:Rn} {K:Fg} {mg:Str->Ri Rg} {base h:Ro} {n:Str} {st:Rp} {f:Rh} {cd:Rg} {ps:List Str} {k:Nat}
theorem DI.own {F:ce} (d:DI K n st f cd) (_:Bs P w base) (X:K.In h) (G:h.Ns mainGlobals mg) (ok:∀ fd,xo K n n st f fd->fd.code=cd->aL P w K mg base cN k f fd ps (cX K F))
  (hb:Bd n st ps:=by first | exact OV λ_ _ _ _ _ _ _=>rfl | exact OX λ_ _ _ _ _ _ _ _=>rfl | exact OO λ_ _ _ _ _ _ _ _ _=>rfl | exact O4 λ_ _ _ _ _ _ _ _ _ _=>rfl | exact ON λ_ _ _ _ _ _ _ _ _ _ _=>rfl | exact OS λ_ _ _ _ _ _ _ _ _ _ _ _=>rfl | exact OP λ_ _ _ _ _ _ _ _ _ _ _ _ _=>rfl):aN P w K mg base n k F:=by
 obtain⟨lk⟩:=d.x;have Fn:=vW lk d.e d.k;exact aN.mk' Fn (ok _ Fn rfl) (PySem.W.mg_of X G d.a) (Fn.binds hb)
theorem DI.fn (d:DI K n st f cd) (hb:∀ (kV doc pm:Rg) (an:Ri Rh) (ct v:Rg),bindArgs (PySem.W.fnOf n n (di st) (bL st) (aj st) .none kV doc pm an cd ct) ⟨[v],[]⟩=pure [(("script":Str),v)]:=by exact λ_ _ _ _ _ _=>rfl):∃ fd:FuncData,xo K n n st f fd/\fd.code=cd/\∀ (s:Rf) (v:Rg),BindsTo s fd ⟨[v],[]⟩ [("script",v)]:=by
 obtain⟨lk⟩:=d.x;exact⟨_,vW lk d.e d.k,rfl,λs v=>.of_eq (hb _ _ _ _ _ v)⟩
theorem DI.ownX {F:qV} (d:DI K n st f cd) (_:Bs P w base) (X:K.In h) (G:h.Ns mainGlobals mg) (ok:∀ fd,xo K n n st f fd->aL P w K mg base (iy P w) k f fd ps (Hl K F))
  (hb:Bd n st ps:=by first | exact OV λ_ _ _ _ _ _ _=>rfl | exact OX λ_ _ _ _ _ _ _ _=>rfl | exact OO λ_ _ _ _ _ _ _ _ _=>rfl | exact O4 λ_ _ _ _ _ _ _ _ _ _=>rfl | exact ON λ_ _ _ _ _ _ _ _ _ _ _=>rfl | exact OS λ_ _ _ _ _ _ _ _ _ _ _ _=>rfl | exact OP λ_ _ _ _ _ _ _ _ _ _ _ _ _=>rfl):uG P w K mg base n k F:=by
 obtain⟨lk⟩:=d.x;have Fn:=vW lk d.e d.k;exact uG.mk' Fn (ok _ Fn) (PySem.W.mg_of X G d.a) (Fn.binds hb)
end
end DL
namespace L2
open PySem PySem.Spec PyProof.Rows
abbrev zD (h:Ro) (C:Rh) (vs:List Rg):Ro:=(h.push {cls:=.type "tuple",data:=.seq vs.toArray}).push {cls:=.ref C,data:=.fields #[.ref h.objs.size,.none,.none,.none,.bool false,.none]}
inductive js (h:Ro) (bmB:List Rg) (n:Str):List Rg->Prop
 | base:js h bmB n bmB
 | own {a:Rh} {c0:Rg} {dd:Ri Rh} {cd:ClassData} {sl:Rq (Ri Rg)} {m:Str->Ri Rg} {tl:List Rg}:h.get? a=some ⟨c0,dd,.cls cd,sl⟩->h.Ns cd.ns m->m n=none->js h bmB n tl->js h bmB n (.ref a::tl)
section
variable {prog:Rk} {w:Rn} {A:Rm} {E:Rg->Rf->Prop} {h:Ro} {g:Rq GenState} {d:Drawn} {t:Nat} {os:OsState}
variable {nm q:Str} {C N:Rh} {bs bm bmB:List Rg} {hdct:Rr} {sn:List Str} {sub:List Rg} {ab:Rr} {col:Ri Rr} {dd:Ri Rh} {k0 k1 k2 k3 k5:Ri Rg} {B newId initId:Rs} {mN:Str->Ri Rg}
theorem zT {M:Model} {n:Str} {tl:List Rg} {y:Ri Rg} {Q:Ri Rg->Rf->Prop} (T:js h bmB n tl) (hr:lookupAlong bmB n=pure y) (hq:Q y ⟨h,g,d,t,os⟩):wpAny M A (lookupAlong tl n) Q E ⟨h,g,d,t,os⟩:=by
 induction T with
 | base=>rw [hr]; exact P0 hq
 | own a b c _ ih=>
  rw [lookupAlong_cons];refine gt (wpAny_classOwn_cls a b ?_);rw [c];exact ih
theorem tU {M:Model} {n:Str} {y:Ri Rg} {Q:Ri Rg->Rf->Prop} (hC:h.get? C=some (excClassObj nm q C N bs bm hdct sn sub ab col dd k0 k1 k2 k3 k5 newId)) (hn:h.Ns N mN) (T:js h bmB n bm) (hm:mroOf (.type B)=pure bmB) (hB:typeLookup (.type B) n=pure y) (h0:mN n=none)
  (hq:Q y ⟨h,g,d,t,os⟩):wpAny M A (typeLookup (.ref C) n) Q E ⟨h,g,d,t,os⟩:=by
 rw [typeLookup_eq,hm] at hB;rw [typeLookup_eq];refine gt (wpAny_mroOf_exc hC ?_);rw [lookupAlong_cons];refine gt (wpAny_classOwn_exc hC hn ?_);rw [h0];exact zT T hB hq
theorem E4 (F:ExcBaseFacts B newId initId bmB) (T:OwnTail h bmB bm) {vs:List Rg} {fI:Rh} {oI:Rv} {Q:Fin->Rf->Prop} (hC:h.get? C=some (excClassObj nm q C N bs bm hdct sn sub ab col dd k0 k1 k2 k3 k5 newId)) (hn:h.Ns N mN) (hi:mN "__init__"=some (.ref fI)) (hf:h.get? fI=some oI) (hc:oI.cls=.type "function")
  (hq:wpAny (model prog w) A (call (.ref fI) (.ref (h.objs.size+1)::vs)) (λr s'=>r=.none/\Q (.done (.ret (.ref (h.objs.size+1)))) s') E ⟨zD h C vs,g,d,t,os⟩) (hv:vs.length<=sizeLine):wpAny (model prog w) A (Builtin.«type.__call__» ⟨.ref C::vs,[]⟩) Q E ⟨h,g,d,t,os⟩:=by
 have kp:∀ b o,h.get? b=some o->(zD h C vs).get? b=some o:=λb o e=>PZ _ (PZ _ e)
 have C1:=kp _ _ hC;have f1:=kp _ _ hf;have n1:=hn.keeps kp;have T1:=T.keeps kp;have g1:(zD h C vs).get? (h.objs.size+1)=some {cls:=.ref C,data:=.fields #[.ref h.objs.size,.none,.none,.none,.bool false,.none]}:=by heap_get
 have cC:(Value.ref C::bm).contains (.ref C)=true:=by simp
 repeat (first | with_reducible refine wpAny_loadPart_at hC ?_ | with_reducible refine wpAny_madeBy_exc hC ?_ | wp_step)
 refine codeAny_call_builtin_code (Code.quiet_builtin _ F.quiet) (wpAny_check_new_subT F T hC (codeAny_exc_new_subT F T hC ?_ hv))
 show wpAny _ _ _ _ _ _
 unfold isInstance
 repeat (first | with_reducible refine wpAny_loadPart_at g1 ?_ | (with_reducible refine wpAny_isSubtype_exc C1 ?_; rw [cC]) | wp_step)
 show wpAny _ _ (typeLookup (.ref C) _) _ _ _
 refine wpAny_typeLookup_tail C1 n1 T1 F.mroIs F.init.lookup ?_;rw [hi];refine Qq (gt ?_);unfold bindSpecial;refine gt (wpAny_typeOf (T:="function") ⟨_,f1,hc⟩ ?_)
 rw [if_pos (by decide)]
 refine P0 (gt (QD hq (λr s' hr=>?_) λ_ _ z=>z))
 obtain⟨rfl,hQ⟩:=hr
 wp_walk
 exact hQ
theorem EU (F:ExcBaseFacts B newId initId bmB) (T:OwnTail h bmB bm) {vs:List Rg} {fI:Rh} {oI:Rv} {Q:Rg->Rf->Prop} (hC:h.get? C=some (excClassObj nm q C N bs bm hdct sn sub ab col dd k0 k1 k2 k3 k5 newId)) (hn:h.Ns N mN) (hi:mN "__init__"=some (.ref fI)) (hf:h.get? fI=some oI) (hc:oI.cls=.type "function")
  (hq:wpAny (model prog w) (A.under (.builtin "type.__call__" ⟨.ref C::vs,[]⟩)) (call (.ref fI) (.ref (h.objs.size+1)::vs)) (λr s'=>r=.none/\Q (.ref (h.objs.size+1)) s') E ⟨zD h C vs,g,d,t,os⟩) (hv:vs.length<=sizeLine):wpAny (model prog w) A (call (.ref C) vs) Q E ⟨h,g,d,t,os⟩:=by
 have f1:=tc_lookup;have f2:=tc_bind (.ref C);have hT:(⟨h,g,d,t,os⟩:Rf).TypeIs (.ref C) "type":=⟨_,hC,rfl⟩
 refine wpAny_call (codeAny_of_tree ?_)
 show wpAny _ _ (callAny (.ref C) _) _ _ _
 repeat (any_goals (first | assumption | with_reducible refine wpAny_loadPart_at hC ?_ | wp_step))
 exact⟨rfl,codeAny_call_builtin_at (Code.quiet_builtin _ (by decide +kernel)) entry_typeCall (wpAny_check_type_call_sub hC (E4 F T hC hn hi hf hc hq hv))⟩
end
end L2
namespace L2
open PySem PySem.Spec PyProof.Rows Builtin Builtin.ObjectAttr
section
variable {prog:Rk} {w:Rn} {A:Rm} {E:Rg->Rf->Prop} {h:Ro} {g:Rq GenState} {d:Drawn} {t:Nat} {os:OsState}
variable {nm q:Str} {C N x:Rh} {bs bm bmB:List Rg} {sn:List Str} {sub:List Rg} {ab:Rr} {col:Ri Rr} {dd:Ri Rh} {k0 k1 k2 k3 k5:Ri Rg} {B newId sa owner:Rs} {mN:Str->Ri Rg} {name:Str} {v:Rg}
def yz (h:Ro) (e C:Rh) (vs:Rq Rg):Prop:=∃ o,h.get? e=some o/\o.cls=.ref C/\o.data=.fields vs
theorem xc {n what:Str} {self:Rg} {tl:List Rg} (T:js h bmB n tl):refuseLoop self what tl=refuseLoop self what bmB:=by
 induction T with
 | base=>rfl
 | own _ _ _ _ ih=>rw [refuseLoop_ref,ih]
theorem B3 {n:Str} {tl:List Rg} {X:Rs} {b:Rr} (T:js h bmB n tl) (hb:bmB.contains (.type X)=b):tl.contains (.type X)=b:=by
 induction T with
 | base=>exact hb
 | own _ _ _ _ ih=>rw [List.contains_cons,ih]; rfl
theorem CA {M:Model} {o:Rv} {nv:Rg} {n:Str} {Q:Unit->Rf->Prop} (SF:StoreFacts B bmB sa owner) (T:js h bmB n bm) (hC:h.get? C=some (excClassObj nm q C N bs bm true sn sub ab col dd k0 k1 k2 k3 k5 newId)) (hx:h.get? x=some o) (hc:o.cls=.ref C) (hq:Q () ⟨h,g,d,t,os⟩):
  wpAny M A (checkBuiltinCall sa ⟨[.ref x,nv,v],[]⟩) Q E ⟨h,g,d,t,os⟩:=by
 have cB:(Value.ref C::bm).contains (.type owner)=true:=by rw [List.contains_cons,B3 T SF.hasOwner,Bool.or_true]
 have ao:=SF.args (.ref x) nv v;simp only [checkBuiltinCall,SF.kind,SF.split];refine gt ?_;unfold isInstance
 repeat (first | (with_reducible refine wpAny_loadPart_at hx ?_; rw [hc]) | (with_reducible refine wpAny_isSubtype_exc hC ?_; rw [cB]) | wp_step)
 cases sg:Manifest.signature? sa with
 | none=>exact P0 hq
 | some z=>
  simp only [argsOk,sg] at ao
  show wpAny M A (Bind.checkArgs sa z ⟨[.ref x,nv,v],[]⟩) Q E _
  rw [show Bind.checkArgs sa z ⟨[.ref x,nv,v],[]⟩=pure () from ao]
  exact P0 hq
theorem Ca {tk:Tok} {vs:Rq Rg} {o:Rv} {Q:Fin->Rf->Prop} (SF:StoreFacts B bmB sa owner) (hC:h.get? C=some (excClassObj nm q C N bs bm true sn sub ab col dd k0 k1 k2 k3 k5 newId)) (hn:h.Ns N mN) (T:js h bmB name bm) (ha:mN name=none) (hB:typeLookup (.type B) name=pure none)
  (hx:h.get? x=some o) (hc:o.cls=.ref C) (hd:o.data=.fields vs) (h0:o.dict=none) (hq:∀ h' tk',yz h' x C vs->(∀ b o,b≠x->h.get? b=some o->h'.get? b=some o)->Q (.done (.ret .none)) ⟨h',g,d,tk',os⟩):
  wpAny (model prog w) A (Builtin.«object.__setattr__» ⟨[.ref x,.str name tk,v],[]⟩) Q E ⟨h,g,d,t,os⟩:=by
 have pz:=(xc (self:=.ref x) (what:="__setattr__") T).trans (SF.passes (.ref x))
 have xs:x≠h.objs.size:=P_ (P3 hx);have x1:(h.push {cls:=.type "dict",data:=.dict #[]}).get? x=some o:=PZ _ hx
 unfold Builtin.«object.__setattr__»
 repeat (first | rw [refuse_eq] | (rw [refuseLoop_ref,pz]) | (with_reducible refine wpAny_loadPart_at hx ?_; rw [hc]) | with_reducible refine wpAny_mroOf_exc hC ?_ | with_reducible refine tU hC hn T SF.mro hB ha ?_ | wp_step)
 rw [h0,if_neg (by simp [typeHasDict])]
 split
 ·rename_i z
  cases z
 split
 ·rename_i c z
  rw [hd] at z;cases z
 refine gt (wpAny_alloc' (gt (wpAny_update' x1 (P0 ?_))));generalize hh:((h.push {cls:=.type "dict",data:=.dict #[]}).update x λo=>{cls:=o.cls,dict:=some h.objs.size,data:=o.data,slots:=o.slots})=hu
 have gd:hu.get? h.objs.size=some {cls:=.type "dict",data:=.dict #[]}:=by rw [<- hh]; exact(Heap.get?_update_ne _ _ _ _ xs.symm).trans (Heap.get?_push_at rfl rfl)
 have gx:hu.get? x=some {cls:=o.cls,dict:=some h.objs.size,data:=o.data,slots:=o.slots}:=by
  rw [<- hh];refine QJ _ x1 ?_;rw [hd]
  rfl
 have nd:hu.Ns h.objs.size (λ_=>none):=⟨_,#[],_,gd,rfl,λe he=>absurd he (by simp),λ_=>rfl⟩
 show wpAny _ _ (storeInDict h.objs.size (.str name tk) name v) _ _ _
 unfold storeInDict newKeyGuard;refine gt (P0 (gt (wpAny_nsSet1 (Heap.Ns1.of_empty nd) λh' n' hs=>?_)))
 obtain⟨oD,eD,pD,gD,dD,cD⟩:=n'.count (Within.cons name v Within.nil);refine gt (wpAny_lookBehind gD (by rw [dD]; exact pastItsLine_dict (QF cD (by rw [Qf,Ra,sizeLine_eq]; omega))) ?_)
 wp_walk
 refine hq h' _ ⟨_,(hs.2 x xs).trans gx,hc,hd⟩ λb ob nb e=>(hs.2 b (P_ (P3 e))).trans ?_
 rw [<- hh];exact(Heap.get?_update_ne _ _ _ _ nb).trans (PZ _ e)
theorem Es {vs:Rq Rg} {o:Rv} {Q:Unit->Rf->Prop} (SF:StoreFacts B bmB sa owner) (hC:h.get? C=some (excClassObj nm q C N bs bm true sn sub ab col dd k0 k1 k2 k3 k5 newId)) (hn:h.Ns N mN) (T0:js h bmB "__setattr__" bm) (T:js h bmB name bm) (hs:mN "__setattr__"=none) (ha:mN name=none) (hB:typeLookup (.type B) name=pure none)
  (hx:h.get? x=some o) (hc:o.cls=.ref C) (hd:o.data=.fields vs) (h0:o.dict=none) (hq:∀ h' tk',yz h' x C vs->(∀ b o,b≠x->h.get? b=some o->h'.get? b=some o)->Q () ⟨h',g,d,tk',os⟩):
  wpAny (model prog w) A (setAttr (.ref x) name v) Q E ⟨h,g,d,t,os⟩:=by
 have f3:=SF.slot.bind (.ref x);unfold setAttr callSpecial? specialOf
 repeat (any_goals (first | assumption | (with_reducible refine wpAny_loadPart_at hx ?_; rw [hc]) | with_reducible refine tU hC hn T0 SF.mro SF.slot.lookup hs ?_ | wp_step))
 refine codeAny_call_builtin SF.slot.plain SF.entry (CA SF T hC hx hc (Ca SF hC hn T ha hB hx hc hd h0 λh' tk' e1 e2=>?_))
 repeat (any_goals (first | assumption | wp_step))
 exact hq h' tk' e1 e2
end
end L2
namespace L2
open PySem PySem.Spec PyProof.Rows
def oS (K:PySem.W.Frag) (bmB:List Rg) (n:Str):List Rg->Rr
 | []=>bmB == []
 | v::r=>((v::r) == bmB) || (match v with
  | .ref a=>(match K.lookup a with
   | some ⟨_,_,.cls cd,_⟩=>(PySem.W.nsOkIn K cd.ns && (PySem.W.nsIn K cd.ns n == some none)) && oS K bmB n r
   | _=>false)
  | _=>false)
theorem tL {K:PySem.W.Frag} {h:Ro} {bmB:List Rg} {n:Str} (X:K.In h):∀ {l:List Rg},oS K bmB n l=true->js h bmB n l
 | [],e=>by
  have e:(bmB == [])=true:=e;rw [<- beq_iff_eq.mp e];exact .base
 | v::r,e=>by
  unfold oS at e;rcases Bool.or_eq_true_iff.mp e with z | z
  ·rw [beq_iff_eq.mp z];exact .base
  ·split at z
   ·split at z
    ·rename_i y
     simp only [QG,beq_iff_eq] at z;exact .own (X _ _ y) (.of_isNs (PySem.W.isNs_of_in X z.1.1)) (PySem.W.nsMap_none_of_in X z.1.1 z.1.2) (tL X z.2)
    ·cases z
   ·cases z
theorem Jx {K:PySem.W.Frag} {h:Ro} {N:Rh} {m:Str->Ri Rg} {n:Str} {v:Rg} (X:K.In h) (G:h.Ns N m) (e:PySem.W.nsIn K N n=some (some v)):m n=some v:=by
 obtain⟨o,es,ep,ho,hd,_,hf⟩:=G;unfold PySem.W.nsIn at e
 split at e
 ·rename_i z
  have y:=X _ _ z;rw [ho] at y;cases y;cases hd;rw [<- hf];unfold nsFind findBy;rw [<- Array.find?_toList]
  split at e
  ·rename_i u
   cases e;rw [u]
   rfl
  ·split at e <;> cases e
 ·cases e
def J_ (K:PySem.W.Frag) (f:Rh):Rr:=match K.lookup f with
 | some o=>o.cls == .type "function"
 | none=>false
theorem Mv {K:PySem.W.Frag} {f:Rh} (h:J_ K f=true):∃ o,K.lookup f=some o/\o.cls=.type "function":=by
 unfold J_ at h
 split at h
 ·rename_i o e
  exact⟨o,e,beq_iff_eq.mp h⟩
 ·cases h
def A_ (K:PySem.W.Frag) (C:Rh) (bmB:List Rg) (newId:Rs) (fI:Rh) (n:Str):Rr:=match K.lookup C with
 | some ⟨.type "type",_,.cls cd,sl⟩=>(match cd.mro,sl.toList with
  | .ref C'::bm,[_,_,_,_,some (.builtin m),_]=>(C' == C) && ((m == newId) && ((!cd.hasDel) && (cd.hasDict && (PySem.W.tailIn K bmB bm && (oS K bmB "__setattr__" bm && (oS K bmB n bm && (PySem.W.nsOkIn K cd.ns && ((PySem.W.nsIn K cd.ns "__init__" == some (some (.ref fI))) && ((PySem.W.nsIn K cd.ns "__setattr__" == some none) && ((PySem.W.nsIn K cd.ns n == some none) && (J_ K fI && (PySem.W.keepIn K (.ref C)))))))))))))
  | _,_=>false)
 | _=>false
structure Om (K:PySem.W.Frag) (C:Rh) (bmB:List Rg) (newId:Rs) (fI:Rh) (n:Str):Prop where
 obj:∃ (tl:List Rg) (N:Rh) (nm q:Str) (bs:List Rg) (sn:List Str) (sub:List Rg) (ab:Rr) (col:Ri Rr) (dd:Ri Rh) (k0 k1 k2 k3 k5:Ri Rg),
  K.lookup C=some (excClassObj nm q C N bs tl true sn sub ab col dd k0 k1 k2 k3 k5 newId)/\(∃ oI,K.lookup fI=some oI/\oI.cls=.type "function")/\PySem.W.keepIn K (.ref C)=true/\∀ h:Ro,K.In h->∃ mN,h.Ns N mN/\mN "__init__"=some (.ref fI)/\mN "__setattr__"=none/\mN n=none/\OwnTail h bmB tl/\js h bmB "__setattr__" tl/\js h bmB n tl
theorem vS {K:PySem.W.Frag} {C:Rh} {bmB:List Rg} {newId:Rs} {fI:Rh} {n:Str} (q:A_ K C bmB newId fI n=true):Om K C bmB newId fI n:=by
 refine⟨?_⟩;unfold A_ at q
 split at q
 ·rename_i d1 c1 sl hlk
  split at q
  ·rename_i C1 bm a0 a1 a2 a3 nn a5 hmro hsl
   simp only [QG,beq_iff_eq,Bool.not_eq_true'] at q;obtain⟨q1,q2,q3,q4,q5,q6,q7,q8,q9,q10,q11,q12,q13⟩:=q;subst q1 q2;obtain⟨v1,v2,v3,v4,v5,v6,v7,v8,v9,v10,v11⟩:=c1;dsimp only at hmro q3 q4 q8 q9 q10 q11
   subst hmro q3 q4;obtain⟨l⟩:=sl;simp only at hsl;subst hsl;exact⟨bm,v4,v1,v5,v2,v7,v8,v9,v10,d1,a0,a1,a2,a3,a5,hlk,Mv q12,q13,λh X=>⟨_,.of_isNs (PySem.W.isNs_of_in X q8),Jx X (.of_isNs (PySem.W.isNs_of_in X q8)) q9,PySem.W.nsMap_none_of_in X q8 q10,PySem.W.nsMap_none_of_in X q8 q11,PySem.W.tail_of_in X q5,tL X q6,tL X q7⟩⟩
  ·cases q
 ·cases q
section
variable {M:Model} {A:Rm} {E:Rg->Rf->Prop} {env:Env}
variable {nm q:Str} {C N:Rh} {bs bm:List Rg} {hdct:Rr} {sn:List Str} {sub:List Rg} {ab:Rr} {col:Ri Rr} {dd:Ri Rh} {k0 k1 k2 k3 k5:Ri Rg} {newId:Rs}
theorem BJ {s:Rf} {x:Sem Rg} {Q:Flow->Rf->Prop} (hbase:bm.contains (.type "BaseException")=true) (hh:A.handled=none)
  (h:wpAny M A x (λv s1=>∃ e o vs,v=.ref e/\s1.heap.get? C=some (excClassObj nm q C N bs bm hdct sn sub ab col dd k0 k1 k2 k3 k5 newId)/\s1.heap.get? e=some o/\o.cls=.ref C/\o.data=.fields vs/\vs[1]?=some .none/\E (.ref e) s1) E s):wpAny M A (raiseStmt env (some x) none) Q E s:=by
 have cB:(Value.ref C::bm).contains (.type "BaseException")=true:=by rw [List.contains_cons,hbase,Bool.or_true]
 unfold raiseStmt;refine gt (QD h (λv s1 h1=>?_) λ_ _ z=>z)
 obtain⟨e,o,vs,rfl,hC,he,hc,hd,hv,hE⟩:=h1;obtain⟨hp,g,d,tk,os⟩:=s1
 repeat (first | (with_reducible refine wpAny_loadPart_at he ?_; rw [hc]) | with_reducible refine wpAny_loadPart_at hC ?_ | (with_reducible refine wpAny_isSubtype_exc hC ?_; rw [cB]) | with_reducible refine QE he hd hv ?_ | wp_step)
 exact wpAny_raiseNew_none hh hE
end
section
variable {P:Rk} {w:Rn} {K:PySem.W.Frag} {mg:Str->Ri Rg} {base:Ro} {N:List Str} {Rx:Str} {scope:Scope} {f:Rh} {cd:Rg} {A:Rm} {outer:List Env} {s0:Rf} {H0:Hp} {E:XK}
abbrev pF (P:Rk) (w:Rn) (K:PySem.W.Frag) (mg:Str->Ri Rg) (base:Ro) (N:List Str) (Rx:Str) (scope:Scope) (f:Rh) (cd:Rg) (A:Rm) (outer:List Env) (s0:Rf) (H0:Hp) (E:XK):Cx:=de (iy P w) P w K mg base N Rx scope f cd A outer s0 H0 E
end
inductive xq (h:Ro):Rh->Rh->Prop
 | one {a b:Rh} {o:Rv} {vs:Rq Rg}:h.get? a=some o->o.data=.fields vs->vs[2]?=some (.ref b)->xq h a b
 | step {a b c:Rh} {o:Rv} {vs:Rq Rg}:h.get? a=some o->o.data=.fields vs->vs[2]?=some (.ref b)->xq h b c->xq h a c
theorem xq.snoc {h:Ro} {a b c:Rh} {o:Rv} {vs:Rq Rg} (x:xq h a b) (g:h.get? b=some o) (d:o.data=.fields vs) (v:vs[2]?=some (.ref c)):xq h a c:=by
 induction x with
 | one p q r=>exact .step p q r (.one g d v)
 | step p q r _ ih=>exact .step p q r (ih g)
theorem xq.next {h:Ro} {a c:Rh} (x:xq h a c):∃ b o vs,h.get? a=some o/\o.data=.fields vs/\vs[2]?=some (.ref b)/\(b=c\/xq h b c):=by
 cases x with
 | one p q r=>exact⟨_,_,_,p,q,r,.inl rfl⟩
 | step p q r y=>exact⟨_,_,_,p,q,r,.inr y⟩
theorem ny:entryFor table "proto.unchain"=some Builtin.«proto.unchain»:=entryFor_of_tree (by kernel_rfl)
section
variable {prog:Rk} {w:Rn} {A:Rm} {R:Result->Rf->Prop} {h B:Ro} {g:Rq GenState} {d:Drawn} {t:Nat} {os:OsState} {e:Rh}
theorem unchain (hB:B.StaysIn h) (ne:∀ a o,B.get? a=some o->a≠e) (hR:R (.ok (.ret .none)) ⟨h,g,d,t,os⟩) {v:Rg} (c:j6 B v):∀ {cur sl:Rh} {tg:Rr} {o:Rv} {vs:Rq Rg},h.get? cur=some o->o.data=.fields vs->vs[2]?=some v->(tg=false->sl=cur\/xq h sl cur)->(tg=true->xq h sl cur)->
  codeAny (model prog w) A (.builtin "proto.unchain" ⟨[.ref e,.ref cur,.ref sl,.bool tg],[]⟩) R ⟨h,g,d,t,os⟩:=by
 induction c with
 | last=>
  intro cur sl tg o vs hc hd hv _ _;refine Qz ny ?_;unfold Builtin.«proto.unchain»;refine gt (QE hc hd hv ?_)
  wp_walk
  exact hR
 | more ga gd gv cc ih=>
  rename_i a oa va v'
  intro cur sl tg o vs hc hd hv h1 h2;have ae:=ne _ _ ga;have ha:=hB _ _ ga;refine Qz ny ?_;unfold Builtin.«proto.unchain»;refine gt (QE hc hd hv ?_);have z1:(Value.ref a == Value.none)=false:=rfl;have z2:(Value.ref a == Value.ref e)=false:=by simp [ae]
  simp only [z1,z2,Q9,if_false]
  by_cases as:a=sl
  ·subst as;simp only [beq_self_eq_true,if_true]
   wp_walk
   exact hR
  ·have z3:(Value.ref a == Value.ref sl)=false:=by simp [as]
   simp only [z3,Q9,if_false];cases tg with
   | false=>
    simp only [Q9,if_false];refine gt (P0 ?_);refine P0 ⟨Code.quiet_builtin _ (by decide +kernel),ih ha gd gv (λz=>by cases z) λ_=>?_⟩
    rcases h1 rfl with rfl | y
    ·exact .one hc hd hv
    ·exact y.snoc hc hd hv
   | true=>
    obtain⟨b,ob,vb,x1,x2,x3,x4⟩:=(h2 rfl).next;simp only [if_true];refine gt (QE x1 x2 x3 ?_);refine P0 ⟨Code.quiet_builtin _ (by decide +kernel),ih ha gd gv (λ_=>?_) λz=>by cases z⟩
    rcases x4 with rfl | y
    ·exact .inr (.one hc hd hv)
    ·exact .inr (y.snoc hc hd hv)
end
theorem zW {X:Cx} {A':Rm} {Rw:List (Rh×Rv)} {s:Rf} {σ:St} {H:Hp} {E:Rg->Rf->Prop} {Q:Rg->Rf->Prop} {i:Nat} {x:Str} {pos:Pos} {v:V} (I:aC X Rw σ H s) (hN:X.N[i]?=some x) (hv:Af X.env.scope x) (hd:(x == ("__debug__":Str))=false) (hcd:(x == ("__classdict__":Str))=false) (e:σ[i]?=some (some v))
  (fin:∀ u,aP v u->Q u s):wpAny (model X.prog X.w) A' (eval (.Name x pos) X.env) Q E s:=by
 obtain⟨m,hn,hl⟩:=I.loc;obtain⟨u,r,l⟩:=hl i x v hN e hv;rcases l with ⟨hk,hm⟩ | ⟨hk,c,hc,hcell⟩
 ·exact wpAny_Name (wpAny_loadName_local I.ok.kind hk hn hm (fin u r)) hd
 ·rcases hk with hk | hk
  ·exact wpAny_Name (wpAny_loadName_cell I.ok.kind hk hc hcell (fin u r)) hd
  ·exact wpAny_Name (wpAny_loadName_free I.ok.kind hk hc hcell (fin u r) hcd) hd
structure E7 (K:PySem.W.Frag) (C fI:Rh) (bmB:List Rg) (newId:Rs) (n y nmI Rx:Str) (st:Rp) (fd:FuncData):Prop where
 fn:xo K nmI Rx st fI fd
 sc:ar ["self",y] ["self",y] (aj st)
 body:∃ p1 p2 p3 pos,bL st=[.Assign [.Attribute (.Name "self" p1) n p2] (.Name y p3) pos]
 v1:Af (aj st) "self"
 v2:Af (aj st) y
 d2:(y == ("__debug__":Str))=false
 c2:(y == ("__classdict__":Str))=false
 ini:A_ K C bmB newId fI n=true
theorem z_ {P:Rk} {w:Rn} {K:PySem.W.Frag} {mg:Str->Ri Rg} {base:Ro} {C fI:Rh} {bmB:List Rg} {B newId sa owner:Rs} {n y nmI Rx:Str} {st:Rp} {fd:FuncData} (F:E7 K C fI bmB newId n y nmI Rx st fd)
  (SF:StoreFacts B bmB sa owner) (hB:typeLookup (.type B) n=pure none) {A A':Rm} {outer:List Env} {h:Ro} {g:Rq GenState} {d:Drawn} {t:Nat} {os:OsState} {H:Hp} {e:Rh} {us:Rq Rg} {o:Rv} {v:V} {u:Rg} {R:Result->Rf->Prop} (hr:b3 1 A) (hA:A'.depth < recursionLimit) (e0:xW P w K mg base A outer ⟨h,g,d,t,os⟩ H)
  (bi:BindsTo ⟨h,g,d,t,os⟩ fd ⟨[.ref e,u],[]⟩ (([("self":Str),y]:List Str).zip [.ref e,u])) (r:aP v u) (he:h.get? e=some o) (hc:o.cls=.ref C) (hd:o.data=.fields us) (h0:o.dict=none)
  (q:∀ h' tk',yz h' e C us->(∀ b o,b≠e->h.get? b=some o->h'.get? b=some o)->R (.ok (.ret .none)) ⟨h',g,d,tk',os⟩):codeAny (model P w) A' (.call (.ref fI) ⟨[.ref e,u],[]⟩) R ⟨h,g,d,t,os⟩:=by
 obtain⟨Ff,S,⟨p1,p2,p3,pos,hb⟩,v1,v2,d2,c2,hK⟩:=F;obtain⟨oc,od,kV,doc,pm,an,cdv,ct,osl,rfl,lk,hcd⟩:=Ff.ex;have KX:K.In h:=e0.mod.kin.keeps λb o e=>(e0.bs b o e).1
 have li:h.NoLimit:=e0.mod.nolimit.keeps λb o e=>(e0.bs b o e).1
 have hkind:∀ x∈([("self":Str),y]:List Str).zip [Value.ref e,u],(aj st).names.lookup x.1=some .local\/((aj st).names.lookup x.1=some .cell/\((cellsFrom (h.objs.size+1) (aj st).names []).lookup x.1).isSome=true):=λ⟨m,a⟩ hy=>by
  rcases S.par m (List.of_mem_zip hy).1 with k | k
  ·exact .inl k
  ·exact .inr ⟨k,PySem.W.cellsFrom_some _ _ _ (.inl k)⟩
 refine codeAny_call_function hA (KX _ _ lk) rfl S.co S.gen rfl (PySem.W.codeRec_of KX hcd) (bi _ _ _ _ ?_);refine wpAny_newFunctionEnv_cells S.kind hkind λenv he' s1 x=>?_
 subst he';refine⟨li.keeps x.toInCall.keep,codeAny_func ?_⟩;have rr:bf [V.ref e,v] [Value.ref e,u]:=.cons rfl (.cons r .nil);have I:aC (de cN P w K mg base ["self",y] Rx (aj st) fI cdv A outer ⟨h,g,d,t,os⟩ H E0) [] (start ["self",y] [V.ref e,v]) H s1:=uZ S hr.hd e0 rfl rr x
 obtain⟨tl,N,nm,qn,bs,sn,sub,ab,col,dd,k0,k1,k2,k3,k5,lk,_,_,al⟩:=(vS hK).obj;have hC:=I.kIn _ _ lk;obtain⟨mN,hn,hi,hse,hna,T,T0,T1⟩:=al _ I.kIn;obtain⟨h1,tk,rfl,hk⟩:=x.done;have he1:=hk _ _ he
 show wpAny (model P w) _ (execs (bL st) _) _ _ _
 rw [hb];refine wpAny_execs_cons (plainObj_wpAny_Assign_Attribute (zW I (i:=1) rfl v2 d2 c2 rfl λu2 r2=>?_) rfl)
 refine zW I (i:=0) rfl v1 rfl rfl rfl λu1 r1=>?_
 cases (show u1=Value.ref e from r1)
 refine Es SF hC hn T0 T1 hse hna hB he1 hc hd h0 λh' tk' er kp=>?_
 exact wpAny_execs_nil (q h' tk' er λb o nb gg=>kp b o nb (hk b o gg))
section
variable {prog:Rk} {w:Rn} {A:Rm} {E:Rg->Rf->Prop} {env:Env}
variable {nm q:Str} {C N:Rh} {bs bm:List Rg} {hdct:Rr} {sn:List Str} {sub:List Rg} {ab:Rr} {col:Ri Rr} {dd:Ri Rh} {k0 k1 k2 k3 k5:Ri Rg} {newId:Rs}
theorem zZ {s:Rf} {x c:Sem Rg} {Q:Flow->Rf->Prop} {ea:Rh} (hbase:bm.contains (.type "BaseException")=true) (hh:A.handled=some (.ref ea)) (hc:∀ {Q:Rg->Rf->Prop} {s:Rf},Q .none s->wpAny (model prog w) A c Q E s)
  (h:wpAny (model prog w) A x (λv s1=>∃ e o vs,v=.ref e/\s1.heap.get? C=some (excClassObj nm q C N bs bm hdct sn sub ab col dd k0 k1 k2 k3 k5 newId)/\C≠e/\s1.heap.get? e=some o/\o.cls=.ref C/\o.data=.fields vs/\vs.size=6/\vs[1]?=some .none/\ea≠e/\
   (∃ (B:Ro) (oa:Rv) (va:Rq Rg) (w2:Rg),B.StaysIn s1.heap/\(∀ a o,B.get? a=some o->a≠e)/\s1.heap.get? ea=some oa/\oa.data=.fields va/\va[2]?=some w2/\j6 B w2)/\
   ∀ h',yz h' e C (((vs.setIfInBounds 3 .none).setIfInBounds 4 (.bool true)).setIfInBounds 2 (.ref ea))->(∀ b o,b≠e->s1.heap.get? b=some o->h'.get? b=some o)->E (.ref e) {s1 with heap:=h'}) E s):wpAny (model prog w) A (raiseStmt env (some x) (some c)) Q E s:=by
 have cB:(Value.ref C::bm).contains (.type "BaseException")=true:=by rw [List.contains_cons,hbase,Bool.or_true]
 unfold raiseStmt;refine gt (QD h (λv s1 h1=>?_) λ_ _ z=>z)
 obtain⟨e,o,vs,rfl,hC,Ce,he,hcl,hd,hz,hv,ae,⟨B,oa,va,w2,hB,hn,ga,da,a2,cx⟩,hE⟩:=h1;obtain⟨hp,g,d,tk,os⟩:=s1;refine gt (Qq (hc ?_));have d1:=Obj.data_mapFields hd (·.setIfInBounds 3 Value.none);have e1:=QJ (Obj.mapFields (·.setIfInBounds 3 Value.none)) he (Obj.isFreed_of_fields d1);have d2:=Obj.data_mapFields d1 (·.setIfInBounds 4 (Value.bool true));have e2:=QJ (Obj.mapFields (·.setIfInBounds 4 (Value.bool true))) e1 (Obj.isFreed_of_fields d2)
 repeat (first | (with_reducible refine wpAny_loadPart_at he ?_; rw [hcl]) | with_reducible refine wpAny_loadPart_at hC ?_ | (with_reducible refine wpAny_isSubtype_exc hC ?_; rw [cB]) | wp_step)
 rw [hd];dsimp only;rw [if_pos (by omega)]
 have c1:(Obj.mapFields (·.setIfInBounds 3 Value.none) o).cls=.ref C:=(Obj.cls_mapFields _ _).trans hcl;have c2:(Obj.mapFields (·.setIfInBounds 4 (Value.bool true)) (Obj.mapFields (·.setIfInBounds 3 Value.none) o)).cls=.ref C:=(Obj.cls_mapFields _ _).trans c1;refine wpAny_update' he (gt (wpAny_setField e1 d1 (by rw [Array.size_setIfInBounds]; omega) ?_))
 have ot:∀ b,b≠e->((hp.update e (Obj.mapFields (·.setIfInBounds 3 Value.none))).update e (Obj.mapFields (·.setIfInBounds 4 (Value.bool true)))).get? b=hp.get? b:=λb nb=>(Qw _ _ (Ne.symm nb)).trans (Qw _ _ (Ne.symm nb))
 have C2:=(ot C Ce).trans hC;have v2:((vs.setIfInBounds 3 Value.none).setIfInBounds 4 (Value.bool true))[1]?=some .none:=by rw [Array.getElem?_setIfInBounds_ne (by decide),Array.getElem?_setIfInBounds_ne (by decide)]; exact hv
 generalize hh2:(hp.update e (Obj.mapFields (·.setIfInBounds 3 Value.none))).update e (Obj.mapFields (·.setIfInBounds 4 (Value.bool true)))=h2 at e2 ot C2 ⊢
 generalize ho2:Obj.mapFields (·.setIfInBounds 4 (Value.bool true)) (Obj.mapFields (·.setIfInBounds 3 Value.none) o)=o2 at e2 d2 c2 ⊢
 repeat (first | (with_reducible refine wpAny_loadPart_at e2 ?_; rw [c2]) | with_reducible refine wpAny_loadPart_at C2 ?_ | (with_reducible refine wpAny_isSubtype_exc C2 ?_; rw [cB]) | with_reducible refine QE e2 d2 v2 ?_ | wp_step)
 have hB2:B.StaysIn h2:=λa o p=>(ot a (hn a o p)).trans (hB a o p)
 have ga2:=(ot ea ae).trans ga;refine gt (wpAny_handled ?_);rw [hh];dsimp only;rw [if_pos (by simp [ae])]
 refine gt (Qq (wpAny_runValue (unchain hB2 hn ?_ cx ga2 da a2 (λ_=>.inl rfl) (λz=>by cases z))))
 have z2:((vs.setIfInBounds 3 Value.none).setIfInBounds 4 (Value.bool true)).size=6:=by rw [Array.size_setIfInBounds,Array.size_setIfInBounds]; exact hz
 have d3:=Obj.data_mapFields d2 (·.setIfInBounds 2 (Value.ref ea));have e3:=QJ (Obj.mapFields (·.setIfInBounds 2 (Value.ref ea))) e2 (Obj.isFreed_of_fields d3);have c3:(Obj.mapFields (·.setIfInBounds 2 (Value.ref ea)) o2).cls=.ref C:=(Obj.cls_mapFields _ _).trans c2;dsimp only;refine gt (wpAny_setField (a:=e) e2 d2 (by rw [z2]; decide) ?_)
 refine wpAny_throw (hE _ ⟨_,e3,c3,d3⟩ λb o nb g=>?_)
 exact(Qw _ _ (Ne.symm nb)).trans ((ot b nb).trans g)
end
theorem j6.mono {B B':Ro} {v:Rg} (c:j6 B v) (k:∀ a o vs,B.get? a=some o->o.data=.fields vs->B'.get? a=some o):j6 B' v:=by
 induction c with
 | last=>exact .last
 | more ga gd gv _ ih=>exact .more (k _ _ _ ga gd) gd gv ih
section
variable {M:Model} {A A':Rm} {E E':Rg->Rf->Prop} {s:Rf} {B:Ro} {env:Env} {outer:List Env} {L e:Rh} {Q:Unit->Rf->Prop}
theorem Au {l:List Env} {cls a0 f0:Rg} (fr:Ri Rh) (x1:B.StaysIn s.heap) (x2:B.get? e=none) (x3:s.heap.FunFrames B l) (x4:s.heap.TracedAtW B e cls a0 f0) (x5:CZ B s.heap e)
  (hQ:∀ h',B.StaysIn h'->h'.FunFrames B l->h'.TracedAtW B e cls a0 (fr.elim Value.none λf=>rawInt f)->CZ B h' e->s.heap.UpToSlots h'->Q () {s with heap:=h'}):wpAny M A (setFlight (.ref e) fr) Q E s:=by
 obtain⟨oe,vs,T,oT,ts,he,hc,hd,h1,nT,te,hT,dT,h3⟩:=x4;obtain⟨oc,vc,w2,gc,dc,c2,ok2⟩:=x5;rw [he] at gc;cases gc;rw [hd] at dc;cases dc;have z3:3 < ts.size:=(Array.getElem?_eq_some_iff.mp h3).1;have ot:∀ b,b≠T->(s.heap.update T (Obj.mapFields (·.setIfInBounds 3 (fr.elim Value.none λf=>rawInt f)))).get? b=s.heap.get? b:=λb hb=>Qw _ _ (Ne.symm hb)
 have nr:∀ b o,s.heap.get? b=some o->(∀ vs,o.data≠.fields vs)->b≠T:=λb o hb z y=>by
  rw [y,hT] at hb;cases hb;exact z ts dT
 unfold setFlight;refine gt (QE he hd h1 ?_);rw [if_pos (by simp)]
 have ge:=(ot e (Ne.symm te)).trans he;refine wpAny_setField hT dT z3 (hQ _ (λb o y=>(ot b λz=>by rw [z,nT] at y; cases y).trans (x1 b o y)) (x3.of_keeps λb o hb z=>⟨o,(ot b (nr b o hb z)).trans hb,rfl⟩) ?_ ⟨_,_,w2,ge,hd,c2,ok2⟩ λb o hb z=>⟨o.slots,(ot b (nr b o hb z)).trans hb⟩)
 exact⟨oe,vs,T,_,_,ge,hc,hd,h1,nT,te,QJ _ hT (Obj.isFreed_of_fields (Obj.data_mapFields dT _)),Obj.data_mapFields dT _,by simp [z3]⟩
theorem Dp {W:Rg->Rf->Prop} {oe:Rv} {vs:Rq Rg} {a0 v2:Rg} (hW:∀ s2,wpAny M A (leaving env (.ref e)) Q E s2->W (.ref e) s2) (hfr:A'.frames=some (env::outer)) (hl:s.heap.FunFrames B (env::outer)) (hf:env.frame=some L) (he:s.heap.get? e=some oe) (hk:B.StaysIn s.heap) (hn:B.get? e=none) (hd:oe.data=.fields vs) (h1:vs[1]?=some .none) (h0:vs[0]?=some a0) (h2:vs[2]?=some v2) (ok2:j6 B v2)
  (hQ:∀ h',rk B outer e oe.cls a0 h'->s.heap.UpToSlots h'->Q () {s with heap:=h'}):wpAny M A' (noteFrame (.ref e) env) (λ_ s1=>cameBackBy M A env W (.ref e) s1) E' s:=by
 unfold noteFrame;simp only [hf];refine gt (QE he hd h1 ?_);rw [if_neg (by decide)]
 refine pS hfr hl hf he hk hn hd (Array.getElem?_eq_some_iff.mp h1).1 h0 h2 ok2 λh' ⟨x1,x2,x3,x4⟩ cx=>?_
 have x3':=x3;obtain⟨oe',vs',T,oT,ts,he',hc,hd',h1',nT,te,hT,dT,h3⟩:=x3';unfold cameBackBy;refine gt (QE he' hd' h1' ?_);rw [if_neg (by simp),hf]
 refine Au (some L) x1 hn x2 x3 cx λh3 y1 y2 y3 y4 y5=>?_
 refine hW _ ?_;unfold leaving;refine gt (wpAny_noteFrame_againW hf y3 ?_);exact mJ (s:={s with heap:=h3}) ⟨⟨y1,hn,y2,y3⟩,y4⟩ λh4 z2 u2=>hQ h4 (wk z2) (Heap.UpToSlots.trans x4 (Heap.UpToSlots.trans y5 u2))
end
section
variable {P:Rk} {w:Rn} {K:PySem.W.Frag} {mg:Str->Ri Rg} {base:Ro} {N:List Str} {Rx:Str} {scope:Scope} {f:Rh} {cd:Rg} {A:Rm} {outer:List Env} {s0:Rf} {H0:Hp} {E:XK}
theorem AY {Rw:List (Rh×Rv)} {σ:St} {H:Hp} {s s3:Rf} {C e:Rh} {a0:Rg} {h':Ro} (I:aC (pF P w K mg base N Rx scope f cd A outer s0 H0 E) Rw σ H s) (I3:aC (pF P w K mg base N Rx scope f cd A outer s0 H0 E) Rw σ H s3)
  (ne:s.heap.get? e=none) (k3:∀ b o,s.heap.get? b=some o->s3.heap.get? b=some o) (fl:rk (PySem.W.hideAll s3.heap (e::ic (pF P w K mg base N Rx scope f cd A outer s0 H0 E).stack)) outer e (.ref C) a0 h') (up:s3.heap.UpToSlots h') (q:E (.ref C) none H):iy P w outer H0 s0 E (.ref e) {s3 with heap:=h'}:=by
 have He:H e=none:=by
  cases y:H e with
  | none=>rfl
  | some u=>
   obtain⟨o',z⟩:=(I.hok e u y).there;rw [ne] at z;cases z
 have bne:∀ b o,s.heap.get? b=some o->b≠e:=λb o z y=>by rw [y,ne] at z; cases z
 have hide:∀ b o,s.heap.get? b=some o->b∉ic (pF P w K mg base N Rx scope f cd A outer s0 H0 E).stack->(PySem.W.hideAll s3.heap (e::ic (pF P w K mg base N Rx scope f cd A outer s0 H0 E).stack)).get? b=some o:=λb o z hb=>PySem.W.hideAll_get _ (k3 b o z) λy=>by
  rcases P9.mp y with y | y
  ·exact bne b o z y
  ·exact hb y
 refine zE (sx:=s3) I (I3.os.trans I.os.symm) I3.bare fl (λb ob z=>?_) (λb o z n hb=>hide b o z hb) (λb o z hb=>⟨o,hide b o z hb⟩) (λb hb o z=>?_) (λ_ _ _ n=>n) (λ_ _ z=>z) (λ_ _ _ z=>z) (λb ps z=>⟨#[],by rw [z]; simp⟩) q
 ·have be:b≠e:=λy=>by rw [y,He] at z; cases z
  refine(I3.hok b ob z).stay (λc v hc y=>PySem.W.hideAll_get _ y λhf=>?_) (λ_ y=>y) λ_ _ y=>y
  rcases P9.mp hf with rfl | hf
  ·rcases hc with rfl | hc
   ·exact be rfl
   ·rw [He] at hc; cases hc
  ·have hn:=I3.stkFree c hf;rcases hc with rfl | hc
   ·rw [hn] at z; cases z
   ·rw [hn] at hc; cases hc
 ·have hb':b∈ic (pF P w K mg base N Rx scope f cd A outer s0 H0 E).stack:=Qb _ hb;have e1:=k3 b o z;obtain⟨_,o2,e2,d2⟩:=I3.stack.mem hb';rw [e1] at e2;cases e2;exact up b _ e1 d2
end
theorem AQ {X:Cx} {Rw:List (Rh×Rv)} {σ:St} {H:Hp} {h:Ro} {g:Rq GenState} {d:Drawn} {t:Nat} {os:OsState} {x ay yI n nmI qI:Str} {C fI:Rh} {bmB:List Rg} {B newId initId sa owner:Rs} {st:Rp} {fd:FuncData} {A':Rm} {j:Nat} {v:V} {np ap cpos:Pos} {Q:Rg->Rf->Prop} {W:Rg->Rf->Prop} (FB:ExcBaseFacts B newId initId bmB) (F:E7 X.K C fI bmB newId n yI nmI qI st fd) (SF:StoreFacts B bmB sa owner) (hB:typeLookup (.type B) n=pure none) (hb:ju X.K fd ["self",yI] []) (hm:X.mg x=some (.ref C))
  (hr:b3 2 X.A) (hA:∀ c,(A'.under c).depth=(X.A.under c).depth) (I:aC X Rw σ H ⟨h,g,d,t,os⟩) (hx:∀ {Q:Rg->Rf->Prop},Q (.ref C) ⟨h,g,d,t,os⟩->wpAny (model X.prog X.w) A' (eval (.Name x np) X.env) Q W ⟨h,g,d,t,os⟩) (hN:X.N[j]?=some ay) (hv:Af X.env.scope ay) (hd:(ay == ("__debug__":Str))=false) (hcd:(ay == ("__classdict__":Str))=false) (e1:σ[j]?=some (some v))
  (he:starEach [.Name ay ap] X.env=[(false,eval (.Name ay ap) X.env)])
  (hq:∀ h' tk' a,h.get? (h.objs.size+1)=none->(∀ b o,h.get? b=some o->h'.get? b=some o)->yz h' (h.objs.size+1) C #[.ref a,.none,.none,.none,.bool false,.none]->Q (.ref (h.objs.size+1)) ⟨h',g,d,tk',os⟩):
  wpAny (model X.prog X.w) A' (eval (.Call (.Name x np) [.Name ay ap] [] cpos) X.env) Q W ⟨h,g,d,t,os⟩:=by
 obtain⟨tl,Nn,nm,qn,bs,sn,sub,ab,col,dd,k0,k1,k2,k3,k5,lk,⟨oI,lI,cI⟩,kp,al⟩:=(vS F.ini).obj;obtain⟨mN,hn,hi,_,_,T,_,_⟩:=al _ I.kIn;refine wpAny_Call_Name_kw (hx ?_);refine PySem.W.callWith_K (h₀:=X.base) I.ok.mod.kin kp ?_ he rfl;rw [he]
 show wpAny _ _ (spliced [(false,eval (.Name ay ap) X.env)]) _ _ _
 refine Calls.spliced_cons (zW I hN hv hd hcd e1 λu r=>Calls.spliced_nil ⟨I.kIn,?_⟩)
 show wpAny _ _ (call (.ref C) [u]) _ _ _
 refine EU FB T (I.kIn _ _ lk) hn hi (I.kIn _ _ lI) cI ?_ (Qi rfl);have kk:∀ b o,h.get? b=some o->(zD h C [u]).get? b=some o:=λb o z=>PZ _ (PZ _ z)
 have g1:(zD h C [u]).get? (h.objs.size+1)=some {cls:=.ref C,data:=.fields #[.ref h.objs.size,.none,.none,.none,.bool false,.none]}:=by heap_get
 have I2:aC X Rw σ H ⟨zD h C [u],g,d,t,os⟩:=I.kept kk;have hr':=hr.make C [u] [];refine wpAny_call (z_ F SF hB hr' ?_ (I2.env0.make C [u] []) (hb _ [.ref (h.objs.size+1),u] I2.kIn rfl) r g1 rfl rfl rfl λh' tk' er kp=>⟨rfl,?_⟩)
 ·rw [hA]; exact hr'.depth
 ·have nw:h.get? (h.objs.size+1)=none:=Heap.get?_none_of_le (Nat.le_succ _);exact hq h' tk' _ nw (λb o z=>kp b o (λy=>by rw [y,nw] at z; cases z) (kk b o z)) er
theorem Hf {X:Cx} {Rw:List (Rh×Rv)} {σ:St} {H:Hp} {s s':Rf} {E:XK} {e:Rg} (hex:X.ex=[]) (hst:X.stack=X.env::X.outer) (hf:X.env.frame=some X.env.locals) (I:aC X Rw σ H s) (h:iy X.prog X.w X.stack H s E e s') {Cn:Str} {cv:Rg} {p1 hp:Pos} {b0:Rp} {suite:List Rp} {Q:Flow->Rf->Prop}
  (hg:Gl X Cn) (hm:X.mg Cn=some cv) (hdb:(Cn == ("__debug__":Str))=false) (hx:∀ c H',E c none H'->PySem.W.exmOne X.K c cv=some true)
  (k:∀ ea c H' o s6 B vs v2,E c none H'->H' ea=none->o.cls=c->ea∉ic X.stack->o.data=.fields vs->vs[2]?=some v2->j6 B v2->B.StaysIn s6.heap->s6.heap.get? ea=some o->aC X Rw σ (bS H' ea (.frz o (.ext λ_=>True))) s6->
   wpAny (model X.prog X.w) (X.A.mark (some (.ref ea))) (execs (b0::suite) X.env) Q (notedBy (model X.prog X.w) (X.A.mark (some (.ref ea))) X.env λx s2=>cameBackBy (model X.prog X.w) X.A X.env X.xe x s2) s6):
  wpAny (model X.prog X.w) X.A (noteFrame e X.env) (λ_ s2=>wpAny (model X.prog X.w) X.A (setFlight e none) (λ_ s3=>wpAny (model X.prog X.w) X.A (handleBy e X.env [.ExceptHandler (some (.Name Cn p1)) none (b0::suite) hp]) Q X.xe s3) X.xe s2) X.xe s':=by
 obtain⟨ea,cls,a0,H',B,rfl,os,bare,flc,hok,hB,hB2,un,q⟩:=h;have fl:=flc.1;have fr0:X.A.frames=some (X.env::X.outer):=by rw [<- hst]; exact I.ok.frames
 have fl0:rk B (X.env::X.outer) ea cls a0 s'.heap:=by rw [<- hst]; exact flc
 refine vE fr0 hf fl0 λh4 held4 up4=>?_
 refine mJ held4 λh5 fl5 up5=>?_
 have up45:=up4.trans up5;have I5:=I.landed os bare fl (by rw [hst]; exact fl5.1) up45 hok hB hB2 un
 obtain⟨ob,hob,hobc⟩:=fl5.1.there;refine wpAny_handleBy_cons (codeAny_handlers_test (jr (X:=X.marked (.ref ea) qH) (I5.marked (.ref ea) _) hg hm ?_ hdb)) (by intro z; cases z)
 have LT:PySem.W.Looks (model X.prog X.w) h5 (typeOf (.ref ea)) cls:=by
  subst hobc;exact(PySem.W.Looks.ld hob).andThen .now
 refine PySem.W.exm_one I5.kIn LT (hx cls H' q) _ _ _ _ (λ_ _ z=>z) ?_
 refine codeAny_handlers_suite ?_;refine Au none fl5.1.1 fl5.1.2.1 fl5.1.2.2.1 fl5.1.2.2.2.at fl5.2 λh6 y1 y2 y3 y4 up6=>?_
 have fl6:Heap.FlyingW B (X.env::X.outer) ea cls a0 h6:=⟨y1,fl5.1.2.1,y2,y3⟩;have I6:=I.landed os bare fl (by rw [hst]; exact fl6) (up45.trans up6) hok hB hB2 un
 obtain⟨o6,ho6,hc6⟩:=fl6.there;obtain⟨oc,vc,v2,gc,dc,c2,cx⟩:=y4;rw [ho6] at gc;cases gc;have nfr:ea∉ic X.stack:=λz=>by
  obtain⟨_,o2,e2,d2⟩:=fl.2.2.1.mem z;obtain⟨oe,vs,T,oT,ts,w1,w2,w3,w4⟩:=fl.2.2.2;rw [w1] at e2;cases e2;exact d2 _ w3
 have nB:B.get? ea=none:=fl.2.1;have nw:∀ b o,s.heap.get? b=some o->b≠ea:=λb o z y=>by
  subst y;obtain⟨o',z'⟩:=hB2 b o z nfr;rw [nB] at z';cases z'
 have hn:H' ea=none:=by
  cases y:H' ea with
  | none=>rfl
  | some u=>
   obtain⟨o',z'⟩:=(hok ea u y).there;rw [nB] at z';cases z'
 have h0:X.s₀.heap.get? ea=none:=by
  cases y:X.s₀.heap.get? ea with
  | none=>rfl
  | some u=>
   obtain⟨o',z'⟩:=I.base.there ea u y (by rw [hex]; simp)
   exact absurd rfl (nw ea o' z')
 have I7:=I6.freeze ho6 hn h0 (λz=>nfr (by rw [hst,z]; unfold ic; rw [List.filterMap_cons,hf]; exact Qa)) (λx c z=>by
  obtain⟨v,o,z2,_⟩:=I.cell x c z;exact nw c o z2) (λp z=>nw p.1 p.2 (I.pin p z).1)
 exact k ea cls H' o6 _ B vc v2 q hn hc6 nfr dc c2 cx y1 ho6 I7
section
variable {P:Rk} {w:Rn} {K:PySem.W.Frag} {mg:Str->Ri Rg} {base:Ro} {N:List Str} {Rx:Str} {scope:Scope} {f:Rh} {cd:Rg} {A:Rm} {outer:List Env} {s0:Rf} {H0:Hp} {E:XK}
def MS (E:XK) (C:Rh) (j:Nat):TS:=λ_ σ H=>(∃ v,σ[j]?=some (some v))/\E (.ref C) none H
theorem C7 {stack:List Env} {h:Ro} {e:Rh}:∀ env∈stack,∀ b,env.frame=some b->b∈e::ic stack:=λenv he b hb=>Qb _ (List.mem_filterMap.mpr ⟨env,he,hb⟩)
theorem BA {x ay yI n nmI qI:Str} {C fI:Rh} {bmB:List Rg} {B newId initId sa owner:Rs} {st:Rp} {fd:FuncData} {j:Nat} {np ap cpos pos:Pos} (FB:ExcBaseFacts B newId initId bmB) (F:E7 K C fI bmB newId n yI nmI qI st fd) (SF:StoreFacts B bmB sa owner) (hB:typeLookup (.type B) n=pure none) (hb:ju K fd ["self",yI] []) (hm:mg x=some (.ref C))
  (hr:b3 2 (pF P w K mg base N Rx scope f cd A outer s0 H0 E).A) (hg:Gl (pF P w K mg base N Rx scope f cd A outer s0 H0 E) x) (hN:N[j]?=some ay) (hv:Af scope ay) (hdx:(x == ("__debug__":Str))=false:=by decide) (hd:(ay == ("__debug__":Str))=false:=by decide) (hcd:(ay == ("__classdict__":Str))=false:=by decide)
  (he:starEach [.Name ay ap] (pF P w K mg base N Rx scope f cd A outer s0 H0 E).env=[(false,eval (.Name ay ap) (pF P w K mg base N Rx scope f cd A outer s0 H0 E).env)]:=by rfl):
  PS (pF P w K mg base N Rx scope f cd A outer s0 H0 E) (.Raise (some (.Call (.Name x np) [.Name ay ap] [] cpos)) none pos) (MS E C j):=by
 intro Rw s σ H D I h;obtain⟨⟨v,e1⟩,q⟩:=h;obtain⟨tl,Nn,nm,qn,bs,sn,sub,ab,col,dd,k0,k1,k2,k3,k5,lk,⟨oI,lI,cI⟩,kp,al⟩:=(vS F.ini).obj;obtain⟨_,_,_,_,_,T0,_,_⟩:=al _ I.kIn;rw [arm_exec_Raise];simp only [evalOpt,Option.map];refine gt (wpAny_standAt (BJ (C:=C) (nm:=nm) (q:=qn) (N:=Nn) (bs:=bs) (bm:=tl) (hdct:=true) (sn:=sn) (sub:=sub) (ab:=ab) (col:=col) (dd:=dd) (k0:=k0) (k1:=k1) (k2:=k2) (k3:=k3) (k5:=k5) (newId:=newId) (T0.hasType FB.hasBase) (I.ok.hd rfl) ?_));obtain⟨hp,g,d,tk,os⟩:=s;refine gt (AQ FB F SF hB hb hm hr (λ_=>rfl) I (λz=>jr I hg hm z hdx) hN hv hd hcd e1 he λh' tk' a ne kk er=>gt (wpAny_standAt (P0 ?_)))
 obtain⟨o,go,gc,gd⟩:=er;have I3:aC (pF P w K mg base N Rx scope f cd A outer s0 H0 E) Rw σ H ⟨h',g,d,tk',os⟩:=I.kept kk;refine⟨_,o,_,rfl,I3.kIn _ _ lk,go,gc,gd,rfl,?_⟩
 show wpAny _ _ (leaving _ (.ref _)) _ _ _
 refine vj (B:=PySem.W.hideAll h' ((hp.objs.size+1)::ic (pF P w K mg base N Rx scope f cd A outer s0 H0 E).stack)) I.ok.frames (PySem.W.funFrames_hide I3.stack (C7 (h:=h'))) rfl go (λb o z=>PySem.W.of_hideAll _ z) (PySem.W.hideAll_none _ Qa) gd rfl rfl rfl .last λh2 fl up=>?_
 rw [gc] at fl;exact AY I I3 ne kk fl up q
theorem Gx {x0 Cn x ay yI n nmI qI:Str} {cv:Rg} {E':XK} {i k9:Nat} {e:Rj} {te:TX} {C fI:Rh} {bmB:List Rg} {B newId initId sa owner:Rs} {st:Rp} {fd:FuncData} {j:Nat} {xp xap p1 hp np ap cpos npos rpos pos:Pos} (hpe:Fs (pF P w K mg base N Rx scope f cd A outer s0 H0 E) E' e te) (FB:ExcBaseFacts B newId initId bmB) (F:E7 K C fI bmB newId n yI nmI qI st fd) (SF:StoreFacts B bmB sa owner) (hB:typeLookup (.type B) n=pure none) (hb:ju K fd ["self",yI] []) (hm:mg x=some (.ref C))
  (hr:b3 2 (pF P w K mg base N Rx scope f cd A outer s0 H0 E).A) (hg:Gl (pF P w K mg base N Rx scope f cd A outer s0 H0 E) x) (hN:N[j]?=some ay) (hv:Af scope ay) (hgC:Gl (pF P w K mg base N Rx scope f cd A outer s0 H0 E) Cn) (hmC:mg Cn=some cv) (hNd:N.Nodup) (hi:N[i]?=some x0) (hx0:Gh scope x0)
  (hsw:swapsWith e (some (.Name x0 xp)) xap.line (pF P w K mg base N Rx scope f cd A outer s0 H0 E).env=pure false:=by rfl) (hdb:(Cn == ("__debug__":Str))=false:=by decide) (hdx:(x == ("__debug__":Str))=false:=by decide) (hd:(ay == ("__debug__":Str))=false:=by decide) (hcd:(ay == ("__classdict__":Str))=false:=by decide)
  (he:starEach [.Name ay ap] (pF P w K mg base N Rx scope f cd A outer s0 H0 E).env=[(false,eval (.Name ay ap) (pF P w K mg base N Rx scope f cd A outer s0 H0 E).env)]:=by rfl):
  PS (pF P w K mg base N Rx scope f cd A outer s0 H0 E) (.Try [.Assign [.Name x0 xp] e xap] [.ExceptHandler (some (.Name Cn p1)) none [.Raise (some (.Call (.Name x np) [.Name ay ap] [] cpos)) (some (.Constant .none k9 npos)) rpos] hp] [] [] pos) (IG K E' cv te (λD σ v H=>D.nx (σ.set i (some v)) H) (MS E C j)):=by
 intro Rw s σ H D I h;obtain⟨hE,R,h,kk⟩:=h;refine wpAny_Try_except (wpAny_execs_cons (wpAny_Assign_Name (QD (hpe Rw s σ H _ R I h) (λv s1 ⟨y,H1,I1,r1,q1⟩=>?_) λe s' z=>?_) hsw))
 ·exact jY I1 hNd hi hx0 r1 (λs2 I2=>wpAny_execs_nil (wpAny_execs_nil ⟨_,H1,I2,q1⟩)) (.inl rfl)
 obtain⟨H1,s1,I1,hR,hq⟩:=z;refine Hf rfl rfl rfl I1 (DL.C4 hq) hgC hmC hdb (λc H' z=>hE c H' z.1) λea c H' oa s6 B0 va v2 y1 y2 y3 nfr da a2 cx hB0 ga I6=>?_
 obtain⟨⟨v,e1⟩,q⟩:=kk H1 ea c H' oa hR y1.1 y1.2 y2 y3;obtain⟨tl,Nn,nm,qn,bs,sn,sub,ab,col,dd,k0,k1,k2,k3,k5,lk,⟨oI,lI,cI⟩,kp,al⟩:=(vS F.ini).obj;obtain⟨_,_,_,_,_,T0,_,_⟩:=al _ I6.kIn;refine wpAny_execs_cons ?_;rw [arm_exec_Raise];simp only [evalOpt,Option.map];refine gt (wpAny_standAt (zZ (C:=C) (ea:=ea) (nm:=nm) (q:=qn) (N:=Nn) (bs:=bs) (bm:=tl) (hdct:=true) (sn:=sn) (sub:=sub) (ab:=ab) (col:=col) (dd:=dd) (k0:=k0) (k1:=k1) (k2:=k2) (k3:=k3) (k5:=k5) (newId:=newId) (T0.hasType FB.hasBase) rfl (λz=>?_) ?_))
 ·exact gt (wpAny_Constant_none (gt (wpAny_standAt (P0 z))))
 obtain⟨hp6,g,d,tk,os⟩:=s6;refine gt (AQ FB F SF hB hb hm hr (λ_=>rfl) I6 (λz=>jr (X:=(pF P w K mg base N Rx scope f cd A outer s0 H0 E).marked (.ref ea) qH) (I6.marked (.ref ea) _) hg hm z hdx) hN hv hd hcd e1 he λh' tk' a ne k7 er=>gt (wpAny_standAt (P0 ?_)))
 obtain⟨o,go,gc,gd⟩:=er;have I3:aC (pF P w K mg base N Rx scope f cd A outer s0 H0 E) Rw σ _ ⟨h',g,d,tk',os⟩:=I6.kept k7;have nB0:∀ a o,B0.get? a=some o->a≠hp6.objs.size+1:=λa o z y=>by
  have z:=hB0 a o z;rw [y] at z;exact absurd (z.symm.trans ne) (by simp)
 have nea:ea≠hp6.objs.size+1:=λy=>by
  rw [y] at ga;exact absurd (ga.symm.trans ne) (by simp)
 have lkC:=I3.kIn _ _ lk;have Cne:C≠hp6.objs.size+1:=λy=>by
  have z:=I6.kIn _ _ lk;rw [y] at z;exact absurd (z.symm.trans ne) (by simp)
 refine⟨_,o,_,rfl,lkC,Cne,go,gc,gd,rfl,rfl,nea,⟨B0,oa,va,v2,λb o z=>k7 b o (hB0 b o z),nB0,k7 _ _ ga,da,a2,cx⟩,λh8 er8 k8=>?_⟩
 have k9:∀ b o,hp6.get? b=some o->h8.get? b=some o:=λb o z=>k8 b o (λy=>by rw [y] at z; exact absurd (z.symm.trans ne) (by simp)) (k7 b o z)
 have I8:aC (pF P w K mg base N Rx scope f cd A outer s0 H0 E) Rw σ _ ⟨h8,g,d,tk',os⟩:=I6.kept k9;obtain⟨o8,g8,c8,d8⟩:=er8;have nst:∀ a o vs,hp6.get? a=some o->o.data=.fields vs->a∉ic (pF P w K mg base N Rx scope f cd A outer s0 H0 E).stack:=λa o vs z y hf=>by
  obtain⟨_,o2,e2,d2⟩:=I6.stack.mem hf;rw [z] at e2;cases e2;exact d2 _ y
 have hid:∀ a o vs,hp6.get? a=some o->o.data=.fields vs->(PySem.W.hideAll h8 ((hp6.objs.size+1)::ic (pF P w K mg base N Rx scope f cd A outer s0 H0 E).stack)).get? a=some o:=λa o vs z y=>PySem.W.hideAll_get _ (k9 a o z) λhf=>by
  rcases P9.mp hf with rfl | hf
  ·exact absurd (z.symm.trans ne) (by simp)
  ·exact nst a o vs z y hf
 show wpAny _ _ (noteFrame _ _) _ _ _
 refine Dp (λ_ z=>z) (A':=(pF P w K mg base N Rx scope f cd A outer s0 H0 E).A.mark (some (.ref ea))) (B:=PySem.W.hideAll h8 ((hp6.objs.size+1)::ic (pF P w K mg base N Rx scope f cd A outer s0 H0 E).stack)) I6.ok.frames (PySem.W.funFrames_hide I8.stack (C7 (h:=h8))) rfl g8 (λb o z=>PySem.W.of_hideAll _ z) (PySem.W.hideAll_none _ Qa) d8 rfl rfl rfl (.more (hid ea oa va ga da) da a2 (cx.mono λa o vs z y=>hid a o vs (hB0 a o z) y)) λh9 fl up=>?_
 rw [c8] at fl;exact AY I6 I8 ne k9 fl up q
end
end L2
namespace DL
open PySem PySem.Spec PyProof.Rows L2
inductive Mq (K:Fg) (q:Str) (st:Rp) (f:Rh) (cd:Rg):Prop where
 | mk {oc kV doc pm ct:Rg} {od an:Ri Rh} {osl:Rq (Ri Rg)} (l:K.lookup f=some ⟨oc,od,.func (PySem.W.fnOf "__init__" q (di st) (bL st) (aj st) .none kV doc pm an cd ct),osl⟩):Mq K q st f cd
structure EI (K:Fg) (bmB:List Rg) (q n:Str) (st:Rp) (C f:Rh) (cd:Rg):Prop where
 b:PySem.W.findIn K (.ref C) "__init__"=some (some (.ref f))
 x:Mq K q st f cd
 e:PySem.W.codeIn K cd q=true
 k:PySem.W.keepIn K (.ref f)=true
 i:A_ K C bmB "ValueError.__new__" f n=true
structure F9 (K:Fg) (mg:Str->Ri Rg) (x:Str) (C:Rh):Prop where
 ex:∃ (fI:Rh) (bmB:List Rg) (B newId initId sa owner:Rs) (n yI nmI qI:Str) (st:Rp) (fd:FuncData),ExcBaseFacts B newId initId bmB/\E7 K C fI bmB newId n yI nmI qI st fd/\StoreFacts B bmB sa owner/\typeLookup (.type B) n=pure none/\ju K fd ["self",yI] []/\mg x=some (.ref C)
theorem EI.err {K:Fg} {mg:Str->Ri Rg} {bmB:List Rg} {initId sa owner:Rs} {x q n y:Str} {st:Rp} {C f:Rh} {cd:Rg} (d:EI K bmB q n st C f cd) (hm:mg x=some (.ref C)) (FB:ExcBaseFacts "ValueError" "ValueError.__new__" initId bmB) (SF:StoreFacts "ValueError" bmB sa owner) (sc:ar ["self",y] ["self",y] (aj st)) (body:∃ p1 p2 p3 pos,bL st=[.Assign [.Attribute (.Name "self" p1) n p2] (.Name y p3) pos])
  (hB:typeLookup (.type "ValueError") n=pure none) (v1:Af (aj st) "self":=by exact .inl rfl) (v2:Af (aj st) y:=by exact .inl rfl) (d2:(y == ("__debug__":Str))=false:=by decide) (c2:(y == ("__classdict__":Str))=false:=by decide)
  (hb:∀ (kV doc pm:Rg) (an:Ri Rh) (cdv ct u1 u2:Rg),bindArgs (PySem.W.fnOf "__init__" q (di st) (bL st) (aj st) .none kV doc pm an cdv ct) ⟨[u1,u2],[]⟩=pure (List.zip [("self":Str),y] [u1,u2]):=by exact λ_ _ _ _ _ _ _ _=>rfl):F9 K mg x C:=by
 obtain⟨lk⟩:=d.x;have Fn:=vW lk d.e d.k;exact⟨f,bmB,_,_,initId,sa,owner,n,y,_,q,st,_,FB,⟨Fn,sc,body,v1,v2,d2,c2,d.i⟩,SF,hB,Fn.binds λ_ _ _ _ _ _ us hl=>match us,hl with | [u1,u2],_=>hb _ _ _ _ _ _ _ _,hm⟩
section
variable {P:Rk} {w:Rn} {K:Fg} {mg:Str->Ri Rg} {base:Ro} {N:List Str} {Rx:Str} {scope:Scope} {f:Rh} {cd:Rg} {A:Rm} {outer:List Env} {s0:Rf} {H0:Hp} {E:XK} {ex:Rh->DH->Prop}
def Jw (ex:Rh->DH->Prop) (C:Rh) (j:Nat):DS:=λ_ L S=>(∃ d,L[j]?=some (some d))/\ex C S
theorem xG {x ay:Str} {C:Rh} {j:Nat} {np ap cpos pos:Pos} (hE:∀ C S' H',ex C S'->Hs K H' S'->E (.ref C) none H') (q:F9 K mg x C) (hr:b3 2 (de (iy P w) P w K mg base N Rx scope f cd A outer s0 H0 E).A)
  (hg:Gl (de (iy P w) P w K mg base N Rx scope f cd A outer s0 H0 E) x) (hN:N[j]?=some ay) (hv:Af scope ay) (hdx:(x == ("__debug__":Str))=false:=by decide) (hd:(ay == ("__debug__":Str))=false:=by decide) (hcd:(ay == ("__classdict__":Str))=false:=by decide):
  SJ (de (iy P w) P w K mg base N Rx scope f cd A outer s0 H0 E) (.Raise (some (.Call (.Name x np) [.Name ay ap] [] cpos)) none pos) (Jw ex C j):=by
 obtain⟨fI,bmB,B,newId,initId,sa,owner,n,yI,nmI,qI,st,fd,FB,F,SF,hB,hb,hm⟩:=q.ex;refine⟨PS.imp (BA FB F SF hB hb hm hr hg hN hv hdx hd hcd rfl) λ_ σ H z9=>by obtain⟨L,S,_,hL,hS,⟨⟨d,e⟩,h⟩,_⟩:=z9; exact⟨let ⟨v,z,_⟩:=hL.get e; ⟨v,z⟩,hE C S H h hS⟩⟩
theorem CH {x0 Cn x ay:Str} {cv:Rg} {i j k9:Nat} {e:Rj} {g:(Rh->DH->Prop)->DE} {C:Rh} {xp xap p1 hp np ap cpos npos rpos pos:Pos} (hE:∀ C S' H',ex C S'->Hs K H' S'->E (.ref C) none H') (q:F9 K mg x C) (he:∀ ex,MH (de (iy P w) P w K mg base N Rx scope f cd A outer s0 H0 E) ex e (g ex)) (hr:b3 2 (de (iy P w) P w K mg base N Rx scope f cd A outer s0 H0 E).A)
  (hg:Gl (de (iy P w) P w K mg base N Rx scope f cd A outer s0 H0 E) x) (hN:N[j]?=some ay) (hv:Af scope ay) (hgC:Gl (de (iy P w) P w K mg base N Rx scope f cd A outer s0 H0 E) Cn) (hmC:mg Cn=some cv) (hNd:N.Nodup) (hi:N[i]?=some x0) (hx0:Gh scope x0)
  (hsw:swapsWith e (some (.Name x0 xp)) xap.line (de (iy P w) P w K mg base N Rx scope f cd A outer s0 H0 E).env=pure false:=by rfl) (hdb:(Cn == ("__debug__":Str))=false:=by decide) (hdx:(x == ("__debug__":Str))=false:=by decide) (hd:(ay == ("__debug__":Str))=false:=by decide) (hcd:(ay == ("__classdict__":Str))=false:=by decide):
  SJ (de (iy P w) P w K mg base N Rx scope f cd A outer s0 H0 E) (.Try [.Assign [.Name x0 xp] e xap] [.ExceptHandler (some (.Name Cn p1)) none [.Raise (some (.Call (.Name x np) [.Name ay ap] [] cpos)) (some (.Constant .none k9 npos)) rpos] hp] [] [] pos) (IN K cv g i (Jw ex C j)):=by
 obtain⟨fI,bmB,B,newId,initId,sa,owner,n,yI,nmI,qI,st,fd,FB,F,SF,hB,hb,hm⟩:=q.ex;refine⟨λRw s σ H M0 I ⟨L,S,M,hL,hS,h,r⟩=>Gx (he (λC' S2=>PySem.W.exmOne K (.ref C') cv=some true/\Jw ex C j M L S2)).h FB F SF hB hb hm hr hg hN hv hgC hmC hNd hi hx0 hsw hdb hdx hd hcd rfl Rw s σ H M0 I ⟨?_,Kp H,⟨L,S,_,hL,hS,h,λd S' v H' q k1 hS' i1=>r.nx _ _ _ _ q k1 ((hL.kp k1).set i1 i) hS',λ_ z=>z⟩,?_⟩⟩
 ·rintro c H' ⟨C',S',rfl,z,_⟩;exact z.1
 ·rintro H1 ea c H' o k0 ⟨C',S',rfl,⟨_,⟨d,e⟩,z⟩,zs⟩ kp hn ho;exact⟨let ⟨v,z,_⟩:=hL.get e; ⟨v,z⟩,hE C S' _ z (zs.new hn)⟩
end
def EM:ce:=λds S k=>match ds with
 | [.ref a]=>∃ kvs ep,S a=some (.gen (.dT kvs ep))/\(kvs.map λp=>lq p.1).Nodup/\∀ p,S p=none->∀ ep',k (.ref p) (put S p (.gen (.dT kvs ep')))
 | _=>False
theorem Gm {X:Cx} {n:Nat} (hr:b3 n X.A):dw X (.type "dict") (xn X.K EM):=by
 intro Rw s σ H xs us Q I rs h;obtain⟨ds,S,k,i,hS,r,m⟩:=h;unfold EM at r
 split at r
 ·rename_i a
  obtain⟨v,rfl,j⟩:=jl i;have ex:=aZ.mp j;subst ex;obtain⟨u,rfl,ru⟩:=lG rs;cases (show u=Value.ref a from ru)
  have hn:=I.hok.fresh (P4 s.heap.objs.size);have hb:(s.heap.objs.size == sysModules)=false:=beq_eq_false_iff_ne.mpr (Ne.symm (P_ I.big));have hun:=hr.un;obtain⟨kvs,ep,g1,nd,r⟩:=r
  ·obtain⟨ys,e1,r1⟩:=hS.dT g1;obtain⟨hd,z,ndk,g⟩:=cf I e1;have hash:(ys.map λy=>lq y.1)=kvs.map λp=>lq p.1:=by
    clear e1 z ndk g nd g1 r
    induction r1 with
    | nil=>rfl
    | cons h t ih=>exact congr (congrArg List.cons (congrArg lq h.1.symm)) ih
   refine r_ hd g (λe he=>?_) ?_ (by simp; omega) λh' ep' g' kk=>?_
   ·simp only [P5] at he;obtain⟨y,hy,rfl⟩:=he;have dd:=sj I e1 r1;obtain⟨_,_,_,_,_,_,_,al,_⟩:=dd;obtain⟨q,its,n',q1,q2,_⟩:=al y hy;exact⟨y.2.1,q,rfl,q1,q2⟩
   ·show((ys.map eT).map (·.hash)).Nodup
    rw [QH,show((λx:Ru=>x.hash) ∘ eT)=λy:List Int×Rh×Rg=>lq y.1 from rfl,hash]
    exact nd
   ·have new:md s.heap.objs.size ys ep' h':=⟨hb,z,ndk,g'⟩;refine⟨.ref s.heap.objs.size,_,I.laid (o:=.ext (md s.heap.objs.size ys ep')) (t':=s.toks) kk (P4 _) (t5 new),rfl,?_⟩;exact m _ _ _ _ (r _ (hS.free hn) ep') (Kp.new hn) (hS.newG hn ⟨ys,br,r1.kp (Kp.new hn)⟩) (aZ.mpr rfl)
 ·exact r.elim
def MR (g:DE) (tl th:Lh):DE:=λL S k=>g L S λx S1=>tl L S1 λlo S2=>th L S2 λhi S3=>match x with
 | .ref a=>∃ xs,S3 a=some (.lst xs)/\∀ p,S3 p=none->k (.ref p) (put S3 p (.lst (DM xs lo hi)))
 | _=>False
theorem HU {X:Cx} {e:Rj} {g:DE} {lo hi:Ri Rj} {tl th:Lh} {p2 pos:Pos} (he:EJ X e g) (hl:OJ X lo tl) (hu:OJ X hi th):EJ X (.Subscript e (.Slice lo hi none p2) pos) (MR g tl th):=
 ⟨PE.imp (F4 Ie he.h hl.h hu.h) fun σ H Q ⟨L,S,k,hL,hS,h,n⟩=>up.go hL hS h λd S1 v H1 h1 k1 hL1 hS1 i1=>by
  refine⟨L,S1,_,hL1,hS1,h1,λlo' S2 H2 h2 k2 hS2=>⟨L,S2,_,hL1.kp k2,hS2,h2,λhi' S3 H3 h3 k3 hS3=>?_⟩⟩
  cases d with
  | ref a=>
   have e1:=aZ.mp i1;subst e1;obtain⟨xs,z,h3⟩:=h3;obtain⟨vs,hl,j⟩:=hS3.lst z;refine⟨a,vs,rfl,jv.of hl,λp hp=>?_⟩
   refine n _ _ _ _ (h3 p (hS3.free hp)) (k1.trans (k2.trans (k3.trans (Kp.new hp)))) (hS3.newL hp ?_) (aZ.mpr rfl);unfold DM Fo;rw [j.length];exact(j.drop _).take _
  | _=>exact(show False from h3).elim⟩
end DL
namespace My
abbrev FN (K:PySem.W.Frag) (n:PySem.Str) (st:PySem.Stmt) (f:PySem.Addr) (fd:PySem.FuncData):=L2.xo K n n st f fd
variable {P:Rk} {w:Rn} {K:Fg} {mg:Str->Ri Rg} {base:Ro} {f:Rh} {fd:FuncData}
open PySem PySem.Spec PyProof.Rows L2 DL HM
set_option maxHeartbeats 4000000
def top (i : Nat) : Rp := PySem.Challenge.pw_hingedraw_k66_whole_pens_run_on_their_cu.main.body.getD i (.Pass ⟨0, 0, 0, 0⟩)
abbrev gL:Rp:=top 10
abbrev vU:Rp:=top 11
abbrev Aa:Rp:=top 12
abbrev vO:Rp:=top 13
abbrev wM:Rp:=top 14
abbrev zd:Rp:=top 15
abbrev nY:Rp:=top 16
abbrev i_:Rp:=top 17
abbrev j7:Rp:=top 18
abbrev eu:Rp:=top 19
abbrev qe:Rp:=top 20
abbrev nS:Rp:=top 22
abbrev iQ:Rp:=top 23
abbrev zf:Rp:=top 24
abbrev kR:Rp:=top 26
abbrev vI:Rp:=top 27
abbrev tR:Rp:=top 28
abbrev ir:Rp:=top 29
abbrev mr:Rp:=top 30
abbrev ku:Rp:=top 31
abbrev ke:Rp:=top 32
abbrev mD:Rp:=top 25
abbrev ip:Rp:=top 37
abbrev jC:Rp:=top 38
abbrev qh:Rp:=top 39
abbrev jK:Rp:=top 35
abbrev nR:Rp:=top 36
abbrev mz:Rp:=top 40
abbrev fU:Rp:=top 41
abbrev wx:Rp:=top 42
abbrev iu:Rp:=top 43
abbrev kj:Rp:=top 44
abbrev dI:Rp:=top 45
abbrev fZ:Rp:=top 48
abbrev fN:Rp:=top 52
abbrev iq:Rp:=top 53
abbrev mw:Rp:=top 54
abbrev gK:Rp:=top 57
abbrev sL:Rp:=top 58
abbrev mo:Rp:=top 67
abbrev jH:Rp:=top 68
abbrev kH:Rp:=top 49
abbrev jN:Rp:=top 51
abbrev jS:Rp:=top 50
abbrev gw:Rp:=top 55
abbrev jG:Rp:=top 56
abbrev cY:Rp:=top 72
abbrev kh:Rp:=top 71
abbrev ie:Rp:=top 73
abbrev kU:Rp:=top 61
abbrev kT:Rp:=top 62
abbrev lW:Rp:=top 63
abbrev jT:Rp:=top 64
abbrev mf:Rp:=top 65
abbrev oh:Rp:=top 66
abbrev fS:Rp:=top 46
abbrev iP:Rp:=top 75
abbrev lV:Rp:=top 76
abbrev gM:Rp:=top 34
abbrev iL:Rp:=top 77
abbrev rm:Rp:=top 78
abbrev lA:Rp:=top 59
abbrev nN:Rp:=top 60
abbrev iS:Rp:=top 80
abbrev kW:Rp:=top 81
abbrev lR:Rp:=top 82
abbrev i6:Rp:=top 83
abbrev kO:Rp:=top 84
abbrev kQ:Rp:=top 87
abbrev kI:Rp:=top 89
abbrev kd:Rp:=top 90
abbrev lH:Rp:=top 85
abbrev gB:Rp:=top 91
abbrev jx:Rp:=top 70
abbrev jQ:Rp:=top 92
abbrev nW:Rp:=top 93
abbrev i8:Rp:=top 94
abbrev DN:Rp:=top 95
abbrev Br:Rp:=G' (top 5) 0
theorem Do:ar ["self","step"] ["self","step"] (aj Br):=dP
theorem vK:bootBuiltins "abs"=some (.builtin "abs"):=by decide +kernel
theorem wO:bootBuiltins "max"=some (.builtin "max"):=by decide +kernel
theorem lQ:bootBuiltins "len"=some (.builtin "len"):=by decide +kernel
theorem Hn:bootBuiltins "dict"=some (.type "dict"):=by decide +kernel
theorem CC:bootBuiltins "sorted"=some (.builtin "sorted"):=by decide +kernel
theorem Jj:bootBuiltins "set"=some (.type "set"):=by decide +kernel
theorem C0:bootBuiltins "tuple"=some (.type "tuple"):=by decide +kernel
theorem Ez:bootBuiltins "range"=some (.type "range"):=by decide +kernel
theorem K2:bootBuiltins "min"=some (.builtin "min"):=by decide +kernel
theorem FY {y:Int} {A B:Prop} (h1:y≠0->A) (h2:y=0->B):if (!decide (y=0))=true then A else B:=by
 by_cases h:y=0
 ·rw [if_neg (by simp [h])]; exact h2 h
 ·rw [if_pos (by simp [h])]; exact h1 h
theorem bq {p:Prop} [Decidable p] {A B:Prop} (h1:p->A) (h2:¬ p->B):if decide p=true then A else B:=by
 by_cases h:p
 ·rw [if_pos (by simp [h])]; exact h1 h
 ·rw [if_neg (by simp [h])]; exact h2 h
theorem sW {p:Prop} [Decidable p] {A B:Prop} (h1:¬ p->A) (h2:p->B):if (!decide p)=true then A else B:=by
 by_cases h:p
 ·rw [if_neg (by simp [h])]; exact h2 h
 ·rw [if_pos (by simp [h])]; exact h1 h
theorem AA {c:Rr} {A B:Prop} (h1:c=true->A) (h2:c=false->B):if c=true then A else B:=by
 cases c
 ·exact GN (h2 rfl)
 ·exact ML (h1 rfl)
theorem Ja {c:Rr} {A B:Prop} (h1:c=false->A) (h2:c=true->B):if (!c)=true then A else B:=by
 cases c
 ·exact ML (h1 rfl)
 ·exact GN (h2 rfl)
theorem rL {ds:List D} {i:Int} (h0:0<=i) (h1:i < (ds.length:Int)):∃ d,L2.atI ds i=some d/\d∈ds:=by
 obtain⟨n,rfl⟩:=Int.eq_ofNat_of_zero_le h0;have hn:n < ds.length:=by omega
 exact⟨ds[n],mT (by simp [hn]),Q6 hn⟩
theorem pi {ok:DH->Prop} {g:DG} {b:DS} {M:oN} {P:D->Prop} (Iv:Lo->DH->Prop) (hok:∀ L S,Iv L S->ok S)
  (hs:∀ d L S N,P d->Iv L S->(∀ L' S',Iv L' S'->N L' S')->g d L S λL1 S1=>b {M with nx:=N,ct:=N,bk:=M.nx} L1 S1) (hd:∀ L S,Iv L S->M.nx L S):∀ r,(∀ d∈r,P d)->∀ L S,Iv L S->fJ ok g b M r L S
 | [],_,L,S,i=>⟨hok L S i,hd L S i⟩
 | d::r,hp,L,S,i=>⟨hok L S i,hs d L S _ (hp d Qa) i λL' S' i'=>pi Iv hok hs hd r (λe he=>hp e (Qb _ he)) L' S' i'⟩
instance {n:Nat} {x:Int}:Decidable (Bt n x):=inferInstanceAs (Decidable (x.natAbs < 2 ^ n))
theorem bO {S:DH} {p a:Rh} {o u:DO} (hp:S p=none) (h:S a=some u):put S p o a=some u:=by rw [bV (jR h hp)]; exact h
theorem few {ds:List D} (h:Nat.ble ds.length sizeLine=true:=by rfl):ds.length<=sizeLine:=Qi h
def vm (S:DH) (a:Rh):Prop:=∃ n b,S a=some (.lst [.int n,.bl b])/\(b=false->0<=n/\n < 2147483647)
def Dr (a:Rh) (S S':DH):Prop:=vm S' a/\∀ b o,b≠a->S b=some o->S' b=some o
theorem Dr.trans {a:Rh} {S S1 S2:DH} (h1:Dr a S S1) (h2:Dr a S1 S2):Dr a S S2:=⟨h2.1,λb o n e=>h2.2 b o n (h1.2 b o n e)⟩
theorem vm.ne {a p:Rh} {S:DH} (h:vm S a) (hp:S p=none):p≠a:=by
 obtain⟨n,b,e,_⟩:=h;intro z;subst z;rw [e] at hp;cases hp
theorem vm.new {a p:Rh} {S:DH} {o:DO} (h:vm S a) (hp:S p=none):vm (put S p o) a:=by
 have z:=h.ne hp;obtain⟨n,b,e,q⟩:=h;exact⟨n,b,by rw [bV (Ne.symm z)]; exact e,q⟩
theorem Dr.new {a p:Rh} {S:DH} {o:DO} (h:vm S a) (hp:S p=none):Dr a S (put S p o):=
 ⟨h.new hp,λb u n e=>by rw [bV (jR e hp)]; exact e⟩
theorem BX {x:Int} (h1:0<=x) (h2:x < 2147483648):Bt 31 x:=by
 unfold Bt;omega
def N (u a b:Rat):D:=.tup [fr a,fr (ss b*u)]
structure Fd (u:Rat):Prop where
 pos:0 < u
 no:ug u
 sz:Sz 600 u
structure Sm (n:Nat) (a b:Rat):Prop where
 a:Sz n a
 b:Sz n b
theorem J6 {q:Rat}:D.tup [.int (-q.num),.int (q.den:Int)]=fr (-q):=by
 show _=D.tup [.int (-q).num,.int ((-q).den:Int)]
 rw [Rat.neg_num,Rat.neg_den]
theorem Mb {q:Rat}:D.tup [.int (if q.num < 0 then -q.num else q.num),.int (q.den:Int)]=fr (ab q):=by
 show _=D.tup [.int (ab q).num,.int ((ab q).den:Int)]
 rw [Km,I9]
theorem y8 {n:Nat} {t b:Int} (h:b≠0) (hb:Bt n b):Bt n ((Int.gcd t b:Nat):Int):=by
 refine hb.le ?_;have h1:Int.gcd t b ∣ b.natAbs:=by
  have:=Int.gcd_dvd_right t b;exact(by have:=QS.mpr this; simpa using this)
 have:=Nat.le_of_dvd (by omega) h1
 omega
def cy:ce:=λds S k=>match ds with
 | [.int a,.int b]=>k (.int ((Int.gcd a b:Nat):Int)) S
 | _=>False
theorem eE:ar ["one","other","rest"] ["one","other"] (aj gL):=dP
theorem pf (Fn:FN K "common_divisor" gL f fd) (nc:mg "abs"=none):
  aL P w K mg base cN 1 f fd ["one","other"] (cX K cy):=by
 refine Fn.okJ eE (λds S k h=>?_) (λcdv A outer s H E hr=>⟨_,(af (kL PassesOwn.never (aG JH (ai 1) ak (aM _)) (af (ah (i:=2) eE.nd (az o0 (ai 0) (ai 1))) (af (ah (i:=0) eE.nd (ai 1)) (ag (ah (i:=1) eE.nd (ai 2)))))) (ag (am (cm Bh rfl nc vK (aw 0 ac))))),λds S k h=>?_⟩)
 ·unfold cy at h
  split at h
  ·rfl
  ·exact h.elim
 ·unfold cy at h
  split at h
  ·rename_i a b
   refine⟨λm L S'=>S'=S/\∃ x y r,L=[some (.int x),some (.int y),r]/\m=y.natAbs/\Int.gcd x y=Int.gcd a b,⟨_,rfl,a,b,_,rfl,rfl,rfl⟩,?_⟩
   rintro m L S' ⟨rfl,x,y,r,rfl,rfl,e⟩;refine FY (λhy=>⟨λL' S''=>∃ m',m' < y.natAbs/\S''=S'/\∃ x y r,L'=[some (.int x),some (.int y),r]/\m'=y.natAbs/\Int.gcd x y=Int.gcd a b,λ_ _ z=>z,hy,?_⟩) (λhy=>?_)
   ·exact⟨_,AC x y hy,rfl,y,x.fmod y,_,rfl,rfl,(xJ x y).trans e⟩
   ·subst hy;have e2:=yd x;rw [e] at e2
    show k (.int (if x < 0 then -x else x)) S'
    rw [<- e2];exact h
  ·exact h.elim
def iI:ce:=λds S k=>match ds with
 | [.int t,.int b]=>b≠0/\Bt 8000 b/\k (fr (Rat.divInt t b)) S
 | _=>False
theorem oG {S:DH} {k:DK} {t b:Int} {q:Rat} (e:Rat.divInt t b=q) (h0:b≠0) (hb:Bt 8000 b) (h:k (fr q) S):iI [.int t,.int b] S k:=by subst e; exact⟨h0,hb,h⟩
theorem rQ:ar ["top","bottom","shared"] ["top","bottom"] (aj vU):=dP
theorem Fi (Fn:FN K "ratio" vU f fd) (bg:aN P w K mg base "common_divisor" 1 cy):
  aL P w K mg base cN 2 f fd ["top","bottom"] (cX K iI):=by
 refine Fn.okJ rQ (λds S k h=>?_) (λcdv A outer s H E hr=>⟨_,(af (aK (aG jV (ai 1) ak (aM _)) (ag eJ) aO) (af (ah (i:=2) rQ.nd (dq bg hr (aw 0 (aw 1 ac)))) (af (aK (aG zn (ai 1) ak (aM _)) (ag (ah (i:=2) rQ.nd (Eg DY (ai 2)))) aO) (ag (am (au (aa (az hG (ai 0) (ai 2)) (aa (az hG (ai 1) (ai 2)) ac)))))))),λds S k h=>?_⟩)
 ·unfold iI at h
  split at h
  ·rfl
  ·exact h.elim
 ·unfold iI at h
  split at h
  ·rename_i t b
   obtain⟨h0,hb,q⟩:=h;have hg:=y8 (t:=t) h0 hb;have hs:=De (t:=t) h0;have e1:=oO (t:=t) h0;have e2:=pj (t:=t) h0;have qq:k (.tup [.int (t.fdiv (CW t b)),.int (b.fdiv (CW t b))]) S:=by rw [e1,e2]; exact q
   unfold CW at qq hs
   refine bq (λz=>absurd z h0) (λ_=>bq (λhl=>?_) (λhl=>?_))
   ·rw [if_pos hl] at qq hs
    exact⟨zr hs hg.neg,zr hs hg.neg,few,qq⟩
   ·rw [if_neg hl] at qq hs
    exact⟨zr hs hg,zr hs hg,few,qq⟩
  ·exact h.elim
def iU:ce:=λds S k=>∃ p q:Rat,ds=[fr p,fr q]/\Sz 4000 p/\Sz 4000 q/\k (fr (p+q)) S
theorem GE:ar ["one","other"] ["one","other"] (aj Aa):=dP
theorem Hz (Fn:FN K "plus" Aa f fd) (dO:aN P w K mg base "ratio" 2 iI):
  aL P w K mg base cN 3 f fd ["one","other"] (cX K iU):=by
 refine Fn.okJ GE (λds S k h=>?_) (λcdv A outer s H E hr=>⟨_,(ag (am (dq dO hr (aa (az eO (az bT (aJ 0) (aJ 1)) (az bT (aJ 1) (aJ 0))) (aa (az bT (aJ 0) (aJ 1)) ac))))),λds S k h=>?_⟩)
 ·obtain⟨_,_,rfl,_⟩:=h
  rfl
 ·obtain⟨p,q,rfl,hp,hq,w⟩:=h;exact⟨kZ hp.num hq.den,kZ hq.num hp.den,kZ hp.den hq.den,oG (Ek p q) (gO p q) ((hp.den.mul hq.den).mono (by decide)) w⟩
def jt:ce:=λds S k=>∃ p q:Rat,ds=[fr p,fr q]/\Sz 4000 p/\Sz 4000 q/\k (fr (p - q)) S
theorem DX:ar ["one","other"] ["one","other"] (aj vO):=dP
theorem Ex (Fn:FN K "minus" vO f fd) (dO:aN P w K mg base "ratio" 2 iI):
  aL P w K mg base cN 3 f fd ["one","other"] (cX K jt):=by
 refine Fn.okJ DX (λds S k h=>?_) (λcdv A outer s H E hr=>⟨_,(ag (am (dq dO hr (aa (az yH (az bT (aJ 0) (aJ 1)) (az bT (aJ 1) (aJ 0))) (aa (az bT (aJ 0) (aJ 1)) ac))))),λds S k h=>?_⟩)
 ·obtain⟨_,_,rfl,_⟩:=h
  rfl
 ·obtain⟨p,q,rfl,hp,hq,w⟩:=h;exact⟨kZ hp.num hq.den,kZ hq.num hp.den,kZ hp.den hq.den,oG (DU p q) (gO p q) ((hp.den.mul hq.den).mono (by decide)) w⟩
def ft:ce:=λds S k=>∃ p q:Rat,ds=[fr p,fr q]/\Sz 4000 p/\Sz 4000 q/\k (fr (p*q)) S
theorem D7:ar ["one","other"] ["one","other"] (aj wM):=dP
theorem Dj (Fn:FN K "times" wM f fd) (dO:aN P w K mg base "ratio" 2 iI):
  aL P w K mg base cN 3 f fd ["one","other"] (cX K ft):=by
 refine Fn.okJ D7 (λds S k h=>?_) (λcdv A outer s H E hr=>⟨_,(ag (am (dq dO hr (aa (az bT (aJ 0) (aJ 1)) (aa (az bT (aJ 0) (aJ 1)) ac))))),λds S k h=>?_⟩)
 ·obtain⟨_,_,rfl,_⟩:=h
  rfl
 ·obtain⟨p,q,rfl,hp,hq,w⟩:=h;exact⟨kZ hp.num hq.num,kZ hp.den hq.den,oG (Dd p q) (gO p q) ((hp.den.mul hq.den).mono (by decide)) w⟩
def nQ:ce:=λds S k=>∃ p q:Rat,ds=[fr p,fr q]/\q≠0/\Sz 4000 p/\Sz 4000 q/\k (fr (p / q)) S
theorem HQ:ar ["one","other"] ["one","other"] (aj zd):=dP
theorem HS (Fn:FN K "over" zd f fd) (dO:aN P w K mg base "ratio" 2 iI):
  aL P w K mg base cN 3 f fd ["one","other"] (cX K nQ):=by
 refine Fn.okJ HQ (λds S k h=>?_) (λcdv A outer s H E hr=>⟨_,(ag (am (dq dO hr (aa (az bT (aJ 0) (aJ 1)) (aa (az bT (aJ 0) (aJ 1)) ac))))),λds S k h=>?_⟩)
 ·obtain⟨_,_,rfl,_⟩:=h
  rfl
 ·obtain⟨p,q,rfl,h0,hp,hq,w⟩:=h;exact⟨kZ hp.num hq.den,kZ hp.den hq.num,oG (E8 p q) (Int.mul_ne_zero (v_ p) (yV h0)) ((hp.den.mul hq.num).mono (by decide)) w⟩
def cH:ce:=λds S k=>∃ q:Rat,ds=[fr q]/\k (fr (-q)) S
theorem xI:ar ["one"] ["one"] (aj nY):=dP
theorem xY (Fn:FN K "negative" nY f fd):
  aL P w K mg base cN 1 f fd ["one"] (cX K cH):=by
 refine Fn.okJ xI (λds S k h=>?_) (λcdv A outer s H E hr=>⟨_,(ag (am (au (aa (Eg DY (aJ 0)) (aa (aJ 0) ac))))),λds S k h=>?_⟩)
 ·obtain⟨_,rfl,_⟩:=h
  rfl
 ·obtain⟨q,rfl,w⟩:=h;rw [<- J6] at w;exact⟨few,w⟩
def eN:ce:=λds S k=>∃ q:Rat,ds=[fr q]/\k (fr (ab q)) S
theorem ra:ar ["one"] ["one"] (aj i_):=dP
theorem rj (Fn:FN K "without_sign" i_ f fd) (nc:mg "abs"=none):
  aL P w K mg base cN 1 f fd ["one"] (cX K eN):=by
 refine Fn.okJ ra (λds S k h=>?_) (λcdv A outer s H E hr=>⟨_,(ag (am (au (aa (cm Bh rfl nc vK (aa (aJ 0) ac)) (aa (aJ 0) ac))))),λds S k h=>?_⟩)
 ·obtain⟨_,rfl,_⟩:=h
  rfl
 ·obtain⟨q,rfl,w⟩:=h;rw [<- Mb] at w;exact⟨few,w⟩
set_option maxHeartbeats 4000000
def oW:ce:=λds S k=>∃ n:Int,ds=[.int n]/\0<=n/\Bt 4000 n/\k (.int (lh n)) S
theorem fk:ar ["number","guess","better"] ["number"] (aj j7):=dP
theorem ut (Fn:FN K "whole_root" j7 f fd):
  aL P w K mg base cN 1 f fd ["number"] (cX K oW):=by
 refine Fn.okJ fk (λds S k h=>?_) (λcdv A outer s H E hr=>⟨_,(af (aK (aG jV (ai 0) ak (aM _)) (ag (am ak)) aO) (af (ah (i:=1) fk.nd (az Mz ak (az hG (az eO (GL (ai 0)) ak) ak))) (af (ah (i:=2) fk.nd (az hG (az eO (ai 1) (az hG (ai 0) (ai 1))) ak)) (af (kL PassesOwn.never (aG zn (ai 2) (ai 1) (aM _)) (af (ah (i:=1) fk.nd (ai 2)) (ag (ah (i:=2) fk.nd (az hG (az eO (ai 1) (az hG (ai 0) (ai 1))) ak))))) (ag (am (ai 1))))))),λds S k h=>?_⟩)
 ·obtain⟨_,rfl,_⟩:=h
  rfl
 ·obtain⟨n,rfl,h0,hb,q⟩:=h;refine bq (λe=>?_) (λe=>?_)
  ·subst e;rw [Fv] at q;exact q
  ·have hbits:Builtin.Int.intBits n<=4000:=intBits_le_iff.mpr hb;have h1:1<=n:=by omega
   have hn:n.natAbs < 2 ^ Builtin.Int.intBits n:=intBits_le_iff.mp (P4 _);have G:=Gd.first h1 hn hbits;have hc:CM 1 ((((Builtin.Int.intBits n:Nat):Int)+1).fdiv 2):=by
    have e2:=vg (((Builtin.Int.intBits n:Nat):Int)+1) (b:=2) (by decide)
    exact⟨by rw [e2]; omega,by rw [e2]; omega,by decide⟩
   have two:∀ x:Int,uU x 2:=λx=>⟨by decide,by decide +kernel⟩
   have dv:∀ g:Int,Gd n g->uU n g:=λg G=>zr (by have:=G.pos; omega) G.bt
   refine⟨two _,hc,dv _ G,two _,λm L S'=>S'=S/\∃ g,L=[some (.int n),some (.int g),some (.int ((g+n.fdiv g).fdiv 2))]/\m=g.toNat/\Gd n g,⟨_,rfl,_,rfl,rfl,G⟩,?_⟩
   rintro m L S' ⟨rfl,g,rfl,rfl,G⟩;refine bq (λhl=>⟨λL' S''=>∃ m',m' < g.toNat/\S''=S'/\∃ g,L'=[some (.int n),some (.int g),some (.int ((g+n.fdiv g).fdiv 2))]/\m'=g.toNat/\Gd n g,λ_ _ z=>z,dv _ (G.next h1 hl),two _,?_⟩) (λhl=>?_)
   ·have G2:=G.next h1 hl;exact⟨_,by have:=G2.pos; have:=G.pos; omega,rfl,_,rfl,rfl,G2⟩
   ·rw [<- G.last h1 hl] at q;exact q
def II (n:Int):D:=if lh n*lh n=n then .int (lh n) else .non
def gz:ce:=λds S k=>∃ n:Int,ds=[.int n]/\0<=n/\Bt 4000 n/\k (II n) S
theorem gu:ar ["number","root"] ["number"] (aj eu):=dP
theorem kz (Fn:FN K "square_root_or_none" eu f fd) (ko:aN P w K mg base "whole_root" 1 oW):
  aL P w K mg base cN 2 f fd ["number"] (cX K gz):=by
 refine Fn.okJ gu (λds S k h=>?_) (λcdv A outer s H E hr=>⟨_,(af (ah (i:=1) gu.nd (dq ko hr (aw 0 ac))) (ag (am (x_ (aG jV (az bT (ai 1) (ai 1)) (ai 0) (aM _)) (ai 1) fT)))),λds S k h=>?_⟩)
 ·obtain⟨_,rfl,_⟩:=h
  rfl
 ·obtain⟨n,rfl,h0,hb,q⟩:=h;have b2:=JG h0 hb;refine⟨n,rfl,h0,hb,kZ b2 b2,bq (λe=>?_) (λe=>?_)⟩
  ·rw [II,if_pos e] at q;exact q
  ·rw [II,if_neg e] at q;exact q
def mX:ce:=λds S k=>∃ q:Rat,ds=[fr q]/\0<=q/\Sz 4000 q/\(∀ r,0<=r->r*r=q->k (fr r) S)/\(ug q->k .non S)
theorem nJ:ar ["one","top","bottom"] ["one"] (aj qe):=dP
theorem zG (Fn:FN K "root_in" qe f fd) (cM:aN P w K mg base "square_root_or_none" 2 gz):
  aL P w K mg base cN 3 f fd ["one"] (cX K mX):=by
 refine Fn.okJ nJ (λds S k h=>?_) (λcdv A outer s H E hr=>⟨_,(af (ah (i:=1) nJ.nd (dq cM hr (aa (aJ 0) ac))) (af (aK (aG Dk (ai 1) fT (aM _)) (ag (am fT)) aO) (af (ah (i:=2) nJ.nd (dq cM hr (aa (aJ 0) ac))) (af (aK (aG Dk (ai 2) fT (aM _)) (ag (am fT)) aO) (ag (am (au (aw 1 (aw 2 ac))))))))),λds S k h=>?_⟩)
 ·obtain⟨_,rfl,_⟩:=h
  rfl
 ·obtain⟨q,rfl,h0,hs,h1,h2⟩:=h;have n0:=zj h0
  by_cases e:lh q.num*lh q.num=q.num
  ·by_cases e2:lh (q.den:Int)*lh (q.den:Int)=(q.den:Int)
   ·obtain⟨r,r0,rr⟩:=zB h0 e e2;obtain⟨e3,e4⟩:=nU r0 rr;have w:=h1 r r0 rr;refine⟨q.num,rfl,n0,hs.num,?_⟩;rw [show II q.num=.int (lh q.num) from if_pos e]
    refine⟨(q.den:Int),rfl,by omega,hs.den,?_⟩
    rw [show II (q.den:Int)=.int (lh (q.den:Int)) from if_pos e2,e3,e4]
    exact⟨few,w⟩
   ·refine⟨q.num,rfl,n0,hs.num,?_⟩;rw [show II q.num=.int (lh q.num) from if_pos e]
    refine⟨(q.den:Int),rfl,by omega,hs.den,?_⟩
    rw [show II (q.den:Int)=.non from if_neg e2]
    refine h2 λr rr=>e2 ?_
    have:=congrArg (λz:Rat=>(z.den:Int)) rr
    simp only [wN,Int.natCast_mul] at this;exact FD this
  ·refine⟨q.num,rfl,n0,hs.num,?_⟩;rw [show II q.num=.non from if_neg e]
   refine h2 λr rr=>e ?_
   have:=congrArg Rat.num rr;rw [s_] at this;exact FD this
def gP:ce:=λds S k=>∃ x q,ds=[.tup [x,fr q]]/\k (.bl (decide (q=0))) S
theorem xZ:ar ["one"] ["one"] (aj nS):=dP
theorem xC (Fn:FN K "is_plain" nS f fd):
  aL P w K mg base cN 1 f fd ["one"] (cX K gP):=by
 refine Fn.okJ xZ (λds S k h=>?_) (λcdv A outer s H E hr=>⟨_,(ag (am (wJ jV (cA du (aJ 0) ak Zf) ak (aM _)))),λds S k h=>?_⟩)
 ·obtain⟨_,_,rfl,_⟩:=h
  rfl
 ·obtain⟨x,q,rfl,w⟩:=h;have e:decide (q.num=0)=decide (q=0):=by
   by_cases h0:q=0
   ·subst h0; rfl
   ·rw [QT h0,QT (yV h0)]
  rw [<- e] at w;exact w
def eI:ce:=λds S k=>∃ p q:Rat,ds=[fr p,fr q]/\k (fr (sg p q)) S
theorem rh:ar ["one","other"] ["one","other"] (aj iQ):=dP
theorem rg (Fn:FN K "with_sign_of" iQ f fd) (aA:aN P w K mg base "negative" 1 cH):
  aL P w K mg base cN 2 f fd ["one","other"] (cX K eI):=by
 refine Fn.okJ rh (λds S k h=>?_) (λcdv A outer s H E hr=>⟨_,(ag (am (x_ (aG zn (aJ 1) ak (aM _)) (dq aA hr (aw 0 ac)) (ai 0)))),λds S k h=>?_⟩)
 ·obtain⟨_,_,rfl,_⟩:=h
  rfl
 ·obtain⟨p,q,rfl,w⟩:=h;unfold sg at w;refine bq (λhn=>?_) (λhn=>?_)
  ·rw [if_pos ((fK q).mp hn)] at w;exact⟨p,rfl,w⟩
  ·rw [if_neg (λz=>hn ((fK q).mpr z))] at w
   exact w
set_option maxHeartbeats 4000000
theorem vB (n:Nat):n<=n*n:=by
 rcases Nat.eq_zero_or_pos n with h | h
 ·subst h; decide
 ·exact Nat.le_mul_of_pos_left n h
theorem _root_.HM.Sz.root {n:Nat} {q r:Rat} (h:Sz n q) (e:r*r=q):Sz n r:=by
 subst e;refine⟨h.num.le ?_,h.den.le ?_⟩
 ·rw [s_,QZ];exact vB _
 ·rw [wN];have:=vB r.den;omega
open Classical in
noncomputable def Gi (p q:Rat):D:=if h:∃ r,0<=r/\r*r=ab q then .tup [fr (p+sg h.choose q),fr 0] else .tup [fr p,fr q]
theorem BO {r r' q:Rat} (h0:0<=r) (h1:0<=r') (e:r*r=q) (e':r'*r'=q):r=r':=by
 obtain⟨a1,a2⟩:=nU h0 e;obtain⟨b1,b2⟩:=nU h1 e';refine Rat.ext (a1.symm.trans b1) ?_;have:=a2.symm.trans b2;omega
theorem sC {p q r:Rat} (r0:0<=r) (rr:r*r=ab q):Gi p q=.tup [fr (p+sg r q),fr 0]:=by
 have h:∃ r,0<=r/\r*r=ab q:=⟨r,r0,rr⟩;unfold Gi;rw [dif_pos h,BO h.choose_spec.1 r0 h.choose_spec.2 rr]
theorem Fx {p q:Rat} (no:ug (ab q)):Gi p q=.tup [fr p,fr q]:=by
 unfold Gi;rw [dif_neg λz9=>by obtain⟨r,_,e⟩:=z9; exact no r e]
theorem DF {p:Rat}:Gi p 0=.tup [fr p,fr 0]:=by
 rw [sC (r:=0) (by decide) (by unfold ab; grind),show p+sg 0 0=p by unfold sg; grind]
def Eb:ce:=λds S k=>∃ p q:Rat,ds=[fr p,fr q]/\Sz 1000 p/\Sz 1000 q/\k (Gi p q) S
theorem AR:ar ["part","under","root"] ["part","under"] (aj zf):=dP
theorem GP (Fn:FN K "made" zf f fd) (eZ:aN P w K mg base "root_in" 3 mX) (aR:aN P w K mg base "without_sign" 1 eN) (aW:aN P w K mg base "plus" 3 iU) (aT:aN P w K mg base "with_sign_of" 2 eI) (bF:qv K mg "NOUGHT" [0,1]):
  aL P w K mg base cN 4 f fd ["part","under"] (cX K Eb):=by
 refine Fn.okJ AR (λds S k h=>?_) (λcdv A outer s H E hr=>⟨_,(af (ah (i:=2) AR.nd (dq eZ hr (aa (dq aR hr (aw 1 ac)) ac))) (af (aK (aG Dk (ai 2) fT (aM _)) (ag (am (au (aw 0 (aw 1 ac))))) aO) (ag (am (au (aa (dq aW hr (aw 0 (aa (dq aT hr (aw 2 (aw 1 ac))) ac))) (aa (fx bF rfl) ac))))))),λds S k h=>?_⟩)
 ·obtain⟨_,_,rfl,_⟩:=h
  rfl
 ·obtain⟨p,q,rfl,hp,hq,w⟩:=h;refine⟨q,rfl,ab q,rfl,qB q,hq.ab.mono (by decide),λr r0 rr=>?_,λno=>⟨few,?_⟩⟩
  ·rw [sC r0 rr] at w;exact⟨r,q,rfl,p,sg r q,rfl,hp.mono (by decide),((hq.ab.root rr).sg).mono (by decide),few,w⟩
  ·rw [Fx no] at w;exact w
def iA:ce:=λds S k=>∃ u a b c d:Rat,ds=[N u a b,N u c d]/\0 < u/\k (fr (pick b d*pick b d*u)) S
theorem uJ:ar ["one","other"] ["one","other"] (aj kR):=dP
theorem ux (Fn:FN K "field_base" kR f fd) (aR:aN P w K mg base "without_sign" 1 eN) (a8:aN P w K mg base "is_plain" 1 gP):
  aL P w K mg base cN 2 f fd ["one","other"] (cX K iA):=by
 refine Fn.okJ uJ (λds S k h=>?_) (λcdv A outer s H E hr=>⟨_,(ag (am (dq aR hr (aa (x_ (fo (dq a8 hr (aw 0 ac))) (aJ 1) (aJ 0)) ac)))),λds S k h=>?_⟩)
 ·obtain⟨_,_,_,_,_,rfl,_⟩:=h
  rfl
 ·obtain⟨u,a,b,c,d,rfl,u0,w⟩:=h;refine⟨fr a,ss b*u,rfl,bq (λe=>⟨_,rfl,?_⟩) (λe=>⟨_,rfl,?_⟩)⟩
  ·have e2:b=0:=(mY u0).mp e;rw [show pick b d=d from if_pos e2] at w
   rw [si u0];exact w
  ·have e2:¬ b=0:=λz=>e ((mY u0).mpr z)
   rw [show pick b d=b from if_neg e2] at w
   rw [si u0];exact w
def rB:ce:=λds S k=>∃ u a b e:Rat,ds=[N u a b,fr (e*e*u)]/\0 < u/\(b=0\/e≠0)/\Sz 1000 b/\Sz 1000 e/\Sz 600 u/\k (fr (b / ab e)) S
theorem yg:ar ["one","base","root"] ["one","base"] (aj vI):=dP
theorem Eo (Fn:FN K "share" vI f fd) (a8:aN P w K mg base "is_plain" 1 gP) (eZ:aN P w K mg base "root_in" 3 mX) (c_:aN P w K mg base "over" 3 nQ) (aR:aN P w K mg base "without_sign" 1 eN) (aT:aN P w K mg base "with_sign_of" 2 eI) (bF:qv K mg "NOUGHT" [0,1]):
  aL P w K mg base cN 4 f fd ["one","base"] (cX K rB):=by
 refine Fn.okJ yg (λds S k h=>?_) (λcdv A outer s H E hr=>⟨_,(af (aK (fo (dq a8 hr (aw 0 ac))) (ag (am (fx bF rfl))) aO) (af (ah (i:=2) yg.nd (dq eZ hr (aa (dq c_ hr (aa (dq aR hr (aa (aJ 0) ac)) (aw 1 ac))) ac))) (af (aK (aG Dk (ai 2) fT (aM _)) (ag eJ) aO) (ag (am (dq aT hr (aw 2 (aa (aJ 0) ac)))))))),λds S k h=>?_⟩)
 ·obtain⟨_,_,_,_,rfl,_⟩:=h
  rfl
 ·obtain⟨u,a,b,e,rfl,u0,hbe,hb,he,hu,w⟩:=h;refine⟨fr a,ss b*u,rfl,bq (λz=>?_) (λz=>?_)⟩
  ·have e2:b=0:=(mY u0).mp z;subst e2;rw [show (0:Rat) / ab e=0 by grind] at w
   exact w
  ·have e2:¬ b=0:=λq=>z ((mY u0).mpr q)
   have e0:e≠0:=hbe.resolve_left e2;have ne:e*e*u≠0:=by grind
   have ea:ab (ss b*u)=b*b*u:=si u0;have s1:Sz 2600 (ab (ss b*u)):=(hb.ss.mul hu).ab;have s2:Sz 2600 (e*e*u):=(he.mul he).mul hu;have nn:0<=ab (ss b*u) / (e*e*u):=rS (qB _) (Qo (jP e) (Rat.le_of_lt u0));have ne2:ab e≠0:=λz=>e0 (by unfold ab at z; split at z <;> grind)
   have s3:Sz 4000 (ab (ss b*u) / (e*e*u)):=by
    rw [ea,<- rR u0 e0];exact(hb.ab.div he.ab ne2).mul (hb.ab.div he.ab ne2)
   refine⟨_,rfl,ab (ss b*u),e*e*u,rfl,ne,s1.mono (by decide),s2.mono (by decide),_,rfl,nn,s3,λr r0 rr=>?_,λno=>?_⟩
   ·rw [ea] at rr;have er:=y9 u0 e0 r0 rr;subst er;refine⟨_,ss b*u,rfl,?_⟩;rw [EN u0];exact w
   ·rw [ea] at no;exact absurd (rR u0 e0) (no _)
def t7:ce:=λds S k=>∃ a p c:Rat,ds=[fr a,fr p,fr c]/\Sz 2000 p/\Sz 4000 c/\k (.tup [fr a,fr (ss p*c)]) S
theorem vt:ar ["part","portion","base","under"] ["part","portion","base"] (aj tR):=dP
theorem BL (Fn:FN K "joined" tR f fd) (aI:aN P w K mg base "times" 3 ft) (aT:aN P w K mg base "with_sign_of" 2 eI):
  aL P w K mg base cN 4 f fd ["part","portion","base"] (cX K t7):=by
 refine Fn.okJ vt (λds S k h=>?_) (λcdv A outer s H E hr=>⟨_,(af (ah (i:=3) vt.nd (dq aI hr (aa (dq aI hr (aw 1 (aw 1 ac))) (aw 2 ac)))) (ag (am (au (aw 0 (aa (dq aT hr (aw 3 (aw 1 ac))) ac)))))),λds S k h=>?_⟩)
 ·obtain⟨_,_,_,rfl,_⟩:=h
  rfl
 ·obtain⟨a,p,c,rfl,hp,hc,w⟩:=h;refine⟨p,p,rfl,hp.mono (by decide),hp.mono (by decide),p*p,c,rfl,(hp.mul hp).mono (by decide),hc.mono (by decide),p*p*c,p,rfl,few,?_⟩
  rw [E9];exact w
def ls:ce:=λds S k=>∃ u a b:Rat,ds=[N u a b]/\k (N u (-a) (-b)) S
theorem qf:ar ["one"] ["one"] (aj ir):=dP
theorem qt (Fn:FN K "root_negative" ir f fd) (aA:aN P w K mg base "negative" 1 cH):
  aL P w K mg base cN 2 f fd ["one"] (cX K ls):=by
 refine Fn.okJ qf (λds S k h=>?_) (λcdv A outer s H E hr=>⟨_,(ag (am (au (aa (dq aA hr (aa (aJ 0) ac)) (aa (dq aA hr (aa (aJ 0) ac)) ac))))),λds S k h=>?_⟩)
 ·obtain⟨_,_,_,rfl,_⟩:=h
  rfl
 ·obtain⟨u,a,b,rfl,w⟩:=h;refine⟨a,rfl,ss b*u,rfl,few,?_⟩;unfold N at w;rw [Cy,show -ss b*u=-(ss b*u) by grind] at w
  exact w
def bs (u b d:Rat):Rat:=pick b d*pick b d*u
theorem Il {n:Nat} {u b d:Rat} (hu:Fd u) (hb:Sz n b) (hd:Sz n d):Sz (n+n+600) (bs u b d):=((hb.pick hd).mul (hb.pick hd)).mul hu.sz
theorem AX {n:Nat} {b e:Rat} (hb:Sz n b) (he:Sz n e):Sz (n+n+1) (b / ab e):=hb.div' he.ab
theorem DW {a b c:Rat}:a / c+b / c=(a+b) / c:=by
 rw [Rat.div_def,Rat.div_def,Rat.div_def]; grind
def lK:ce:=λds S k=>∃ u a b c d:Rat,ds=[N u a b,N u c d]/\Fd u/\Sz 4000 a/\Sz 4000 c/\Sz 1000 b/\Sz 1000 d/\Sz 900 (b+d)/\k (N u (a+c) (b+d)) S
theorem kG:ar ["one","other","base","portion"] ["one","other"] (aj mr):=dP
theorem vF (Fn:FN K "root_plus" mr f fd) (cs:aN P w K mg base "field_base" 2 iA) (aW:aN P w K mg base "plus" 3 iU) (fW:aN P w K mg base "share" 4 rB) (j5:aN P w K mg base "joined" 4 t7):
  aL P w K mg base cN 5 f fd ["one","other"] (cX K lK):=by
 refine Fn.okJ kG (λds S k h=>?_) (λcdv A outer s H E hr=>⟨_,(af (ah (i:=2) kG.nd (dq cs hr (aw 0 (aw 1 ac)))) (af (ah (i:=3) kG.nd (dq aW hr (aa (dq fW hr (aw 0 (aw 2 ac))) (aa (dq fW hr (aw 1 (aw 2 ac))) ac)))) (ag (am (dq j5 hr (aa (dq aW hr (aa (aJ 0) (aa (aJ 1) ac))) (aw 3 (aw 2 ac)))))))),λds S k h=>?_⟩)
 ·obtain⟨_,_,_,_,_,rfl,_⟩:=h
  rfl
 ·obtain⟨u,a,b,c,d,rfl,hu,ha,hc,hb,hd,hbd,w⟩:=h;have hp:=hb.pick hd;have s1:=AX hb hp;have s2:=AX hd hp;have s3:Sz 1901 (b / ab (pick b d)+d / ab (pick b d)):=by rw [DW]; exact hbd.div' hp.ab
  refine⟨u,a,b,c,d,rfl,hu.pos,u,a,b,pick b d,rfl,hu.pos,Dx,hb,hp,hu.sz,u,c,d,pick b d,rfl,hu.pos,Ea,hd,hp,hu.sz,_,_,rfl,s1.mono (by decide),s2.mono (by decide),?_⟩
  refine⟨a,c,rfl,ha,hc,_,_,_,rfl,s3.mono (by decide),(Il hu hb hd).mono (by decide),?_⟩
  rw [Bu];exact w
def j9:ce:=λds S k=>∃ u a b c d:Rat,ds=[N u a b,N u c d]/\Fd u/\Sz 4000 a/\Sz 4000 c/\Sz 1000 b/\Sz 1000 d/\Sz 900 (b - d)/\k (N u (a - c) (b - d)) S
theorem uI:ar ["one","other"] ["one","other"] (aj ku):=dP
theorem ui (Fn:FN K "root_minus" ku f fd) (dH:aN P w K mg base "root_plus" 5 lK) (h_:aN P w K mg base "root_negative" 2 ls):
  aL P w K mg base cN 6 f fd ["one","other"] (cX K j9):=by
 refine Fn.okJ uI (λds S k h=>?_) (λcdv A outer s H E hr=>⟨_,(ag (am (dq dH hr (aw 0 (aa (dq h_ hr (aw 1 ac)) ac))))),λds S k h=>?_⟩)
 ·obtain⟨_,_,_,_,_,rfl,_⟩:=h
  rfl
 ·obtain⟨u,a,b,c,d,rfl,hu,ha,hc,hb,hd,hbd,w⟩:=h;rw [show a - c=a+-c by grind,show b - d=b+-d by grind] at w
  rw [show b - d=b+-d by grind] at hbd
  exact⟨u,c,d,rfl,u,a,b,-c,-d,rfl,hu,ha,hc.neg,hb,hd.neg,hbd,w⟩
def oR:ce:=λds S k=>∃ u a b c d:Rat,ds=[N u a b,N u c d]/\Fd u/\Sm 300 a b/\Sm 300 c d/\k (N u (a*c+b*d*u) (a*d+b*c)) S
theorem el:ar ["one","other","base","mine","theirs","part","portion"] ["one","other"] (aj ke):=dP
theorem ur (Fn:FN K "root_times" ke f fd) (cs:aN P w K mg base "field_base" 2 iA) (fW:aN P w K mg base "share" 4 rB) (aW:aN P w K mg base "plus" 3 iU) (aI:aN P w K mg base "times" 3 ft) (j5:aN P w K mg base "joined" 4 t7):
  aL P w K mg base cN 5 f fd ["one","other"] (cX K oR):=by
 refine Fn.okJ el (λds S k h=>?_) (λcdv A outer s H E hr=>⟨_,(af (ah (i:=2) el.nd (dq cs hr (aw 0 (aw 1 ac)))) (af (ah (i:=3) el.nd (dq fW hr (aw 0 (aw 2 ac)))) (af (ah (i:=4) el.nd (dq fW hr (aw 1 (aw 2 ac)))) (af (ah (i:=5) el.nd (dq aW hr (aa (dq aI hr (aa (aJ 0) (aa (aJ 1) ac))) (aa (dq aI hr (aa (dq aI hr (aw 3 (aw 4 ac))) (aw 2 ac))) ac)))) (af (ah (i:=6) el.nd (dq aW hr (aa (dq aI hr (aa (aJ 0) (aw 4 ac))) (aa (dq aI hr (aa (aJ 1) (aw 3 ac))) ac)))) (ag (am (dq j5 hr (aw 5 (aw 6 (aw 2 ac))))))))))),λds S k h=>?_⟩)
 ·obtain⟨_,_,_,_,_,rfl,_⟩:=h
  rfl
 ·obtain⟨u,a,b,c,d,rfl,hu,h1,h2,w⟩:=h;have hp:=h1.b.pick h2.b;have s1:=AX h1.b hp;have s2:=AX h2.b hp;have s3:=Il hu h1.b h2.b;refine⟨u,a,b,c,d,rfl,hu.pos,u,a,b,pick b d,rfl,hu.pos,Dx,h1.b.mono (by decide),hp.mono (by decide),hu.sz,u,c,d,pick b d,rfl,hu.pos,Ea,h2.b.mono (by decide),hp.mono (by decide),hu.sz,?_⟩
  refine⟨a,c,rfl,h1.a.mono (by decide),h2.a.mono (by decide),_,_,rfl,s1.mono (by decide),s2.mono (by decide),_,_,rfl,(s1.mul s2).mono (by decide),s3.mono (by decide),_,_,rfl,(h1.a.mul h2.a).mono (by decide),((s1.mul s2).mul s3).mono (by decide),?_⟩
  refine⟨a,_,rfl,h1.a.mono (by decide),s2.mono (by decide),c,_,rfl,h2.a.mono (by decide),s1.mono (by decide),_,_,rfl,(h1.a.mul s2).mono (by decide),(h2.a.mul s1).mono (by decide),?_⟩
  refine⟨_,_,_,rfl,((h1.a.mul s2).add (h2.a.mul s1)).mono (by decide),s3.mono (by decide),?_⟩
  rw [Ah,Aj];exact w
set_option maxHeartbeats 4000000
def cn (S S':DH):Prop:=∀ b o,S b=some o->S' b=some o
theorem cn.refl (S:DH):cn S S:=λ_ _ h=>h
theorem cn.trans {S S1 S2:DH} (a:cn S S1) (b:cn S1 S2):cn S S2:=λc o h=>b c o (a c o h)
theorem cn.new {S:DH} {p:Rh} {o:DO} (h:S p=none):cn S (put S p o):=λb u e=>by
 unfold put
 split
 ·rename_i z; subst z; rw [h] at e; cases e
 ·exact e
theorem cn.put {S S1:DH} {p:Rh} {o:DO} (e:cn S S1) (h:S p=none):cn S (put S1 p o):=λb u z=>by
 unfold DL.put
 split
 ·rename_i y; subst y; rw [h] at z; cases z
 ·exact e b u z
theorem cn.none {S S1:DH} {p:Rh} (e:cn S S1) (h:S1 p=none):S p=none:=by
 cases q:S p with
 | none=>rfl
 | some o=>rw [e p o q] at h; cases h
theorem jb {u r:Rat}:D.tup [fr r,fr 0]=N u r 0:=by
 unfold N;rw [show ss 0*u=0 by unfold ss; grind]
abbrev Q:=Rat×Rat
def qa (x y:Q):Q:=(x.1+y.1,x.2+y.2)
def qs (x y:Q):Q:=(x.1 - y.1,x.2 - y.2)
def qm (u:Rat) (x y:Q):Q:=(x.1*y.1+x.2*y.2*u,x.1*y.2+x.2*y.1)
abbrev Sq (n:Nat) (x:Q):Prop:=Sm n x.1 x.2
def Pq (u:Rat) (x y:Q):D:=.tup [N u x.1 x.2,N u y.1 y.2]
def qo (p:Rat):Q:=(p,0)
def jw (u:Rat) (x y:Q):Q:=qa (qm u x x) (qm u y y)
def vA (u:Rat) (x y z w p q:Q):Q:=qa x (qs (qm u p (qs z x)) (qm u q (qs w y)))
def uP (u:Rat) (x y z w p q:Q):Q:=qa y (qa (qm u p (qs w y)) (qm u q (qs z x)))
def AE (u:Rat) (x y z w a b:Q):Q:=qs (qm u (qs z x) (qs b y)) (qm u (qs w y) (qs a x))
def qA:ce:=λds S k=>∃ u a b c d:Rat,ds=[N u a b,N u c d]/\0 < u/\Sz 600 u/\Sz 300 b/\Sz 300 d/\k (.bl true) S
theorem w5:ar ["one","other"] ["one","other"] (aj mD):=dP
theorem vH (Fn:FN K "one_field" mD f fd) (a8:aN P w K mg base "is_plain" 1 gP) (eZ:aN P w K mg base "root_in" 3 mX) (c_:aN P w K mg base "over" 3 nQ) (aR:aN P w K mg base "without_sign" 1 eN):
  aL P w K mg base cN 4 f fd ["one","other"] (cX K qA):=by
 refine Fn.okJ w5 (λds S k h=>?_) (λcdv A outer s H E hr=>⟨_,(af (aK (WJ.pt (wu (fo (dq a8 hr (aw 0 ac))) (rp (fo (dq a8 hr (aw 1 ac)))))) (ag (am pk)) aO) (ag (am (wJ vN (dq eZ hr (aa (dq c_ hr (aa (dq aR hr (aa (aJ 0) ac)) (aa (dq aR hr (aa (aJ 1) ac)) ac))) ac)) fT (aM _))))),λds S k h=>?_⟩)
 ·obtain⟨_,_,_,_,_,rfl,_⟩:=h
  rfl
 ·obtain⟨u,a,b,c,d,rfl,u0,hu,hb,hd,w⟩:=h;refine⟨fr a,ss b*u,rfl,bq (λ_=>w) (λe=>⟨fr c,ss d*u,rfl,bq (λ_=>w) (λe2=>?_)⟩)⟩
  have d0:d≠0:=λz=>e2 ((mY u0).mpr z)
  have eb:ab (ss b*u)=b*b*u:=si u0;have ed:ab (ss d*u)=d*d*u:=si u0;have s1:Sz 1200 (ab (ss b*u)):=(hb.ss.mul hu).ab;have s2:Sz 1200 (ab (ss d*u)):=(hd.ss.mul hu).ab;have ne:ab (ss d*u)≠0:=by rw [ed]; grind
  refine⟨_,rfl,_,rfl,_,_,rfl,ne,s1.mono (by decide),s2.mono (by decide),_,rfl,rS (qB _) (qB _),(s1.div s2 ne).mono (by decide),λr r0 rr=>w,λno=>?_⟩
  rw [eb,ed] at no;exact absurd (rR u0 d0) (no _)
def Lg (u:Rat) (p:D):Prop:=∃ a b c d:Rat,p=.tup [N u a b,N u c d]/\Sz 300 b/\Sz 300 d
def Mp (u:Rat) (x:D):Prop:=∃ a b:Rat,x=N u a b/\b≠0/\Sz 300 b
def lp:ce:=λds S k=>∃ (u:Rat) (pts:List D),ds=[.tup pts]/\Fd u/\(∀ p∈pts,Lg u p)/\pts.length<=100/\∀ S',cn S S'->k .non S'
theorem eW:ar ["points","rooted","point","number"] ["points"] (aj ip):=dP
theorem pP (Fn:FN K "ask_one_field" ip f fd) (a8:aN P w K mg base "is_plain" 1 gP) (mF:aN P w K mg base "one_field" 4 qA):
  aL P w K mg base cN 5 f fd ["points"] (cX K lp):=by
 refine Fn.okJ eW (λds S k h=>?_) (λcdv A outer s H E hr=>⟨_,(af (ah (i:=1) eW.nd (fX ac)) (af (iN PassesOwn.never rfl (ai 0) (aB (i:=2) eW.nd) (ag (cS (Jd (ai 1) (zK rfl (wy (N:=["number"]) (cap:=[none]) rfl rfl rfl rfl trivial rfl rfl trivial) (ai 2) (λ_ _ _ _=>(aB (i:=0) (show List.Nodup (["number"]:List Str) from by decide +kernel))) (λ_ _ _ _=>(kf (fo (dq a8 hr (aw 0 ac))))) (λ_ _ _ _=>(ai 0))))))) (ag (iN PassesOwn.never rfl (HU (ai 1) (Ed ak) FU) (aB (i:=3) eW.nd) (ag (aK (kf (fo (dq mF hr (aa (aJ 1) (aw 3 ac))))) (ag eJ) aO)))))),λds S k h=>?_⟩)
 ·obtain⟨_,_,rfl,_⟩:=h
  rfl
 ·obtain⟨u,pts,rfl,hu,hp,hl,w⟩:=h;refine⟨few,λq hq=>?_⟩
  refine⟨(pts,none),rfl,?_⟩;have big:∀ n:Nat,n<=300->n<=sizeLine:=λn h=>QF h (Qi (rfl:Nat.ble 300 sizeLine=true))
  have big':∀ n:Nat,n < 300->n < sizeLine:=λn h=>Qc h (Qi (rfl:Nat.ble 300 sizeLine=true))
  refine df (λr L S'=>∃ xs l2 l3,L=[some (.tup pts),some (.ref q),l2,l3]/\cn S S'/\S' q=some (.lst xs)/\(∀ x∈xs,Mp u x)/\xs.length+2*r.length<=200/\(∀ p∈r,Lg u p)) (λ_ _ _ _=>trivial) ?_ ?_ pts _ _ ⟨[],none,none,rfl,cn.new hq,aq,(λ_ z=>by cases z),(by show 0+2*pts.length<=200; omega),hp⟩
  ·rintro d r L S1 Nx ⟨xs,l2,l3,rfl,e,hS1,hx,hl1,hp1⟩ hN;obtain⟨a,b,c,d,rfl,s1,s2⟩:=hp1 _ Qa;have hl1:xs.length+2*(r.length+1)<=200:=hl1;refine⟨⟨xs,hS1⟩,([N u a b,N u c d],none),rfl,λp hp2=>?_⟩
   have qp:q≠p:=λz=>by subst z; rw [hS1] at hp2; cases hp2
   have sp:S p=none:=e.none hp2;have fin:∀ (es:List D) (S2:DH),cn S S2->S2 q=some (.lst xs)->S2 p=some (.lst es)->es.length<=2->(∀ x∈es,Mp u x)->∃ ds es',S2 q=some (.lst ds)/\S2 p=some (.lst es')/\ds.length+es'.length<=sizeLine/\Nx [some (.tup pts),some (.ref q),some (.tup [N u a b,N u c d]),l3] (put S2 q (.lst (ds++es'))):=λes S2 e2 h1 h2 h3 h4=>
    ⟨xs,es,h1,h2,big _ (by omega),hN _ _ ⟨xs++es,_,_,rfl,e2.put hq,aq,λx hx2=>(List.mem_append.mp hx2).elim (hx x) (h4 x),by rw [Ql]; omega,λp hp3=>hp1 p (Qb _ hp3)⟩⟩
   have r1:b≠0->Mp u (N u a b):=λh=>⟨a,b,rfl,h,s1⟩
   have r2:d≠0->Mp u (N u c d):=λh=>⟨c,d,rfl,h,s2⟩
   have nz:∀ {b:Rat},¬ ss b*u=0->b≠0:=λh z=>h ((mY hu.pos).mpr z)
   have e0:cn S (put S1 p (.lst [])):=e.put sp;have q0:put S1 p (.lst []) q=some (.lst xs):=by rw [bV qp]; exact hS1
   refine⟨trivial,_,_,rfl,sW (λh1=>⟨aq,big' 0 (by decide),trivial,_,_,rfl,sW (λh2=>⟨aq,big' 1 (by decide),trivial,?_⟩) (λh2=>⟨trivial,?_⟩)⟩) (λh1=>⟨trivial,_,_,rfl,sW (λh2=>⟨aq,big' 0 (by decide),trivial,?_⟩) (λh2=>⟨trivial,?_⟩)⟩)⟩
   ·exact fin [N u a b,N u c d] _ ((e0.put sp).put sp) (by rw [bV qp,bV qp]; exact q0) aq (by show 2<=2; decide) (λx hx2=>by
     simp only [P9,Qh,or_false] at hx2;rcases hx2 with rfl | rfl
     ·exact r1 (nz h1)
     ·exact r2 (nz h2))
   ·exact fin [N u a b] _ (e0.put sp) (by rw [bV qp]; exact q0) aq (by show 1<=2; decide) (λx hx2=>by
     simp only [P9,Qh,or_false] at hx2;subst hx2;exact r1 (nz h1))
   ·exact fin [N u c d] _ (e0.put sp) (by rw [bV qp]; exact q0) aq (by show 1<=2; decide) (λx hx2=>by
     simp only [P9,Qh,or_false] at hx2;subst hx2;exact r2 (nz h2))
   ·exact fin [] _ e0 q0 aq (by show 0<=2; decide) (λx hx2=>by cases hx2)
  ·rintro L S1 ⟨xs,l2,l3,rfl,e,hS1,hx,_,_⟩;refine⟨xs,hS1,λp hp2=>⟨(DM xs (some 1) none,some p),by simp only [bh,aq],?_⟩⟩
   have qp:q≠p:=λz=>by subst z; rw [hS1] at hp2; cases hp2
   refine df (λr L S2=>∃ l2 l3,L=[some (.tup pts),some (.ref q),l2,l3]/\cn S S2/\S2 q=some (.lst xs)/\S2 p=some (.lst (DM xs (some 1) none))/\(xs=[]->r=[])/\∀ x∈r,Mp u x) (λr L S2 z9=>by obtain⟨_,_,_,_,_,z,_⟩:=z9; exact z) ?_ (λL S2 z9=>by obtain⟨_,_,_,e2,_⟩:=z9; exact w S2 e2) _ _ _ ⟨l2,l3,rfl,e.put (e.none hp2),(bV qp).trans hS1,aq,(λz=>by subst z; rfl),λx hx2=>hx x (Ec hx2)⟩
   rintro d r L S2 Nx ⟨l2,l3,rfl,e2,h1,h2,h3,hr⟩ hN;obtain⟨a,b,rfl,b0,sb⟩:=hr _ Qa;cases xs with
   | nil=>cases h3 rfl
   | cons x0 xr=>
    obtain⟨a',b',rfl,b0',sb'⟩:=hx _ Qa;exact⟨_,_,h1,m_,u,a',b',a,b,rfl,hu.pos,hu.sz,sb',sb,Ja (λz=>by cases z) (λ_=>hN _ _ ⟨_,_,rfl,e2,h1,h2,(λz=>by cases z),λx hx2=>hr x (Qb _ hx2)⟩)⟩
def Wy (κ:Rr) (P m n:Nat) (X:Q):Prop:=match κ with
 | true=>X.2=0/\Sz P X.1
 | false=>Sz m X.1/\Sz n X.2
theorem Wy.a {κ:Rr} {P m n k:Nat} {X:Q} (h:Wy κ P m n X) (h1:P<=k) (h2:m<=k):Sz k X.1:=by
 cases κ
 ·exact h.1.mono h2
 ·exact h.2.mono h1
theorem Wy.b {κ:Rr} {P m n k:Nat} {X:Q} (h:Wy κ P m n X) (h1:1<=k) (h2:n<=k):Sz k X.2:=by
 cases κ
 ·exact h.2.mono h2
 ·rw [h.1]; exact Sz.zero.mono h1
theorem Wy.add {κ:Rr} {P m n P' m' n':Nat} {X Y:Q} (h:Wy κ P m n X) (g:Wy κ P' m' n' Y):Wy κ (P+P'+1) (m+m'+1) (n+n'+1) (qa X Y):=by
 cases κ
 ·exact⟨h.1.add g.1,h.2.add g.2⟩
 ·exact⟨by show X.2+Y.2=0; rw [h.1,g.1]; grind,h.2.add g.2⟩
theorem Wy.sub {κ:Rr} {P m n P' m' n':Nat} {X Y:Q} (h:Wy κ P m n X) (g:Wy κ P' m' n' Y):Wy κ (P+P'+1) (m+m'+1) (n+n'+1) (qs X Y):=by
 cases κ
 ·exact⟨h.1.sub g.1,h.2.sub g.2⟩
 ·exact⟨by show X.2 - Y.2=0; rw [h.1,g.1]; grind,h.2.sub g.2⟩
theorem Wy.plain {κ:Rr} {n:Nat} {p:Rat} (h:Sz n p):Wy κ n n 1 (qo p):=by
 cases κ
 ·exact⟨h,Sz.zero⟩
 ·exact⟨rfl,h⟩
theorem Wy.scale {κ:Rr} {P m n k:Nat} {u p:Rat} {X:Q} (hp:Sz k p) (h:Wy κ P m n X):Wy κ (k+P) (k+m) (k+n) (qm u (qo p) X):=by
 have e1:(qm u (qo p) X).1=p*X.1:=by show p*X.1+0*X.2*u=_; grind
 have e2:(qm u (qo p) X).2=p*X.2:=by show p*X.2+0*X.1=_; grind
 cases κ
 ·exact⟨by rw [e1]; exact hp.mul h.1,by rw [e2]; exact hp.mul h.2⟩
 ·exact⟨by rw [e2,h.1]; grind,by rw [e1]; exact hp.mul h.2⟩
structure Pz (X:Q):Prop where
 a:Sz 3000 X.1
 b:Sz 100 X.2
theorem Lg.of {u:Rat} {x y:Q} (hx:Pz x) (hy:Pz y):Lg u (Pq u x y):=⟨_,_,_,_,rfl,hx.b.mono (by decide),hy.b.mono (by decide)⟩
def nt:ce:=λds S k=>∃ (u:Rat) (x y z v:Q),ds=[Pq u x y,Pq u z v]/\Fd u/\Pz x/\Pz y/\Pz z/\Pz v/\k (Pq u (qs z x) (qs v y)) S
theorem tV:ar ["one","other"] ["one","other"] (aj jC):=dP
theorem tm (Fn:FN K "way_between" jC f fd) (dN:aN P w K mg base "root_minus" 6 j9):
  aL P w K mg base cN 7 f fd ["one","other"] (cX K nt):=by
 refine Fn.okJ tV (λds S k h=>?_) (λcdv A outer s H E hr=>⟨_,(ag (am (au (aa (dq dN hr (aa (aJ 1) (aa (aJ 0) ac))) (aa (dq dN hr (aa (aJ 1) (aa (aJ 0) ac))) ac))))),λds S k h=>?_⟩)
 ·obtain⟨_,_,_,_,_,rfl,_⟩:=h
  rfl
 ·obtain⟨u,x,y,z,v,rfl,hu,hx,hy,hz,hv,w⟩:=h;exact⟨u,_,_,_,_,rfl,hu,hz.a.mono (by decide),hx.a.mono (by decide),hz.b.mono (by decide),hx.b.mono (by decide),(hz.b.sub hx.b).mono (by decide),u,_,_,_,_,rfl,hu,hv.a.mono (by decide),hy.a.mono (by decide),hv.b.mono (by decide),hy.b.mono (by decide),(hv.b.sub hy.b).mono (by decide),few,w⟩
def qb:ce:=λds S k=>∃ (u:Rat) (x y z v:Q) (p q:Rat),ds=[Pq u x y,Pq u z v,fr p,fr q]/\Fd u/\Sm 50 x.1 x.2/\Sm 50 y.1 y.2/\Sz 248 z.1/\Sz 100 z.2/\Sz 248 v.1/\Sz 100 v.2/\Sz 30 p/\Sz 30 q/\∀ S',cn S S'->k (Pq u (vA u x y z v (qo p) (qo q)) (uP u x y z v (qo p) (qo q))) S'
theorem gF:ar ["one","other","along","left","way","ahead","aside","x","y"] ["one","other","along","left"] (aj qh):=dP
theorem yZ (Fn:FN K "like_at" qh f fd) (ig:aN P w K mg base "ask_one_field" 5 lp) (jz:aN P w K mg base "way_between" 7 nt) (dN:aN P w K mg base "root_minus" 6 j9) (eU:aN P w K mg base "root_times" 5 oR) (dH:aN P w K mg base "root_plus" 5 lK) (bF:qv K mg "NOUGHT" [0,1]):
  aL P w K mg base cN 8 f fd ["one","other","along","left"] (cX K qb):=by
 refine Fn.okJ gF (λds S k h=>?_) (λcdv A outer s H E hr=>⟨_,(af (cS (dq ig hr (aa (au (aw 0 (aw 1 ac))) ac))) (af (ah (i:=4) gF.nd (dq jz hr (aw 0 (aw 1 ac)))) (af (ah (i:=5) gF.nd (au (aw 2 (aa (fx bF rfl) ac)))) (af (ah (i:=6) gF.nd (au (aw 3 (aa (fx bF rfl) ac)))) (af (ah (i:=7) gF.nd (dq dN hr (aa (dq eU hr (aw 5 (aa (aJ 4) ac))) (aa (dq eU hr (aw 6 (aa (aJ 4) ac))) ac)))) (af (ah (i:=8) gF.nd (dq dH hr (aa (dq eU hr (aw 5 (aa (aJ 4) ac))) (aa (dq eU hr (aw 6 (aa (aJ 4) ac))) ac)))) (ag (am (au (aa (dq dH hr (aa (aJ 0) (aw 7 ac))) (aa (dq dH hr (aa (aJ 0) (aw 8 ac))) ac))))))))))),λds S k h=>?_⟩)
 ·obtain⟨_,_,_,_,_,_,_,rfl,_⟩:=h
  rfl
 ·obtain⟨u,x,y,z,v,p,q,rfl,hu,hx,hy,za,zb,va,vb,hp,hq,w⟩:=h;have px:Pz x:=⟨hx.a.mono (by decide),hx.b.mono (by decide)⟩
  have py:Pz y:=⟨hy.a.mono (by decide),hy.b.mono (by decide)⟩
  have pz:Pz z:=⟨za.mono (by decide),zb⟩
  have pv:Pz v:=⟨va.mono (by decide),vb⟩
  refine⟨few,u,[Pq u x y,Pq u z v],rfl,hu,?_,(by show 2<=100; decide),λS' e=>?_⟩
  ·intro p hp;simp only [P9,Qh,or_false] at hp;rcases hp with rfl | rfl
   ·exact Lg.of px py
   ·exact Lg.of pz pv
  ·have h1:Wy false 1 299 151 (qs z x):=⟨za.sub hx.a,zb.sub hx.b⟩;have h2:Wy false 1 299 151 (qs v y):=⟨va.sub hy.a,vb.sub hy.b⟩;have gp:Wy false 30 30 1 (qo p):=Wy.plain hp;have gq:Wy false 30 30 1 (qo q):=Wy.plain hq;have m1:Wy false 31 329 181 (qm u (qo p) (qs z x)):=h1.scale hp;have m2:Wy false 31 329 181 (qm u (qo q) (qs v y)):=h2.scale hq;have m3:Wy false 31 329 181 (qm u (qo p) (qs v y)):=h2.scale hp;have m4:Wy false 31 329 181 (qm u (qo q) (qs z x)):=h1.scale hq;have d1:=m1.sub m2;have d2:=m3.add m4;have z0:Sz 300 0:=Sz.zero.mono (by decide)
   have pp:Sm 300 p 0:=⟨hp.mono (by decide),z0⟩
   have qq:Sm 300 q 0:=⟨hq.mono (by decide),z0⟩
   have s1:Sm 300 (qs z x).1 (qs z x).2:=⟨h1.1.mono (by decide),h1.2.mono (by decide)⟩
   have s2:Sm 300 (qs v y).1 (qs v y).2:=⟨h2.1.mono (by decide),h2.2.mono (by decide)⟩
   refine⟨u,x,y,z,v,rfl,hu,px,py,pz,pv,few,few,?_⟩;refine⟨u,_,_,_,_,congrArg (λt=>[t,_]) (jb (u:=u)),hu,pp,s1,?_⟩
   refine⟨u,_,_,_,_,congrArg (λt=>[t,_]) (jb (u:=u)),hu,qq,s2,?_⟩
   refine⟨u,_,_,_,_,rfl,hu,m1.a (by decide) (by decide),m2.a (by decide) (by decide),m1.b (by decide) (by decide),m2.b (by decide) (by decide),d1.b (by decide) (by decide),?_⟩
   refine⟨u,_,_,_,_,congrArg (λt=>[t,_]) (jb (u:=u)),hu,pp,s2,?_⟩
   refine⟨u,_,_,_,_,congrArg (λt=>[t,_]) (jb (u:=u)),hu,qq,s1,?_⟩
   refine⟨u,_,_,_,_,rfl,hu,m3.a (by decide) (by decide),m4.a (by decide) (by decide),m3.b (by decide) (by decide),m4.b (by decide) (by decide),d2.b (by decide) (by decide),?_⟩
   have e1:=d1.b (k:=600) (by decide) (by decide)
   have e2:=d2.b (k:=600) (by decide) (by decide)
   refine⟨u,_,_,_,_,rfl,hu,hx.a.mono (by decide),d1.a (by decide) (by decide),hx.b.mono (by decide),e1.mono (by decide),(hx.b.add e1).mono (by decide),?_⟩
   exact⟨u,_,_,_,_,rfl,hu,hy.a.mono (by decide),d2.a (by decide) (by decide),hy.b.mono (by decide),e2.mono (by decide),(hy.b.add e2).mono (by decide),few,w S' e⟩
def W (x y:Rat):D:=.tup [fr x,fr y]
def PP (x y:Rat):D:=.tup [.tup [fr x,fr 0],.tup [fr y,fr 0]]
noncomputable def MP (x y a b s:Rat):D:=.tup [Gi x (ss a*s),Gi y (ss b*s)]
noncomputable def mh (x y a b s:Rat):List D:=if s < 0 then [] else if s=0 then [PP x y] else [MP x y a b s,MP x y (-a) (-b) s]
def fh:ce:=λds S k=>∃ x y:Rat,ds=[W x y]/\k (PP x y) S
theorem sH:ar ["place"] ["place"] (aj jK):=dP
theorem sF (Fn:FN K "plain_point" jK f fd) (bF:qv K mg "NOUGHT" [0,1]):
  aL P w K mg base cN 1 f fd ["place"] (cX K fh):=by
 refine Fn.okJ sH (λds S k h=>?_) (λcdv A outer s H E hr=>⟨_,(ag (am (au (aa (au (aa (aJ 0) (aa (fx bF rfl) ac))) (aa (au (aa (aJ 0) (aa (fx bF rfl) ac))) ac))))),λds S k h=>?_⟩)
 ·obtain⟨_,_,rfl,_⟩:=h
  rfl
 ·obtain⟨x,y,rfl,w⟩:=h;exact⟨few,few,few,w⟩
def kr:ce:=λds S k=>∃ x y:Rat,ds=[PP x y]/\k (W x y) S
theorem xQ:ar ["point"] ["point"] (aj nR):=dP
theorem xB (Fn:FN K "place_of" nR f fd):
  aL P w K mg base cN 1 f fd ["point"] (cX K kr):=by
 refine Fn.okJ xQ (λds S k h=>?_) (λcdv A outer s H E hr=>⟨_,(ag (am (au (aa (cA du (aJ 0) ak Zf) (aa (cA du (aJ 0) ak Zf) ac))))),λds S k h=>?_⟩)
 ·obtain⟨_,_,rfl,_⟩:=h
  rfl
 ·obtain⟨x,y,rfl,w⟩:=h;exact⟨few,w⟩
def mC:ce:=λds S k=>∃ x y z v:Rat,ds=[W x y,W z v]/\Sz 4000 x/\Sz 4000 y/\Sz 4000 z/\Sz 4000 v/\k (W (z - x) (v - y)) S
theorem wP:ar ["one","other"] ["one","other"] (aj mz):=dP
theorem wg (Fn:FN K "plain_way" mz f fd) (bJ:aN P w K mg base "minus" 3 jt):
  aL P w K mg base cN 4 f fd ["one","other"] (cX K mC):=by
 refine Fn.okJ wP (λds S k h=>?_) (λcdv A outer s H E hr=>⟨_,(ag (am (au (aa (dq bJ hr (aa (aJ 1) (aa (aJ 0) ac))) (aa (dq bJ hr (aa (aJ 1) (aa (aJ 0) ac))) ac))))),λds S k h=>?_⟩)
 ·obtain⟨_,_,_,_,rfl,_⟩:=h
  rfl
 ·obtain⟨x,y,z,v,rfl,hx,hy,hz,hv,w⟩:=h;exact⟨z,x,rfl,hz,hx,v,y,rfl,hv,hy,few,w⟩
def b8:ce:=λds S k=>∃ x y z v:Rat,ds=[W x y,W z v]/\Sz 900 x/\Sz 900 y/\Sz 900 z/\Sz 900 v/\k (fr (x*z+y*v)) S
theorem n_:ar ["one","other"] ["one","other"] (aj fU):=dP
theorem nK (Fn:FN K "product_of_ways" fU f fd) (aW:aN P w K mg base "plus" 3 iU) (aI:aN P w K mg base "times" 3 ft):
  aL P w K mg base cN 4 f fd ["one","other"] (cX K b8):=by
 refine Fn.okJ n_ (λds S k h=>?_) (λcdv A outer s H E hr=>⟨_,(ag (am (dq aW hr (aa (dq aI hr (aa (aJ 0) (aa (aJ 1) ac))) (aa (dq aI hr (aa (aJ 0) (aa (aJ 1) ac))) ac))))),λds S k h=>?_⟩)
 ·obtain⟨_,_,_,_,rfl,_⟩:=h
  rfl
 ·obtain⟨x,y,z,v,rfl,hx,hy,hz,hv,w⟩:=h;exact⟨x,z,rfl,hx.mono (by decide),hz.mono (by decide),y,v,rfl,hy.mono (by decide),hv.mono (by decide),_,_,rfl,(hx.mul hz).mono (by decide),(hy.mul hv).mono (by decide),w⟩
def rG:ce:=λds S k=>∃ x y a b t:Rat,ds=[W x y,W a b,fr t]/\Sz 900 x/\Sz 900 y/\Sz 900 a/\Sz 900 b/\Sz 900 t/\k (W (x+a*t) (y+b*t)) S
theorem C3:ar ["place","way","by"] ["place","way","by"] (aj wx):=dP
theorem Ej (Fn:FN K "moved" wx f fd) (aW:aN P w K mg base "plus" 3 iU) (aI:aN P w K mg base "times" 3 ft):
  aL P w K mg base cN 4 f fd ["place","way","by"] (cX K rG):=by
 refine Fn.okJ C3 (λds S k h=>?_) (λcdv A outer s H E hr=>⟨_,(ag (am (au (aa (dq aW hr (aa (aJ 0) (aa (dq aI hr (aa (aJ 1) (aw 2 ac))) ac))) (aa (dq aW hr (aa (aJ 0) (aa (dq aI hr (aa (aJ 1) (aw 2 ac))) ac))) ac))))),λds S k h=>?_⟩)
 ·obtain⟨_,_,_,_,_,rfl,_⟩:=h
  rfl
 ·obtain⟨x,y,a,b,t,rfl,hx,hy,ha,hb,ht,w⟩:=h;exact⟨a,t,rfl,ha.mono (by decide),ht.mono (by decide),_,_,rfl,hx.mono (by decide),(ha.mul ht).mono (by decide),b,t,rfl,hb.mono (by decide),ht.mono (by decide),_,_,rfl,hy.mono (by decide),(hb.mul ht).mono (by decide),few,w⟩
def lf:ce:=λds S k=>∃ x y a b s:Rat,ds=[W x y,W a b,fr s]/\Sz 400 x/\Sz 400 y/\Sz 60 a/\Sz 60 b/\Sz 600 s/\∀ S',cn S S'->k (MP x y a b s) S'
theorem dB:ar ["place","way","square","numbers","part","portion","under"] ["place","way","square"] (aj iu):=dP
theorem pI (Fn:FN K "moved_by_root" iu f fd) (aI:aN P w K mg base "times" 3 ft) (zt:aN P w K mg base "made" 4 Eb) (aT:aN P w K mg base "with_sign_of" 2 eI) (Ge:mg "zip"=none):
  aL P w K mg base cN 5 f fd ["place","way","square"] (cX K lf):=by
 refine Fn.okJ dB (λds S k h=>?_) (λcdv A outer s H E hr=>⟨_,(af (ah (i:=3) dB.nd (fX ac)) (af (Cb PassesOwn.never rfl rfl Ge (aw 0 (aw 1 ac)) (eC (n:=2) rfl (aH (aB (i:=4) dB.nd) (aH (aB (i:=5) dB.nd) cW))) (af (ah (i:=6) dB.nd (dq aI hr (aa (dq aI hr (aw 5 (aw 5 ac))) (aw 2 ac)))) (ag (cS (jy (ai 3) (dq zt hr (aw 4 (aa (dq aT hr (aw 6 (aw 5 ac))) ac)))))))) (ag (am (au (aa (aJ 3) (aa (aJ 3) ac))))))),λds S k h=>?_⟩)
 ·obtain⟨_,_,_,_,_,rfl,_⟩:=h
  rfl
 ·obtain⟨x,y,a,b,s,rfl,hx,hy,ha,hb,hs,w⟩:=h;have big':∀ n:Nat,n < 300->n < sizeLine:=λn h=>Qc h (Qi (rfl:Nat.ble 300 sizeLine=true))
  refine⟨few,λq hq=>⟨([fr x,fr y],none),([fr a,fr b],none),rfl,rfl,?_⟩⟩
  have m1:=(ha.mul ha).mul hs;have m2:=(hb.mul hb).mul hs;have s1:Sz 1000 (sg (a*a*s) a):=m1.sg.mono (by decide)
  have s2:Sz 1000 (sg (b*b*s) b):=m2.sg.mono (by decide)
  refine⟨⟨trivial,trivial⟩,([fr x,fr a],none),rfl,rfl,rfl,a,a,rfl,ha.mono (by decide),ha.mono (by decide),_,s,rfl,(ha.mul ha).mono (by decide),hs.mono (by decide),?_⟩
  refine⟨⟨_,aq⟩,_,a,rfl,x,_,rfl,hx.mono (by decide),s1,[],aq,big' 0 (by decide),?_⟩
  refine⟨⟨trivial,trivial⟩,([fr y,fr b],none),rfl,rfl,rfl,b,b,rfl,hb.mono (by decide),hb.mono (by decide),_,s,rfl,(hb.mul hb).mono (by decide),hs.mono (by decide),?_⟩
  refine⟨⟨_,aq⟩,_,b,rfl,y,_,rfl,hy.mono (by decide),s2,_,aq,big' 1 (by decide),?_⟩
  refine⟨⟨trivial,trivial⟩,_,_,aq,m_,_,_,aq,HY,few,?_⟩;rw [E9,E9];exact w _ (((cn.new hq).put hq).put hq)
def ky:ce:=λds S k=>∃ x y a b s:Rat,ds=[W x y,W a b,fr s]/\Sz 400 x/\Sz 400 y/\Sz 60 a/\Sz 60 b/\Sz 600 s/\∀ S' p,cn S S'->S' p=none->k (.ref p) (put S' p (.lst (mh x y a b s)))
theorem nA:ar ["place","way","square","against"] ["place","way","square"] (aj kj):=dP
theorem uw (Fn:FN K "both_moved" kj f fd) (bc:aN P w K mg base "plain_point" 1 fh) (aA:aN P w K mg base "negative" 1 cH) (fq:aN P w K mg base "moved_by_root" 5 lf):
  aL P w K mg base cN 6 f fd ["place","way","square"] (cX K ky):=by
 refine Fn.okJ nA (λds S k h=>?_) (λcdv A outer s H E hr=>⟨_,(af (aK (aG zn (aJ 2) ak (aM _)) (ag (am (fX ac))) aO) (af (aK (aG jV (aJ 2) ak (aM _)) (ag (am (fX (aa (dq bc hr (aw 0 ac)) ac)))) aO) (af (ah (i:=3) nA.nd (au (aa (dq aA hr (aa (aJ 1) ac)) (aa (dq aA hr (aa (aJ 1) ac)) ac)))) (ag (am (fX (aa (dq fq hr (aw 0 (aw 1 (aw 2 ac)))) (aa (dq fq hr (aw 0 (aw 3 (aw 2 ac)))) ac)))))))),λds S k h=>?_⟩)
 ·obtain⟨_,_,_,_,_,rfl,_⟩:=h
  rfl
 ·obtain⟨x,y,a,b,s,rfl,hx,hy,ha,hb,hs,w⟩:=h;refine bq (λn=>?_) (λn=>bq (λz=>?_) (λz=>?_))
  ·have w':=λp hp=>w S p (cn.refl S) hp
   rw [show mh x y a b s=[] from if_pos ((fK s).mp n)] at w'
   exact⟨few,w'⟩
  ·have z:s=0:=Rb.mp z;have w':=λp hp=>w S p (cn.refl S) hp
   rw [show mh x y a b s=[PP x y] by unfold mh; rw [if_neg (by rw [z]; decide),if_pos z]] at w'
   exact⟨x,y,rfl,few,w'⟩
  ·have z:s≠0:=λq=>z (by rw [q]; rfl)
   refine⟨a,rfl,b,rfl,few,x,y,a,b,s,rfl,hx,hy,ha,hb,hs,λS1 e1=>⟨x,y,-a,-b,s,rfl,hx,hy,ha.neg,hb.neg,hs,λS2 e2=>⟨few,λp hp=>?_⟩⟩⟩
   have w':=w S2 p (e1.trans e2) hp;rw [show mh x y a b s=[MP x y a b s,MP x y (-a) (-b) s] by unfold mh; rw [if_neg (λq=>n ((fK s).mpr q)),if_neg z]] at w'
   exact w'
def i9:ce:=λds S k=>∃ a b:Rat,ds=[W a b]/\Sz 900 a/\Sz 900 b/\a*a+b*b≠0/\k (fr (a*a+b*b)) S
theorem dh:ar ["way","square"] ["way"] (aj dI):=dP
theorem m8 (Fn:FN K "square_of_unlike" dI f fd) (aD:aN P w K mg base "product_of_ways" 4 b8):
  aL P w K mg base cN 5 f fd ["way"] (cX K i9):=by
 refine Fn.okJ dh (λds S k h=>?_) (λcdv A outer s H E hr=>⟨_,(af (ah (i:=1) dh.nd (dq aD hr (aw 0 (aw 0 ac)))) (af (aK (aG jV (aJ 1) ak (aM _)) (ag eJ) aO) (ag (am (ai 1))))),λds S k h=>?_⟩)
 ·obtain⟨_,_,rfl,_⟩:=h
  rfl
 ·obtain⟨a,b,rfl,ha,hb,h0,w⟩:=h;exact⟨a,b,a,b,rfl,ha,hb,ha,hb,bq (λz=>absurd (Rb.mp z) h0) (λ_=>w)⟩
set_option maxHeartbeats 4000000
structure yS (c:Zr) (ns:Zi):Prop where
 keys:ns.map (·.1)=c.map (·.1)
 sc:∃ t:Rat,t≠0/\(∀ p∈ns,∃ q,(p.1,q)∈c/\(p.2:Rat)=t*q)/\∀ p∈c,∃ n:Int,(p.1,n)∈ns/\(n:Rat)=t*p.2
 co:∀ d:Int,(∀ p∈ns,d ∣ p.2)->d ∣ 1
 sg:∃ p∈ns,(∀ q∈ns,ua q.1 p.1=false)/\0 < p.2
theorem Kf {k l:List Int} (hk:∃ i j,k=[i,j]) (hl:∃ i j,l=[i,j]) (h1:ua k l=false) (h2:ua l k=false):k=l:=by
 obtain⟨a,b,rfl⟩:=hk;obtain⟨c,d,rfl⟩:=hl;simp only [ua,Bool.or_eq_false_iff,Bool.and_eq_false_iff,decide_eq_false_iff_not] at h1 h2
 have e1:a=c:=by omega
 have e2:b=d:=by omega
 rw [e1,e2]
theorem yN {α:Type}:∀ {l:List (List Int×α)} {k:List Int} {x y:α},(l.map (·.1)).Nodup->(k,x)∈l->(k,y)∈l->x=y
 | [],_,_,_,_,h,_=>nomatch h
 | p::l,k,x,y,nd,h1,h2=>by
  rw [Qe,QK] at nd;rcases P9.mp h1 with e1 | m1
  ·rcases P9.mp h2 with e2 | m2
   ·have:=e1.trans e2.symm;injection this
   ·refine absurd (P5.mpr ⟨_,m2,?_⟩) nd.1;rw [<- e1]
  ·rcases P9.mp h2 with e2 | m2
   ·refine absurd (P5.mpr ⟨_,m1,?_⟩) nd.1;rw [<- e2]
   ·exact yN nd.2 m1 m2
theorem Hk (q:Rat):((q.den:Int):Rat)≠0:=λz=>by
 have:=q.den_nz;have:(q.den:Int)=0:=QL.mp (by rw [z]; rfl)
 omega
theorem bv (q:Rat):((q.den:Int):Rat)*q=(q.num:Rat):=by
 have d0:=Hk q;have e:=Rat.num_divInt_den q;rw [QB] at e;grind
theorem ji {r:Rat} {n m:Int} (h:(m:Rat)=r*n):(r.den:Int)*m=r.num*n:=by
 have z:=bv r;have e2:(((r.den:Int)*m:Int):Rat)=((r.num*n:Int):Rat):=by
  rw [P2,P2,h,<- z];grind
 exact QL.mp e2
theorem A6 {a b n:Int} (h:a ∣ b*n) (c:Nat.Coprime a.natAbs b.natAbs):a ∣ n:=by
 have:=QS.mpr h;rw [QZ] at this;exact QS.mp (Nat.Coprime.dvd_of_dvd_mul_left c this)
theorem pC {c c':Zr} {ns ns':Zi} {s:Rat} (h:yS c ns) (h':yS c' ns') (s0:s≠0) (two:∀ p∈c,∃ i j,p.1=[i,j]) (two':∀ p∈c',∃ i j,p.1=[i,j])
  (hc:∀ p∈c,(p.1,s*p.2)∈c') (hc':∀ p∈c',∃ q,(p.1,q)∈c/\p.2=s*q) (nd:(c.map (·.1)).Nodup) (nd':(c'.map (·.1)).Nodup):∀ p∈ns',p∈ns:=by
 obtain⟨t,t0,f1,f2⟩:=h.sc;obtain⟨t',t0',f1',f2'⟩:=h'.sc;have ndn:(ns.map (·.1)).Nodup:=by rw [h.keys]; exact nd
 have ndn':(ns'.map (·.1)).Nodup:=by rw [h'.keys]; exact nd'
 have g1:∀ p∈ns',∃ n:Int,(p.1,n)∈ns/\(p.2:Rat)=(t'*s / t)*n:=λp hp=>by
  obtain⟨q',m1,e1⟩:=f1' p hp;obtain⟨q,m2,e2⟩:=hc' _ m1;obtain⟨n,m3,e3⟩:=f2 _ m2;refine⟨n,m3,?_⟩;simp only at e2 e3
  rw [e1,e2,e3];grind
 have g2:∀ p∈ns,∃ n:Int,(p.1,n)∈ns'/\(n:Rat)=(t'*s / t)*p.2:=λp hp=>by
  obtain⟨q,m1,e1⟩:=f1 p hp;obtain⟨n,m3,e3⟩:=f2' _ (hc _ m1);refine⟨n,m3,?_⟩;simp only at e3;rw [e1,e3];grind
 generalize t'*s / t=r at g1 g2
 have d1:(r.den:Int) ∣ 1:=h.co _ λp hp=>by
  obtain⟨n,_,e⟩:=g2 p hp;have z:=ji e;exact A6 (b:=r.num) ⟨n,z.symm⟩ (Nat.Coprime.symm r.reduced)
 have d2:r.num ∣ 1:=h'.co _ λp hp=>by
  obtain⟨n,_,e⟩:=g1 p hp;have z:=ji e;exact A6 (b:=(r.den:Int)) ⟨n,z⟩ r.reduced
 have den1:r.den=1:=by
  have:=Int.eq_one_of_dvd_one (by omega) d1
  omega
 have num1:r.num=1\/r.num=-1:=by
  have:=QS.mpr d2;have h1:r.num.natAbs=1:=Nat.dvd_one.mp (by simpa using this)
  omega
 have rpos:r.num=1:=by
  rcases num1 with e | e
  ·exact e
  ·exfalso
   obtain⟨p,hp,mx,pos⟩:=h.sg;obtain⟨p',hp',mx',pos'⟩:=h'.sg;obtain⟨n,m1,e1⟩:=g2 p hp;obtain⟨n',m2,e2⟩:=g1 p' hp';obtain⟨q,w1,_⟩:=f1 p hp;obtain⟨q',w1',_⟩:=f1' p' hp';have ek:p.1=p'.1:=Kf (two _ w1) (two' _ w1') (mx' (p.1,n) m1) (mx (p'.1,n') m2);have ep:n'=p.2:=yN ndn (k:=p.1) (by rw [ek]; exact m2) hp
   have z:=ji e2;rw [den1,e,ep] at z;omega
 intro p hp;obtain⟨n,m1,e1⟩:=g1 p hp;have z:=ji e1;rw [den1,rpos] at z;have:p.2=n:=by omega
 rw [<- this] at m1;exact m1
def cJ (B:Int) (q:Rat):Int:=q.num*B.fdiv (q.den:Int)
theorem kK {B:Int} {q:Rat} (h:(q.den:Int) ∣ B):((cJ B q:Int):Rat)=B*q:=by
 obtain⟨c,rfl⟩:=h;have d0:(q.den:Int)≠0:=by have:=q.den_nz; omega
 have z:=bv q;unfold cJ;rw [Int.mul_fdiv_cancel_left c d0,P2,P2,<- z];grind
theorem J1 {c:Zr} {B g:Int} (B0:B≠0) (hd:∀ p∈c,(p.2.den:Int) ∣ B) (g0:g≠0) (gd:∀ p∈c,g ∣ cJ B p.2) (gm:∀ d:Int,(∀ p∈c,d ∣ cJ B p.2)->d ∣ g)
  (hs:∃ p∈c,(∀ q∈c,ua q.1 p.1=false)/\0 < (cJ B p.2).fdiv g):yS c (c.map λp=>(p.1,(cJ B p.2).fdiv g)):=by
 have ex:∀ p∈c,g*(cJ B p.2).fdiv g=cJ B p.2:=λp hp=>by
  obtain⟨x,e⟩:=gd p hp;rw [e,Int.mul_fdiv_cancel_left x g0]
 have gr:(g:Rat)≠0:=by
  intro z;exact g0 (QL.mp (by rw [z]; rfl))
 have tr:∀ p∈c,(((cJ B p.2).fdiv g:Int):Rat)=((B:Rat) / g)*p.2:=λp hp=>by
  have e:=congrArg (λz:Int=>(z:Rat)) (ex p hp)
  simp only [P2] at e;rw [kK (hd p hp)] at e;grind
 refine⟨by rw [QH]; rfl,⟨(B:Rat) / g,?_,λp hp=>?_,λp hp=>⟨_,P5.mpr ⟨p,hp,rfl⟩,tr p hp⟩⟩,λd h=>?_,?_⟩
 ·intro z;have:(B:Rat)=0:=by grind
  exact B0 (QL.mp (by rw [this]; rfl))
 ·obtain⟨x,hx,rfl⟩:=P5.mp hp;exact⟨x.2,hx,tr x hx⟩
 ·have z:d*g ∣ g:=gm _ λp hp=>by
   obtain⟨x,e⟩:=h _ (P5.mpr ⟨p,hp,rfl⟩);simp only at e;refine⟨x,?_⟩;have:=ex p hp;rw [<- this,e];grind
  obtain⟨y,e⟩:=z;refine⟨y,?_⟩
  have : g * (d * y) = g * 1 := by rw [Int.mul_one]; conv => rhs; rw [e]
                                   grind
  exact(Int.eq_of_mul_eq_mul_left g0 this).symm
 ·obtain⟨p,hp,mx,pos⟩:=hs;refine⟨_,P5.mpr ⟨p,hp,rfl⟩,λq hq=>?_,pos⟩
  obtain⟨x,hx,rfl⟩:=P5.mp hq;exact mx x hx
def iw {α:Type} (f:α->D) (l:List (List Int×α)):List (List Int×D):=l.map λp=>(p.1,f p.2)
abbrev dG:=iw fr
abbrev rK:=iw D.int
abbrev B8:=iw (λn:Int=>D.tup [.int n,.int 1])
abbrev dS (l:List (List Int×D)) (ep:Nat):DO:=.gen (.dT l ep)
section
variable {α:Type} {f:α->D}
theorem pT:∀ {l:List (List Int×α)} {k:List Int},k∉l.map (·.1)->fy (iw f l) k=none
 | [],_,_=>rfl
 | p::l,k,h=>by
  rw [Qe,P9,not_or] at h;have e:fy (iw f (p::l)) k=fy (iw f l) k:=by simp [fy,iw,Qg,Ne.symm h.1]
  rw [e];exact pT h.2
theorem p_:∀ {l:List (List Int×α)} {k:List Int} {x:α},(l.map (·.1)).Nodup->(k,x)∈l->fy (iw f l) k=some (f x)
 | [],_,_,_,h=>nomatch h
 | p::l,k,x,nd,h=>by
  rw [Qe,QK] at nd;rcases P9.mp h with e | m
  ·subst e;simp [fy,iw]
  ·have ne:p.1≠k:=λz=>nd.1 (P5.mpr ⟨_,m,z.symm⟩)
   have e:fy (iw f (p::l)) k=fy (iw f l) k:=by simp [fy,iw,Qg,ne]
   rw [e];exact p_ nd.2 m
theorem g9 {l:List (List Int×α)} {k:List Int} {x:α} (h:k∉l.map (·.1)):ml (iw f l) k (f x)=iw f (l++[(k,x)]):=by
 unfold ml;rw [pT h,if_neg (by simp)]
 simp [iw]
theorem eF {l:List (List Int×α)}:(iw f l).length=l.length:=P6 _
theorem mH {l r:List (List Int×α)} {p:List Int×α} (h:((l++p::r).map (·.1)).Nodup):p.1∉l.map (·.1):=by
 rw [List.map_append,Qe,List.nodup_append] at h;exact λm=>h.2.2 _ m _ Qa rfl
end
theorem lim {n:Nat} (h:n<=100):n < sizeLine:=Qc (by omega:n < 300) (Qi (rfl:Nat.ble 300 sizeLine=true))
theorem dj {l:Zr} {g:List Int×Rat->Rr} (h:(l.map (·.1)).Nodup):((l.filter g).map (·.1)).Nodup:=List.Sublist.nodup (List.Sublist.map _ List.filter_sublist) h
theorem w6 {l:Zr} {g:List Int×Rat->Rr} {k:List Int} (h:k∉l.map (·.1)):k∉(l.filter g).map (·.1):=λm=>h (by
 obtain⟨x,hx,e⟩:=P5.mp m;exact P5.mpr ⟨x,(List.mem_filter.mp hx).1,e⟩)
abbrev nz (l:Zr):Zr:=l.filter λp=>decide (p.2≠0)
def b9:ce:=λds S k=>∃ (a:Rh) (c:Zr) (ep:Nat),ds=[.ref a]/\S a=some (dS (dG c) ep)/\(c.map (·.1)).Nodup/\c.length<=100/\∀ S' p ep',cn S S'->S p=none->S' p=some (dS (dG (nz c)) ep')->k (.ref p) S'
theorem dL:ar ["sums","told","key","fraction"] ["sums"] (aj fZ):=dP
theorem nI (Fn:FN K "without_noughts" fZ f fd):
  aL P w K mg base cN 1 f fd ["sums"] (cX K b9):=by
 refine Fn.okJ dL (λds S k h=>?_) (λcdv A outer s H E hr=>⟨_,(af (ah (i:=1) dL.nd kc) (af (dE PassesOwn.never rfl (fm (ai 0)) (eC (n:=2) rfl (aH (aB (i:=2) dL.nd) (aH (aB (i:=3) dL.nd) cW))) (ag (aK (aG JH (aJ 3) ak (aM _)) (ag (dU (ai 3) (jj hr (ai 1) (ai 2)))) aO))) (ag (am (ai 1))))),λds S k h=>?_⟩)
 ·obtain⟨_,_,_,rfl,_⟩:=h
  rfl
 ·obtain⟨a,c,ep,rfl,ha,nd,hl,w⟩:=h;refine λp hp e0=>⟨_,_,bO hp ha,?_⟩
  refine df (λr L S'=>∃ (don av:Zr) (e1:Nat) (l2 l3:Ri D),c=don++av/\r=fB (dG av)/\L=[some (.ref a),some (.ref p),l2,l3]/\cn S S'/\S' a=some (dS (dG c) ep)/\S' p=some (dS (dG (nz don)) e1)) (λr L S' z9=>by obtain⟨_,_,_,_,_,_,_,_,_,h,_⟩:=z9; exact h) ?_ ?_ _ _ _ ⟨[],c,e0,none,none,rfl,rfl,rfl,cn.new hp,bO hp ha,aq⟩
  ·rintro d r L S1 N1 ⟨don,av,e1,l2,l3,ec,er,rfl,x1,a1,p1⟩ hN;cases av with
   | nil=>cases er
   | cons q av=>
    cases er;have nq:=mH (p:=q) (ec▸nd);have lz:(nz don).length<=don.length:=List.length_filter_le _ _;have hd:don.length < 100:=by have:=congrArg List.length ec; rw [Ql,Qf] at this; omega
    have nap:a≠p:=jR ha hp;refine⟨([gH q.1,fr q.2],none),rfl,rfl,rfl,FY (λh0=>⟨_,_,_,p1,rfl,by rw [eF]; exact lim (by omega),λe2=>hN _ _ ⟨don++[q],av,e2,_,_,by rw [ec]; simp,rfl,rfl,x1.put hp,by rw [bV nap]; exact a1,?_⟩⟩) (λh0=>hN _ _ ⟨don++[q],av,e1,_,_,by rw [ec]; simp,rfl,rfl,x1,a1,?_⟩)⟩
    ·have q0:q.2≠0:=λz=>h0 (by rw [z]; rfl)
     rw [aq,g9 (w6 nq)];simp [nz,List.filter_append,q0]
    ·have q0:q.2=0:=Rb.mp h0;rw [p1];simp [nz,List.filter_append,q0]
  ·rintro L S1 ⟨don,av,e1,l2,l3,ec,er,rfl,x1,a1,p1⟩;cases av with
   | cons q av=>cases er
   | nil=>
    rw [Qn] at ec;subst ec;exact w S1 p e1 x1 hp p1
theorem GV {a b:Int} (ha:0 < a) (hb:0 < b):(a.fdiv ((Int.gcd a b:Nat):Int))*b=((Int.lcm a b:Nat):Int):=by
 have h1:((Int.gcd a b:Nat):Int) ∣ a:=Int.gcd_dvd_left a b;have g0:((Int.gcd a b:Nat):Int)≠0:=by
  have:=Int.gcd_pos_of_ne_zero_left (a:=a) b (by omega)
  omega
 have z:((Int.gcd a b:Nat):Int)*((Int.lcm a b:Nat):Int)=a*b:=by
  have e2:=congrArg (λn:Nat=>(n:Int)) (Int.gcd_mul_lcm a b)
  simp only [Int.natCast_mul] at e2;rw [Int.natAbs_of_nonneg (by omega),Int.natAbs_of_nonneg (by omega)] at e2
  exact e2
 generalize ((Int.gcd a b:Nat):Int)=g at h1 g0 z
 generalize ((Int.lcm a b:Nat):Int)=l at z;obtain⟨x,rfl⟩:=h1;rw [Int.mul_fdiv_cancel_left x g0];refine Int.eq_of_mul_eq_mul_left g0 ?_;rw [z,Int.mul_assoc]
def gj:ce:=λds S k=>∃ a b:Int,ds=[.int a,.int b]/\0 < a/\0 < b/\Bt 4000 a/\Bt 4000 b/\k (.int ((Int.lcm a b:Nat):Int)) S
theorem nV:ar ["one","other"] ["one","other"] (aj fN):=dP
theorem nO (Fn:FN K "common_multiple" fN f fd) (bg:aN P w K mg base "common_divisor" 1 cy):
  aL P w K mg base cN 2 f fd ["one","other"] (cX K gj):=by
 refine Fn.okJ nV (λds S k h=>?_) (λcdv A outer s H E hr=>⟨_,(ag (am (az bT (az hG (ai 0) (dq bg hr (aw 0 (aw 1 ac)))) (ai 1)))),λds S k h=>?_⟩)
 ·obtain⟨_,_,rfl,_⟩:=h
  rfl
 ·obtain⟨a,b,rfl,ha,hb,ba,bb,w⟩:=h;rw [<- GV ha hb] at w;have g0:((Int.gcd a b:Nat):Int)≠0:=by
   have:=Int.gcd_pos_of_ne_zero_left (a:=a) b (by omega)
   omega
  exact⟨zr g0 (y8 (t:=a) (by omega) bb),kZ (ba.le (HM.aS _ _)) bb,w⟩
def oj:Int->List Rat->Int
 | m,[]=>m
 | m,q::qs=>oj ((Int.lcm m (q.den:Int):Nat):Int) qs
theorem tO {a b:Int} (ha:0 < a) (hb:0 < b):0 < ((Int.lcm a b:Nat):Int):=by
 have:=Int.lcm_pos (m:=a) (n:=b) (by omega) (by omega)
 omega
theorem cj (q:Rat):0 < (q.den:Int):=by have:=q.den_nz; omega
theorem pA:∀ {qs:List Rat} {m:Int},m ∣ oj m qs/\∀ q∈qs,(q.den:Int) ∣ oj m qs
 | [],m=>⟨Int.dvd_refl m,λq h=>nomatch h⟩
 | q::qs,m=>by
  obtain⟨a,b⟩:=pA (qs:=qs) (m:=((Int.lcm m (q.den:Int):Nat):Int));refine⟨Int.dvd_trans (Int.dvd_lcm_left ..) a,λp hp=>?_⟩
  rcases P9.mp hp with e | m'
  ·rw [e];exact Int.dvd_trans (Int.dvd_lcm_right ..) a
  ·exact b p m'
theorem kP {n:Nat} {g x:Int} (h:g ∣ x) (x0:x≠0) (b:Bt n x):Bt n g:=b.le (Nat.le_of_dvd (by omega) (QS.mpr h))
theorem rX {B:Int}:∀ {qs:List Rat} {m:Int},m ∣ B->(∀ q∈qs,(q.den:Int) ∣ B)->oj m qs ∣ B
 | [],_,h,_=>h
 | q::qs,m,h,hq=>rX (qs:=qs) (Int.coe_lcm_dvd h (hq q Qa)) λp hp=>hq p (Qb _ hp)
theorem po:∀ {qs:List Rat} {m:Int},0 < m->0 < oj m qs
 | [],_,h=>h
 | q::qs,m,h=>po (qs:=qs) (tO h (cj q))
theorem KF {q:Rat} {B t:Int} (b0:B≠0) (e:(B:Rat)*q=t):(q.den:Int) ∣ B:=by
 have r0:(B:Rat)≠0:=λz=>b0 (QL.mp (by rw [z]; rfl))
 have:q=Rat.divInt t B:=by
  rw [QB,<- e];grind
 rw [this];rw [Rat.den_divInt,if_neg b0,Int.ofNat_dvd_left];exact Nat.div_dvd_of_dvd (Nat.gcd_dvd_left _ _)
def fv:ce:=λds S k=>∃ (a:Rh) (qs:List Rat) (B:Int),ds=[.ref a]/\S a=some (.lst (qs.map fr))/\0 < B/\Bt 3000 B/\(∀ q∈qs,(q.den:Int) ∣ B)/\k (.int (oj 1 qs)) S
theorem eS:ar ["fractions","bottom","fraction"] ["fractions"] (aj iq):=dP
theorem qi (Fn:FN K "common_bottom" iq f fd) (b_:aN P w K mg base "common_multiple" 2 gj):
  aL P w K mg base cN 3 f fd ["fractions"] (cX K fv):=by
 refine Fn.okJ eS (λds S k h=>?_) (λcdv A outer s H E hr=>⟨_,(af (ah (i:=1) eS.nd ak) (af (iN PassesOwn.never rfl (ai 0) (aB (i:=2) eS.nd) (ag (ah (i:=1) eS.nd (dq b_ hr (aw 1 (aa (aJ 2) ac)))))) (ag (am (ai 1))))),λds S k h=>?_⟩)
 ·obtain⟨_,_,_,rfl,_⟩:=h
  rfl
 ·obtain⟨a,qs,B,rfl,ha,B0,bB,hq,w⟩:=h;refine⟨(qs.map fr,some a),by simp only [bh,ha],?_⟩
  refine df (λr L S'=>S'=S/\∃ (rs:List Rat) (m:Int) (l2:Ri D),L=[some (.ref a),some (.int m),l2]/\r=rs.map fr/\oj 1 qs=oj m rs/\0 < m/\m ∣ B/\∀ q∈rs,(q.den:Int) ∣ B) (λr L S' z9=>by obtain⟨e,_⟩:=z9; rw [e]; exact ha) ?_ ?_ _ _ _ ⟨rfl,qs,1,none,rfl,rfl,rfl,by decide,Int.one_dvd B,hq⟩
  ·rintro d r L S1 N1 ⟨rfl,rs,m,l2,rfl,er,hm,m0,bm,hr⟩ hN;cases rs with
   | nil=>cases er
   | cons q rs=>
    cases er;have hq:=hr q Qa;exact⟨m,(q.den:Int),rfl,m0,cj q,(kP bm (by omega) bB).mono (by decide),(kP hq (by omega) bB).mono (by decide),hN _ _ ⟨rfl,rs,_,_,rfl,rfl,hm,tO m0 (cj q),Int.coe_lcm_dvd bm hq,λp hp=>hr p (Qb _ hp)⟩⟩
  ·rintro L S1 ⟨rfl,rs,m,l2,rfl,er,hm,_⟩;cases rs with
   | nil=>rw [hm] at w; exact w
   | cons _ _=>cases er
def Dn (B:Int) (T:Nat) (c:Zr):Prop:=∀ p∈c,∃ t:Int,Bt T t/\(B:Rat)*p.2=t
theorem Dn.dv {B:Int} {T:Nat} {c:Zr} (h:Dn B T c) (b0:B≠0):∀ q∈c.map (·.2),(q.den:Int) ∣ B:=λq hq=>by
 obtain⟨p,hp,rfl⟩:=P5.mp hq;obtain⟨t,_,e⟩:=h p hp;exact KF b0 e
theorem Dn.sz {B:Int} {T n:Nat} {c:Zr} (h:Dn B T c) (B0:0 < B) (bB:Bt n B) (hT:T<=n):∀ p∈c,Sz n p.2:=λp hp=>by
 obtain⟨t,bt,e⟩:=h p hp;have r0:(B:Rat)≠0:=λz=>by
  have:B=0:=QL.mp (by rw [z]; rfl)
  omega
 have:p.2=Rat.divInt t B:=by
  rw [QB,<- e];grind
 rw [this];exact Sz.divInt (bt.mono hT) bB (by omega)
def jk:ce:=λds S k=>∃ (a:Rh) (c:Zr) (ep:Nat) (B:Int),ds=[.ref a,.int B]/\S a=some (dS (dG c) ep)/\(c.map (·.1)).Nodup/\c.length<=100/\(∀ p∈c,Sz 4000 p.2)/\Bt 4000 B/\∀ S' p ep',cn S S'->S' p=some (dS (rK (c.map λx=>(x.1,cJ B x.2))) ep')->k (.ref p) S'
theorem iC:ar ["curve","bottom","tops","key","fraction"] ["curve","bottom"] (aj mw):=dP
theorem wQ (Fn:FN K "tops_over" mw f fd):
  aL P w K mg base cN 1 f fd ["curve","bottom"] (cX K jk):=by
 refine Fn.okJ iC (λds S k h=>?_) (λcdv A outer s H E hr=>⟨_,(af (ah (i:=2) iC.nd kc) (af (dE PassesOwn.never rfl (fm (ai 0)) (eC (n:=2) rfl (aH (aB (i:=3) iC.nd) (aH (aB (i:=4) iC.nd) cW))) (ag (dU (az bT (aJ 4) (az hG (ai 1) (aJ 4))) (jj hr (ai 2) (ai 3))))) (ag (am (ai 2))))),λds S k h=>?_⟩)
 ·obtain⟨_,_,_,_,rfl,_⟩:=h
  rfl
 ·obtain⟨a,c,ep,B,rfl,ha,nd,hl,hz,bB,w⟩:=h;refine λp hp e0=>⟨_,_,bO hp ha,?_⟩
  have nap:a≠p:=jR ha hp;refine df (λr L S'=>∃ (don av:Zr) (e1:Nat) (l2 l3:Ri D),c=don++av/\r=fB (dG av)/\L=[some (.ref a),some (.int B),some (.ref p),l2,l3]/\cn S S'/\S' a=some (dS (dG c) ep)/\S' p=some (dS (rK (don.map λx=>(x.1,cJ B x.2))) e1)) (λr L S' z9=>by obtain⟨_,_,_,_,_,_,_,_,_,h,_⟩:=z9; exact h) ?_ ?_ _ _ _ ⟨[],c,e0,none,none,rfl,rfl,rfl,cn.new hp,bO hp ha,aq⟩
  ·rintro d r L S1 N1 ⟨don,av,e1,l2,l3,ec,er,rfl,x1,a1,p1⟩ hN;cases av with
   | nil=>cases er
   | cons q av=>
    cases er;have nq:=mH (p:=q) (ec▸nd);have hd:don.length < 100:=by have:=congrArg List.length ec; rw [Ql,Qf] at this; omega
    have sq:Sz 4000 q.2:=hz q (by rw [ec]; simp)
    have nk:q.1∉(don.map λx=>(x.1,cJ B x.2)).map (·.1):=by rw [QH]; exact nq
    refine⟨([gH q.1,fr q.2],none),rfl,rfl,rfl,zr (by have:=cj q.2; omega) sq.den,kZ sq.num (bB.le (HM.aS _ _)),_,_,_,p1,rfl,by rw [eF,P6]; exact lim (by omega),λe2=>hN _ _ ⟨don++[q],av,e2,_,_,by rw [ec]; simp,rfl,rfl,x1.put hp,by rw [bV nap]; exact a1,?_⟩⟩
    refine aq.trans ?_;have z:=g9 (f:=D.int) (x:=cJ B q.2) nk
    show some (DO.gen (Iz.dT (ml _ q.1 (D.int (cJ B q.2))) e2))=_
    rw [z];simp
  ·rintro L S1 ⟨don,av,e1,l2,l3,ec,er,rfl,x1,a1,p1⟩;cases av with
   | cons q av=>cases er
   | nil=>
    rw [Qn] at ec;subst ec;exact w S1 p e1 x1 p1
structure Gp (l:Zi) (g:Int):Prop where
 dv:∀ p∈l,g ∣ p.2
 mx:∀ d:Int,(∀ p∈l,d ∣ p.2)->d ∣ g
 nn:0<=g
theorem Gp.nil:Gp [] 0:=⟨(by simp),(λd _=>Int.dvd_zero d),Int.le_refl 0⟩
theorem Gp.snoc {l:Zi} {g:Int} {p:List Int×Int} (h:Gp l g):Gp (l++[p]) ((Int.gcd g p.2:Nat):Int):=by
 refine⟨λq hq=>?_,λd hd=>Int.dvd_coe_gcd (h.mx d λq hq=>hd q (List.mem_append_left _ hq)) (hd p (by simp)),by omega⟩
 rcases List.mem_append.mp hq with m | m
 ·exact Int.dvd_trans (Int.gcd_dvd_left ..) (h.dv q m)
 ·have e:q=p:=by simpa using m
  rw [e];exact Int.gcd_dvd_right ..
theorem Dv {g x:Int} (h:g ∣ x) (h0:x≠0) (hs:(x < 0->g < 0)/\(0 < x->0 < g)):0 < x.fdiv g:=by
 obtain⟨y,rfl⟩:=h;have g0:g≠0:=λz=>h0 (by rw [z,Int.zero_mul])
 rw [Int.mul_fdiv_cancel_left y g0];rcases Int.lt_trichotomy (g*y) 0 with c | c | c
 ·have:=hs.1 c;exact Int.pos_of_mul_neg_left (Int.mul_comm g y▸c) (by omega)
 ·exact absurd c h0
 ·have:=hs.2 c;exact Int.pos_of_mul_pos_left (Int.mul_comm g y▸c) (by omega)
def jW:ce:=λds S k=>∃ (a:Rh) (ts:Zi) (ep:Nat),ds=[.ref a]/\S a=some (dS (rK ts) ep)/\(ts.map (·.1)).Nodup/\ts.length<=100/\ts≠[]/\(∀ p∈ts,∃ i j,p.1=[i,j])/\(∀ p∈ts,p.2≠0/\Bt 8000 p.2)/\
 ∀ S' p ep' g,cn S S'->g≠0->(∀ p∈ts,g ∣ p.2)->(∀ d:Int,(∀ p∈ts,d ∣ p.2)->d ∣ g)->(∃ m∈ts,(∀ q∈ts,ua q.1 m.1=false)/\0 < m.2.fdiv g)->S' p=some (dS (B8 (ts.map λx=>(x.1,x.2.fdiv g))) ep')->k (.ref p) S'
theorem bj:ar ["tops","shared","top","told","key"] ["tops"] (aj gK):=dP
theorem oq (Fn:FN K "normal_of_tops" gK f fd) (bg:aN P w K mg base "common_divisor" 1 cy) (lg:mg "max"=none):
  aL P w K mg base cN 2 f fd ["tops"] (cX K jW):=by
 refine Fn.okJ bj (λds S k h=>?_) (λcdv A outer s H E hr=>⟨_,(af (ah (i:=1) bj.nd ak) (af (dE PassesOwn.never rfl (Ih (ai 0)) (aB (i:=2) bj.nd) (ag (ah (i:=1) bj.nd (dq bg hr (aw 1 (aw 2 ac)))))) (af (aK (aG zn (Ht hr (ai 0) (cm (Jc hr) rfl lg wO (aw 0 ac)) Zf) ak (aM _)) (ag (ah (i:=1) bj.nd (Eg DY (ai 1)))) aO) (af (ah (i:=3) bj.nd kc) (af (dE PassesOwn.never rfl (fm (ai 0)) (eC (n:=2) rfl (aH (aB (i:=4) bj.nd) (aH (aB (i:=2) bj.nd) cW))) (ag (dU (au (aa (az hG (ai 2) (ai 1)) (aa ak ac))) (jj hr (ai 3) (ai 4))))) (ag (am (ai 3)))))))),λds S k h=>?_⟩)
 ·obtain⟨_,_,_,rfl,_⟩:=h
  rfl
 ·obtain⟨a,ts,ep,rfl,ha,nd,hl,ne,two,hz,w⟩:=h;refine⟨_,_,ha,?_⟩;refine df (λr L S'=>S'=S/\∃ (don av:Zi) (g:Int) (l2:Ri D),ts=don++av/\r=av.map (λp=>D.int p.2)/\L=[some (.ref a),some (.int g),l2,none,none]/\Gp don g) (λr L S' z9=>by obtain⟨e,_⟩:=z9; rw [e]; exact ha) ?_ ?_ _ _ _ ⟨rfl,[],ts,0,none,rfl,by show List.map _ (List.map _ ts)=_; rw [QH]; rfl,rfl,Gp.nil⟩
  ·rintro d r L S1 N1 ⟨rfl,don,av,g,l2,ec,er,rfl,hg⟩ hN;cases av with
   | nil=>cases er
   | cons q av=>
    cases er;exact hN _ _ ⟨rfl,don++[q],av,_,_,by rw [ec]; simp,rfl,rfl,hg.snoc⟩
  ·rintro L S1 ⟨rfl,don,av,g,l2,ec,er,rfl,hg⟩;cases av with
   | cons q av=>cases er
   | nil=>
    rw [Qn] at ec;subst ec;have mk:∀ m∈rK ts,∃ x∈ts,m=(x.1,D.int x.2):=λm hm=>by
     obtain⟨x,hx,rfl⟩:=P5.mp hm;exact⟨x,hx,rfl⟩
    have av:∀ g':Int,g'≠0->(∀ p∈ts,g' ∣ p.2)->(∀ d:Int,(∀ p∈ts,d ∣ p.2)->d ∣ g')->(∃ m∈ts,(∀ q∈ts,ua q.1 m.1=false)/\0 < m.2.fdiv g')->
      (ES (L9 3 IZ) (ES (IU (Gw (qj 0) fB) (EZ 2 (zi (tE 4) (zi (tE 2) Ij))) (Nz (LQ (Aw (CY LL (qj 2) (qj 1)) (Aw (dC (D.int 1)) M8))) (FZ (qj 3) (qj 4)))) (LD (qj 3)))) {nx:=λ_ S'=>k D.non S',rt:=k} [some (D.ref a),some (D.int g'),l2,none,none] S1:=by
     intro g' g0 gd gm gs;have gb:Bt 8000 g':=by
      obtain⟨m,hm,_⟩:=gs;exact kP (gd m hm) (hz m hm).1 (hz m hm).2
     refine λp hp e0=>⟨_,_,bO hp ha,?_⟩
     have nap:a≠p:=jR ha hp;refine df (λr L S'=>∃ (don av:Zi) (e1:Nat) (l2 l3:Ri D),ts=don++av/\r=fB (rK av)/\L=[some (.ref a),some (.int g'),l2,some (.ref p),l3]/\cn S1 S'/\S' a=some (dS (rK ts) ep)/\S' p=some (dS (B8 (don.map λx=>(x.1,x.2.fdiv g'))) e1)) (λr L S' z9=>by obtain⟨_,_,_,_,_,_,_,_,_,h,_⟩:=z9; exact h) ?_ ?_ _ _ _ ⟨[],ts,e0,l2,none,rfl,rfl,rfl,cn.new hp,bO hp ha,aq⟩
     ·rintro d r L S2 N1 ⟨don,av,e1,l2,l3,ec,er,rfl,x1,a1,p1⟩ hN;cases av with
      | nil=>cases er
      | cons q av=>
       cases er;have nq:=mH (p:=q) (ec▸nd);have hd:don.length < 100:=by have:=congrArg List.length ec; rw [Ql,Qf] at this; omega
       have nk:q.1∉(don.map λx=>(x.1,x.2.fdiv g')).map (·.1):=by rw [QH]; exact nq
       refine⟨([gH q.1,.int q.2],none),rfl,rfl,rfl,zr g0 gb,few,_,_,_,p1,rfl,by rw [eF,P6]; exact lim (by omega),λe2=>hN _ _ ⟨don++[q],av,e2,_,_,by rw [ec]; simp,rfl,rfl,x1.put hp,by rw [bV nap]; exact a1,?_⟩⟩
       refine aq.trans ?_;have z:=g9 (f:=λn:Int=>D.tup [.int n,.int 1]) (x:=q.2.fdiv g') nk
       show some (DO.gen (Iz.dT (ml _ q.1 (D.tup [.int (q.2.fdiv g'),.int 1])) e2))=_
       rw [z];simp
     ·rintro L S2 ⟨don,av,e1,l2,l3,ec,er,rfl,x1,a1,p1⟩;cases av with
      | cons q av=>cases er
      | nil=>
       rw [Qn] at ec;subst ec;exact w S2 p e1 g' x1 g0 gd gm gs p1
    refine⟨_,_,ha,λz=>ne (List.map_eq_nil_iff.mp z),λm hm=>?_,λm hm mx=>?_⟩
    ·obtain⟨x,hx,rfl⟩:=mk m hm;exact two x hx
    ·obtain⟨x,hx,rfl⟩:=mk m hm;have g0:g≠0:=λz=>by
      have:=hg.dv x hx;rw [z] at this;exact(hz x hx).1 (Int.zero_dvd.mp this)
     have mx':∀ q∈ts,ua q.1 x.1=false:=λq hq=>mx (q.1,.int q.2) (P5.mpr ⟨q,hq,rfl⟩)
     have gn:=hg.nn;refine⟨_,_,x.1,_,ha,rfl,p_ nd hx,bq (λneg=>av (-g) (by omega) (λp hp=>Int.neg_dvd.mpr (hg.dv p hp)) (λd hd=>Int.dvd_neg.mpr (hg.mx d hd)) ⟨x,hx,mx',Dv (Int.neg_dvd.mpr (hg.dv x hx)) (hz x hx).1 ⟨λ_=>by omega,λz=>by omega⟩⟩) (λpos=>av g g0 hg.dv hg.mx ⟨x,hx,mx',Dv (hg.dv x hx) (hz x hx).1 ⟨λz=>absurd z pos,λ_=>by omega⟩⟩)⟩
def tS:ce:=λds S k=>∃ (a:Rh) (c:Zr) (ep:Nat) (B0:Int),ds=[.ref a]/\S a=some (dS (dG c) ep)/\(c.map (·.1)).Nodup/\c.length<=100/\c≠[]/\(∀ p∈c,∃ i j,p.1=[i,j])/\(∀ p∈c,p.2≠0)/\0 < B0/\Bt 600 B0/\Dn B0 600 c/\∀ S' p ep' ns,cn S S'->yS c ns->S' p=some (dS (B8 ns) ep')->k (.ref p) S'
theorem BP:ar ["curve"] ["curve"] (aj sL):=dP
theorem By (Fn:FN K "normal" sL f fd) (gU:aN P w K mg base "normal_of_tops" 2 jW) (cw:aN P w K mg base "tops_over" 1 jk) (a_:aN P w K mg base "common_bottom" 3 fv) (fF:mg "len"=none) (jA:mg "list"=none):
  aL P w K mg base cN 4 f fd ["curve"] (cX K tS):=by
 refine Fn.okJ BP (λds S k h=>?_) (λcdv A outer s H E hr=>⟨_,(af (aK (aG jV (cm EE rfl fF lQ (aw 0 ac)) ak (aM _)) (ag eJ) aO) (ag (am (dq gU hr (aa (dq cw hr (aw 0 (aa (dq a_ hr (aa (pB rfl rfl jA (ai 0)) ac)) ac))) ac))))),λds S k h=>?_⟩)
 ·obtain⟨_,_,_,_,rfl,_⟩:=h
  rfl
 ·obtain⟨a,c,ep,B1,rfl,ha,nd,hl,ne,two,n0,B1p,bB1,hD,w⟩:=h;have hz:∀ p∈c,p.2≠0/\Sz 600 p.2:=λp hp=>⟨n0 p hp,hD.sz B1p bB1 (by decide) p hp⟩
  have l0:((dG c).length:Int)≠0:=by rw [eF]; exact λz=>ne (Rc.mp (by omega))
  refine⟨_,_,ha,bq (λz=>absurd z l0) (λ_=>?_)⟩
  refine⟨_,_,ha,λq hq=>?_⟩
  have x1:cn S (put S q (.lst ((iw fr c).map (·.2)))):=cn.new hq;have e1:(iw fr c).map (·.2)=(c.map (·.2)).map fr:=by unfold iw; rw [QH,QH]; rfl
  have y1:put S q (.lst ((iw fr c).map (·.2))) q=some (.lst ((c.map (·.2)).map fr)):=by rw [aq,e1]
  generalize put S q (.lst ((iw fr c).map (·.2)))=S1 at x1 y1
  have B0:0 < oj 1 (c.map (·.2)):=po (by decide)
  have dvd1:oj 1 (c.map (·.2)) ∣ B1:=rX (Int.one_dvd _) (hD.dv (by omega))
  have dv:=(pA (qs:=c.map (·.2)) (m:=1)).2;refine⟨q,_,B1,rfl,y1,B1p,bB1.mono (by decide),hD.dv (by omega),?_⟩
  have bB':Bt 600 (oj 1 (c.map (·.2))):=kP dvd1 (by omega) bB1
  clear dvd1;generalize oj 1 (c.map (·.2))=B at B0 bB' dv
  have dv':∀ p∈c,(p.2.den:Int) ∣ B:=λp hp=>dv p.2 (P5.mpr ⟨p,hp,rfl⟩)
  have top0:∀ p∈c,cJ B p.2≠0:=λp hp z=>by
   have e:=kK (dv' p hp);rw [z] at e;have b0:(B:Rat)≠0:=λy=>by
    have:B=0:=QL.mp (by rw [y]; rfl)
    omega
   have p0:=(hz p hp).1;have e2:(B:Rat)*p.2=0:=by rw [<- e]; rfl
   rcases Rat.mul_eq_zero.mp e2 with y | y
   ·exact b0 y
   ·exact p0 y
  refine⟨a,c,ep,B,rfl,x1 _ _ ha,nd,by omega,λp hp=>(hz p hp).2.mono (by decide),bB'.mono (by decide),λS2 p2 e2 x2 h2=>?_⟩
  have tk:(c.map λx=>(x.1,cJ B x.2)).map (·.1)=c.map (·.1):=by rw [QH]; rfl
  refine⟨p2,_,e2,rfl,h2,by rw [tk]; exact nd,by rw [P6]; omega,λz=>ne (List.map_eq_nil_iff.mp z),λp hp=>?_,λp hp=>?_,λS3 p3 e3 g x3 g0 gd gm gs h3=>?_⟩
  ·obtain⟨x,hx,rfl⟩:=P5.mp hp;exact two x hx
  ·obtain⟨x,hx,rfl⟩:=P5.mp hp;exact⟨top0 x hx,(((hz x hx).2.num).mul (bB'.le (HM.aS _ _))).mono (by decide)⟩
  ·have n1:yS c (c.map λp=>(p.1,(cJ B p.2).fdiv g)):=J1 (by omega) dv' g0 (λp hp=>gd (p.1,cJ B p.2) (P5.mpr ⟨p,hp,rfl⟩)) (λd hd=>gm d λp hp=>by
     obtain⟨x,hx,rfl⟩:=P5.mp hp;exact hd x hx) (by
     obtain⟨m,hm,mx,pos⟩:=gs;obtain⟨x,hx,rfl⟩:=P5.mp hm;exact⟨x,hx,λq hq=>mx (q.1,cJ B q.2) (P5.mpr ⟨q,hq,rfl⟩),pos⟩)
   rw [QH] at h3;exact w S3 p3 e3 _ ((x1.trans x2).trans x3) n1 h3
theorem ve {α:Type} {f:α->D}:∀ {av don:List (List Int×α)},((don++av).map (·.1)).Nodup->kM (iw f don) (iw f av)=iw f (don++av)
 | [],don,_=>by rw [Qn]; rfl
 | p::av,don,nd=>by
  have e:kM (iw f don) (iw f (p::av))=kM (ml (iw f don) p.1 (f p.2)) (iw f av):=rfl;rw [e,g9 (mH nd),ve (by rw [List.append_assoc]; exact nd),List.append_assoc]
  rfl
theorem vv {α:Type} {f:α->D} {l:List (List Int×α)} (h:(l.map (·.1)).Nodup):kM [] (iw f l)=iw f l:=ve (f:=f) (don:=[]) h
abbrev qX (a b r:Rat):Zr:=[([1,0],a),([0,1],b),([0,0],r)]
def qC:ce:=λds S k=>∃ x y a b:Rat,ds=[W x y,W a b]/\Sz 200 x/\Sz 200 y/\Sz 40 a/\Sz 40 b/\∀ S' p ep',cn S S'->S' p=some (dS (dG (nz (qX a b (-(x*a+y*b))))) ep')->k (.ref p) S'
theorem we:ar ["place","across"] ["place","across"] (aj mo):=dP
theorem wc (Fn:FN K "line_from" mo f fd) (aE:aN P w K mg base "without_noughts" 1 b9) (aA:aN P w K mg base "negative" 1 cH) (aD:aN P w K mg base "product_of_ways" 4 b8):
  aL P w K mg base cN 5 f fd ["place","across"] (cX K qC):=by
 refine Fn.okJ we (λds S k h=>?_) (λcdv A outer s H E hr=>⟨_,(ag (am (dq aE hr (aa (w9 hr (gZ (au (aa ak (aa ak ac))) (aJ 1) (gZ (au (aa ak (aa ak ac))) (aJ 1) (gZ (au (aa ak (aa ak ac))) (dq aA hr (aa (dq aD hr (aw 0 (aw 1 ac))) ac)) zV)))) ac)))),λds S k h=>?_⟩)
 ·obtain⟨_,_,_,_,rfl,_⟩:=h
  rfl
 ·obtain⟨x,y,a,b,rfl,hx,hy,ha,hb,w⟩:=h;refine λp hp e0=>⟨few,few,few,x,y,a,b,rfl,hx.mono (by decide),hy.mono (by decide),ha.mono (by decide),hb.mono (by decide),_,rfl,e0,dG (qX a b (-(x*a+y*b))),aq,rfl,by show 3<=15; decide,λe1=>?_⟩
  refine⟨p,qX a b (-(x*a+y*b)),e1,rfl,by rw [aq,vv (f:=fr) (l:=qX a b (-(x*a+y*b))) (by show(([[1,0],[0,1],[0,0]]:List (List Int))).Nodup; decide)],(by show(([[1,0],[0,1],[0,0]]:List (List Int))).Nodup; decide),by show 3<=100; decide,λS' q e' xx _ hh=>w S' q e' (((cn.new hp).put hp).trans xx) hh⟩
abbrev uN (x y s:Rat):Zr:=[([2,0],1),([0,2],1),([1,0],-(x+x)),([0,1],-(y+y)),([0,0],x*x+y*y - s)]
theorem sI {x y s:Rat}:((uN x y s).map (·.1)).Nodup:=by show(([[2,0],[0,2],[1,0],[0,1],[0,0]]:List (List Int))).Nodup; decide
theorem zA {a b r:Rat}:((qX a b r).map (·.1)).Nodup:=by show(([[1,0],[0,1],[0,0]]:List (List Int))).Nodup; decide
def nF:ce:=λds S k=>∃ x y s:Rat,ds=[W x y,fr s]/\Sz 40 x/\Sz 40 y/\Sz 100 s/\∀ S' p ep',cn S S'->S' p=some (dS (dG (nz (uN x y s))) ep')->k (.ref p) S'
theorem gh:ar ["place","square","x","y","rest"] ["place","square"] (aj jH):=dP
theorem sZ (Fn:FN K "round_about" jH f fd) (aW:aN P w K mg base "plus" 3 iU) (bJ:aN P w K mg base "minus" 3 jt) (aD:aN P w K mg base "product_of_ways" 4 b8) (aE:aN P w K mg base "without_noughts" 1 b9) (aA:aN P w K mg base "negative" 1 cH) (iW:qv K mg "ONE" [1,1]):
  aL P w K mg base cN 5 f fd ["place","square"] (cX K nF):=by
 refine Fn.okJ gh (λds S k h=>?_) (λcdv A outer s H E hr=>⟨_,(af (ah (i:=2) gh.nd (dq aW hr (aa (aJ 0) (aa (aJ 0) ac)))) (af (ah (i:=3) gh.nd (dq aW hr (aa (aJ 0) (aa (aJ 0) ac)))) (af (ah (i:=4) gh.nd (dq bJ hr (aa (dq aD hr (aw 0 (aw 0 ac))) (aw 1 ac)))) (ag (am (dq aE hr (aa (w9 hr (gZ (au (aa ak (aa ak ac))) (fx iW rfl) (gZ (au (aa ak (aa ak ac))) (fx iW rfl) (gZ (au (aa ak (aa ak ac))) (dq aA hr (aw 2 ac)) (gZ (au (aa ak (aa ak ac))) (dq aA hr (aw 3 ac)) (gZ (au (aa ak (aa ak ac))) (ai 4) zV)))))) ac))))))),λds S k h=>?_⟩)
 ·obtain⟨_,_,_,rfl,_⟩:=h
  rfl
 ·obtain⟨x,y,s,rfl,hx,hy,hs,w⟩:=h;refine⟨x,x,rfl,hx.mono (by decide),hx.mono (by decide),y,y,rfl,hy.mono (by decide),hy.mono (by decide),x,y,x,y,rfl,hx.mono (by decide),hy.mono (by decide),hx.mono (by decide),hy.mono (by decide),_,s,rfl,(((hx.mul hx).add (hy.mul hy))).mono (by decide),hs.mono (by decide),?_⟩
  refine λp hp e0=>⟨few,few,few,_,rfl,few,_,rfl,few,e0,dG (uN x y s),aq,rfl,by show 5<=15; decide,λe1=>?_⟩
  exact⟨p,uN x y s,e1,rfl,by rw [aq,vv (f:=fr) (l:=uN x y s) sI],sI,by show 5<=100; decide,λS' q e' xx _ hh=>w S' q e' (((cn.new hp).put hp).trans xx) hh⟩
theorem fw {l:Zr} {p:List Int×Rat}:p∈nz l↔p∈l/\p.2≠0:=by
 rw [List.mem_filter];simp
theorem I0 {l:Zr}:(nz l).length<=l.length:=List.length_filter_le _ _
theorem Oe {a b r:Rat}:∀ p∈qX a b r,∃ i j,p.1=[i,j]:=by
 intro p hp;simp only [P9,Qh,or_false] at hp;rcases hp with rfl | rfl | rfl <;> exact⟨_,_,rfl⟩
theorem Op {a b r:Rat}:∀ p∈uN a b r,∃ i j,p.1=[i,j]:=by
 intro p hp;simp only [P9,Qh,or_false] at hp;rcases hp with rfl | rfl | rfl | rfl | rfl <;> exact⟨_,_,rfl⟩
def iz (aX:Rh):qV:=λds S k x=>∃ a b:Rat,ds=[W a b]/\Sz 900 a/\Sz 900 b/\(a*a+b*b=0->x aX S)/\(a*a+b*b≠0->k (fr (a*a+b*b)) S)
theorem lX {P:Rk} {w:Rn} {K:Fg} {mg:Str->Ri Rg} {base:Ro} {f:Rh} {fd:FuncData} {aX:Rh} (Fn:FN K "square_of_unlike" dI f fd) (aD:aN P w K mg base "product_of_ways" 4 b8) (jZ:mg "NoMeet"=some (.ref aX)) (xw:PySem.W.excIn K aX [.type "ValueError",.type "Exception",.type "BaseException",.type "object"] "ValueError.__new__"=true):
  aL P w K mg base (iy P w) 5 f fd ["way"] (Hl K (iz aX)):=by
 refine Fn.okX dh (λds S k x h=>?_) (λcdv A outer s H E ex hr hE=>⟨_,(af (ah (i:=1) dh.nd (dq aD hr (aw 0 (aw 0 ac)))) (af (aK (aG jV (aJ 1) ak (aM _)) (ag (t6 hE PySem.F.excBase_ValueError xw jZ rfl)) aO) (ag (am (ai 1))))),λds S k h=>?_⟩)
 ·obtain⟨_,_,rfl,_⟩:=h
  rfl
 ·obtain⟨a,b,rfl,ha,hb,w0,w1⟩:=h;exact⟨a,b,a,b,rfl,ha.mono (by decide),hb.mono (by decide),ha.mono (by decide),hb.mono (by decide),bq (λz=>w0 (Rb.mp z)) (λz=>w1 λe=>z (by rw [e]; rfl))⟩
set_option maxHeartbeats 4000000
section
variable {α:Type} {f:α->D}
def gA (z:α) (c:List (List Int×α)) (k:List Int):α:=((c.find? λp=>decide (p.1=k)).map (·.2)).getD z
theorem bo {z:α}:∀ {c:List (List Int×α)} {k:List Int},k∉c.map (·.1)->gA z c k=z
 | [],_,_=>rfl
 | p::l,k,h=>by
  rw [Qe,P9,not_or] at h;have e:gA z (p::l) k=gA z l k:=by simp [gA,Qg,Ne.symm h.1]
  rw [e];exact bo h.2
theorem eK {z:α}:∀ {c:List (List Int×α)} {k:List Int} {x:α},(c.map (·.1)).Nodup->(k,x)∈c->gA z c k=x
 | [],_,_,_,h=>nomatch h
 | p::l,k,x,nd,h=>by
  rw [Qe,QK] at nd;rcases P9.mp h with e | m
  ·subst e;simp [gA]
  ·have ne:p.1≠k:=λz=>nd.1 (P5.mpr ⟨_,m,z.symm⟩)
   have e:gA z (p::l) k=gA z l k:=by simp [gA,Qg,ne]
   rw [e];exact eK nd.2 m
theorem Av {z:α} {c:List (List Int×α)} {k:List Int}:(fy (iw f c) k).getD (f z)=f (gA z c k):=by
 induction c with
 | nil=>rfl
 | cons p l ih=>
  by_cases h:p.1=k
  ·simp [fy,iw,gA,h]
  ·have e1:fy (iw f (p::l)) k=fy (iw f l) k:=by simp [fy,iw,Qg,h]
   have e2:gA z (p::l) k=gA z l k:=by simp [gA,Qg,h]
   rw [e1,e2,ih]
theorem lF {z:α} {c:List (List Int×α)} (k:List Int) (nd:(c.map (·.1)).Nodup):k∉c.map (·.1)\/(k,gA z c k)∈c:=by
 by_cases h:k∈c.map (·.1)
 ·obtain⟨p,hp,rfl⟩:=P5.mp h;exact .inr (by rw [eK (x:=p.2) nd hp]; exact hp)
 ·exact .inl h
end
abbrev gR:=gA (0:Rat)
abbrev gI:=gA (0:Int)
theorem FJ {l:Zr} {k:List Int} {x:Rat}:∃ l':Zr,ml (dG l) k (fr x)=dG l'/\((l.map (·.1)).Nodup->(l'.map (·.1)).Nodup)/\l'.length<=l.length+1/\(∀ p∈l',p∈l\/p=(k,x))/\(k,x)∈l'/\∀ p∈l,p.1≠k->p∈l':=by
 by_cases h:k∈l.map (·.1)
 ·refine⟨l.map λp=>if p.1=k then(p.1,x) else p,?_,λnd=>?_,by rw [P6]; omega,λp hp=>?_,?_,λp hp n=>?_⟩
  ·unfold ml;obtain⟨p,hp,e⟩:=P5.mp h;have:(fy (dG l) k).isSome=true:=by
    have:(dG l).find? (λp=>decide (p.1=k))≠none:=λz=>by
     have:=List.find?_eq_none.mp z (p.1,fr p.2) (P5.mpr ⟨p,hp,rfl⟩);simp [e] at this
    unfold fy;cases hh:(dG l).find? (λp=>decide (p.1=k)) with
    | none=>exact absurd hh this
    | some v=>rfl
   rw [if_pos this];unfold dG iw;rw [QH,QH];refine List.map_congr_left λp _=>?_
   show(if p.1=k then(p.1,fr x) else(p.1,fr p.2))=_
   show _=((if p.1=k then(p.1,x) else p).1,fr (if p.1=k then(p.1,x) else p).2)
   split <;> rfl
  ·rw [QH];have:((λp:List Int×Rat=>p.1) ∘ λp=>if p.1=k then(p.1,x) else p)=λp=>p.1:=by
    funext p
    show(if p.1=k then(p.1,x) else p).1=p.1
    split <;> rfl
   rw [this];exact nd
  ·obtain⟨q,hq,rfl⟩:=P5.mp hp
   by_cases e:q.1=k
   ·rw [if_pos e,e];exact .inr rfl
   ·rw [if_neg e];exact .inl hq
  ·obtain⟨p,hp,e⟩:=P5.mp h;exact P5.mpr ⟨p,hp,by rw [if_pos e,e]⟩
  ·exact P5.mpr ⟨p,hp,by rw [if_neg n]⟩
 ·refine⟨l++[(k,x)],g9 h,λnd=>?_,by simp,λp hp=>?_,by simp,λp hp _=>by simp [hp]⟩
  ·rw [List.map_append,List.nodup_append];refine⟨nd,by simp,λa ha b hb=>?_⟩
   have:b=k:=by simpa using hb
   rw [this];exact λz=>h (z▸ha)
  ·rcases List.mem_append.mp hp with m | m
   ·exact .inl m
   ·exact .inr (by simpa using m)
theorem qu {α:Type} [BEq α] [LawfulBEq α]:∀ {l l':List α},l.Nodup->(∀ x∈l,x∈l')->l.length<=l'.length
 | [],_,_,_=>QU _
 | a::l,l',nd,h=>by
  rw [QK] at nd;have ma:=h a Qa;have z:=qu (l:=l) (l':=l'.erase a) nd.2 λx hx=>(List.mem_erase_of_ne λe=>nd.1 (by rw [<- e]; exact hx)).mpr (h x (Qb _ hx))
  rw [List.length_erase_of_mem ma] at z;have:0 < l'.length:=List.length_pos_of_mem ma;rw [Qf];omega
structure Cv (n m:Nat) (b:Int) (c:Zr):Prop where
 nd:(c.map (·.1)).Nodup
 hl:c.length<=n
 sm:∀ p∈c,∃ i j:Int,p.1=[i,j]/\0<=i/\0<=j/\i<=b/\j<=b
 hz:∀ p∈c,Sz m p.2
theorem Cv.two {n m:Nat} {b:Int} {c:Zr} (h:Cv n m b c):∀ p∈c,∃ i j,p.1=[i,j]:=λp hp=>by
 obtain⟨i,j,e,_⟩:=h.sm p hp;exact⟨i,j,e⟩
theorem Cv.sz {n m:Nat} {b:Int} {c:Zr} (h:Cv n m b c) (m0:1<=m) (k:List Int):Sz m (gR c k):=by
 rcases lF (z:=(0:Rat)) k h.nd with x | x
 ·rw [show gR c k=0 from bo x]
  exact Sz.mono (m:=1) ⟨by decide,by decide⟩ m0
 ·exact h.hz _ x
theorem Cv.of_gR {n m m':Nat} {b:Int} {c:Zr} (h:Cv n m b c) (hz:∀ k,Sz m' (gR c k)):Cv n m' b c:=⟨h.nd,h.hl,h.sm,λp hp=>by
 have:=hz p.1;rw [show gR c p.1=p.2 from eK h.nd hp] at this
 exact this⟩
theorem Cv.nil {m:Nat} {b:Int}:Cv 0 m b []:=⟨List.nodup_nil,by decide,λp h=>(nomatch h),λp h=>(nomatch h)⟩
theorem Cv.mono {n m n' m':Nat} {b b':Int} {c:Zr} (h:Cv n m b c) (hn:n<=n') (hm:m<=m') (hb:b<=b'):Cv n' m' b' c:=⟨h.nd,QF h.hl hn,λp hp=>by
 obtain⟨i,j,e,a1,a2,a3,a4⟩:=h.sm p hp;exact⟨i,j,e,a1,a2,by omega,by omega⟩,λp hp=>(h.hz p hp).mono hm⟩
theorem Cv.put {n m:Nat} {b:Int} {c:Zr} (h:Cv n m b c) {i j:Int} {x:Rat} (i0:0<=i) (j0:0<=j) (i1:i<=b) (j1:j<=b) (hx:Sz m x):∃ c',ml (dG c) [i,j] (fr x)=dG c'/\Cv (n+1) m b c'/\∀ k,gR c' k=if k=[i,j] then x else gR c k:=by
 obtain⟨c',e,nd,hl,mm,m1,m2⟩:=FJ (l:=c) (k:=[i,j]) (x:=x);have:=h.hl;have nd':=nd h.nd;refine⟨c',e,⟨nd',by omega,λp hp=>?_,λp hp=>?_⟩,λk=>?_⟩
 ·rcases mm p hp with q | rfl
  ·exact h.sm p q
  ·exact⟨i,j,rfl,i0,j0,i1,j1⟩
 ·rcases mm p hp with q | rfl
  ·exact h.hz p q
  ·exact hx
 ·by_cases ek:k=[i,j]
  ·rw [if_pos ek,ek];exact eK nd' m1
  ·rw [if_neg ek];rcases lF (z:=(0:Rat)) k h.nd with q | q
   ·rw [show gR c k=0 from bo q]
    refine bo λz=>?_
    obtain⟨p,hp,rfl⟩:=P5.mp z;rcases mm p hp with y | y
    ·exact q (P5.mpr ⟨p,y,rfl⟩)
    ·exact ek (by rw [y])
   ·exact eK nd' (m2 _ q ek)
theorem yG {c:Zr} (nd:(c.map (·.1)).Nodup) (k:List Int):gR (nz c) k=gR c k:=by
 rcases lF (z:=(0:Rat)) k nd with q | q
 ·rw [show gR c k=0 from bo q]
  exact bo (w6 q)
 ·by_cases z:gR c k=0
  ·rw [z];refine bo λy=>?_
   obtain⟨p,hp,rfl⟩:=P5.mp y;obtain⟨hp,p0⟩:=fw.mp hp;exact p0 ((eK nd hp).symm.trans z)
  ·exact eK (dj nd) (fw.mpr ⟨q,z⟩)
structure dF (φ:List Int->Rat) (g:Zr):Prop where
 nd:(g.map (·.1)).Nodup
 two:∀ p∈g,∃ i j,p.1=[i,j]
 n0:∀ p∈g,p.2≠0
 at_:∀ k,gR g k=φ k
theorem dF.mem {φ:List Int->Rat} {g:Zr} (h:dF φ g) {p:List Int×Rat}:p∈g↔p.2≠0/\φ p.1=p.2:=by
 refine⟨λhp=>⟨h.n0 p hp,by rw [<- h.at_ p.1]; exact eK h.nd hp⟩,λ⟨n,e⟩=>?_⟩
 rcases lF (z:=(0:Rat)) p.1 h.nd with q | q
 ·exact absurd (by rw [<- e,<- h.at_ p.1]; exact bo q) n
 ·have:gR g p.1=p.2:=by rw [h.at_ p.1,e]
  rw [show gA 0 g p.1=p.2 from this] at q
  exact q
theorem dF.of {n m:Nat} {b:Int} {c:Zr} {φ:List Int->Rat} (h:Cv n m b c) (e:∀ k,gR c k=φ k):dF φ (nz c):=⟨dj h.nd,λp hp=>h.two p (fw.mp hp).1,λp hp=>(fw.mp hp).2,λk=>by rw [yG h.nd]; exact e k⟩
theorem A1 {z:Rat} {l:Zr} {q:List Int×Rat} (h:q.1∉l.map (·.1)) (k:List Int):gA z (l++[q]) k=if k=q.1 then q.2 else gA z l k:=by
 unfold gA;rw [List.find?_append]
 by_cases e:k=q.1
 ·rw [if_pos e];have:l.find? (λp=>decide (p.1=k))=none:=by
   rw [List.find?_eq_none];intro p hp;have:p.1≠k:=λy=>h (P5.mpr ⟨p,hp,y.trans e⟩)
   simpa using this
  rw [this];simp [e]
 ·rw [if_neg e];have:([q]:Zr).find? (λp=>decide (p.1=k))=none:=by simp [Ne.symm e]
  rw [this];simp
theorem Cr {α:Type} {f:α->D} {l:List (List Int×α)} {k:List Int} {x:α}:∃ l':List (List Int×α),ml (iw f l) k (f x)=iw f l'/\((l.map (·.1)).Nodup->(l'.map (·.1)).Nodup)/\l'.length<=l.length+1/\(∀ p∈l',p∈l\/p=(k,x))/\(k,x)∈l'/\∀ p∈l,p.1≠k->p∈l':=by
 by_cases h:k∈l.map (·.1)
 ·refine⟨l.map λp=>if p.1=k then(p.1,x) else p,?_,λnd=>?_,by rw [P6]; omega,λp hp=>?_,?_,λp hp n=>?_⟩
  ·unfold ml;obtain⟨p,hp,e⟩:=P5.mp h;have:(fy (iw f l) k).isSome=true:=by
    have:(iw f l).find? (λp=>decide (p.1=k))≠none:=λz=>by
     have:=List.find?_eq_none.mp z (p.1,f p.2) (P5.mpr ⟨p,hp,rfl⟩);simp [e] at this
    unfold fy;cases hh:(iw f l).find? (λp=>decide (p.1=k)) with
    | none=>exact absurd hh this
    | some v=>rfl
   rw [if_pos this];unfold iw;rw [QH,QH];refine List.map_congr_left λp _=>?_
   show(if p.1=k then(p.1,f x) else(p.1,f p.2))=_
   show _=((if p.1=k then(p.1,x) else p).1,f (if p.1=k then(p.1,x) else p).2)
   split <;> rfl
  ·rw [QH];have:((λp:List Int×α=>p.1) ∘ λp=>if p.1=k then(p.1,x) else p)=λp=>p.1:=by
    funext p
    show(if p.1=k then(p.1,x) else p).1=p.1
    split <;> rfl
   rw [this];exact nd
  ·obtain⟨q,hq,rfl⟩:=P5.mp hp
   by_cases e:q.1=k
   ·rw [if_pos e,e];exact .inr rfl
   ·rw [if_neg e];exact .inl hq
  ·obtain⟨p,hp,e⟩:=P5.mp h;exact P5.mpr ⟨p,hp,by rw [if_pos e,e]⟩
  ·exact P5.mpr ⟨p,hp,by rw [if_neg n]⟩
 ·refine⟨l++[(k,x)],g9 h,λnd=>?_,by simp,λp hp=>?_,by simp,λp hp _=>by simp [hp]⟩
  ·rw [List.map_append,List.nodup_append];refine⟨nd,by simp,λa ha b hb=>?_⟩
   have:b=k:=by simpa using hb
   rw [this];exact λz=>h (z▸ha)
  ·rcases List.mem_append.mp hp with m | m
   ·exact .inl m
   ·exact .inr (by simpa using m)
def qZ:List Int->List Int->List Int
 | [i,j],[a,b]=>[i+a,j+b]
 | _,_=>[]
section
variable {α:Type} [Add α] [Mul α] [OfNat α 0]
def lv (p q:List Int×α) (k:List Int):α:=if qZ p.1 q.1=k then p.2*q.2 else 0
def dA (p:List Int×α) (l:List (List Int×α)) (k:List Int) (s:α):α:=l.foldl (λs q=>s+lv p q k) s
def eV (l l':List (List Int×α)) (k:List Int):α:=l.foldl (λs p=>dA p l' k s) 0
theorem Cz {p q:List Int×α} {l:List (List Int×α)} {k:List Int} {s:α}:dA p (l++[q]) k s=dA p l k s+lv p q k:=by
 unfold dA;rw [List.foldl_append]
 rfl
theorem BD {p:List Int×α} {l l':List (List Int×α)} {k:List Int}:eV (l++[p]) l' k=dA p l' k (eV l l' k):=by
 unfold eV;rw [List.foldl_append]
 rfl
end
structure Ci (b:Int) (c:Zi):Prop where
 nd:(c.map (·.1)).Nodup
 sm:∀ p∈c,∃ i j:Int,p.1=[i,j]/\0<=i/\0<=j/\i<=b/\j<=b
theorem Ci.put {b:Int} {c:Zi} (h:Ci b c) {i j:Int} {x:Int} (i0:0<=i) (j0:0<=j) (i1:i<=b) (j1:j<=b):∃ c',ml (rK c) [i,j] (D.int x)=rK c'/\Ci b c'/\c'.length<=c.length+1/\∀ k,gI c' k=if k=[i,j] then x else gI c k:=by
 obtain⟨c',e,nd,hl,mm,m1,m2⟩:=Cr (f:=D.int) (l:=c) (k:=[i,j]) (x:=x);have nd':=nd h.nd;refine⟨c',e,⟨nd',λp hp=>?_⟩,hl,λk=>?_⟩
 ·rcases mm p hp with q | rfl
  ·exact h.sm p q
  ·exact⟨i,j,rfl,i0,j0,i1,j1⟩
 ·by_cases ek:k=[i,j]
  ·rw [if_pos ek,ek];exact eK nd' m1
  ·rw [if_neg ek];rcases lF (z:=(0:Int)) k h.nd with q | q
   ·rw [show gI c k=0 from bo q]
    refine bo λz=>?_
    obtain⟨p,hp,rfl⟩:=P5.mp z;rcases mm p hp with y | y
    ·exact q (P5.mpr ⟨p,y,rfl⟩)
    ·exact ek (by rw [y])
   ·exact eK nd' (m2 _ q ek)
theorem yD {X Y:Int} {p:List Int×Rat} {P:Int} {k:List Int} (hP:(P:Rat)=X*p.2):∀ {l:Zr} {s:Rat} {z:Int},(∀ q∈l,((cJ Y q.2:Int):Rat)=Y*q.2)->(z:Rat)=X*Y*s->((dA (p.1,P) (l.map λq=>(q.1,cJ Y q.2)) k z:Int):Rat)=X*Y*dA p l k s
 | [],s,z,_,h=>h
 | q::l,s,z,hq,h=>by
  show((dA (p.1,P) (l.map λq=>(q.1,cJ Y q.2)) k (z+lv (p.1,P) (q.1,cJ Y q.2) k):Int):Rat)=X*Y*dA p l k (s+lv p q k)
  refine yD hP (λr hr=>hq r (Qb _ hr)) ?_
  have e:=hq q Qa;rw [Qj,h];unfold lv;dsimp only
  by_cases ek:qZ p.1 q.1=k
  ·rw [if_pos ek,if_pos ek,P2,e,hP];grind
  ·rw [if_neg ek,if_neg ek]
   show X*Y*s+0=_
   grind
theorem xX {X Y:Int} {k:List Int} {l':Zr} (h':∀ q∈l',((cJ Y q.2:Int):Rat)=Y*q.2):∀ {l:Zr},(∀ q∈l,((cJ X q.2:Int):Rat)=X*q.2)->∀ {s:Rat} {z:Int},(z:Rat)=X*Y*s->
  (((l.map λq=>(q.1,cJ X q.2)).foldl (λs p=>dA p (l'.map λq=>(q.1,cJ Y q.2)) k s) z:Int):Rat)=X*Y*l.foldl (λs p=>dA p l' k s) s
 | [],_,_,_,h=>h
 | p::l,hl,s,z,h=>xX h' (λr hr=>hl r (Qb _ hr)) (yD (hl p Qa) h' h)
theorem Ft {α β:Type} {φ:α->β} {z:α} {k:List Int}:∀ {c:List (List Int×α)},gA (φ z) (c.map λp=>(p.1,φ p.2)) k=φ (gA z c k)
 | []=>rfl
 | p::l=>by
  by_cases h:p.1=k
  ·simp [gA,h]
  ·have e1:gA (φ z) ((p::l).map λp=>(p.1,φ p.2)) k=gA (φ z) (l.map λp=>(p.1,φ p.2)) k:=by simp [gA,Qg,h]
   have e2:gA z (p::l) k=gA z l k:=by simp [gA,Qg,h]
   rw [e1,e2];exact Ft
set_option maxHeartbeats 4000000
theorem FE:∀ i∈List.range 7,∀ j∈List.range 7,∀ a∈List.range 7,∀ b∈List.range 7,lq [(i:Int),(j:Int)]=lq [(a:Int),(b:Int)]->i=a/\j=b:=by decide +kernel
theorem Cv.hash6 {n m:Nat} {c:Zr} (h:Cv n m 6 c):((dG c).map λp=>lq p.1).Nodup:=by
 show(List.map (λp=>lq p.1) (c.map λp=>(p.1,fr p.2))).Nodup
 rw [QH];have nd:=h.nd;have sm:=h.sm;clear h
 induction c with
 | nil=>exact List.nodup_nil
 | cons p l ih=>
  rw [Qe,QK] at nd ⊢;refine⟨λz=>nd.1 ?_,ih nd.2 λq hq=>sm q (Qb _ hq)⟩
  obtain⟨q,hq,e⟩:=P5.mp z;obtain⟨i,j,e1,i0,j0,i1,j1⟩:=sm p Qa;obtain⟨i',j',e2,i0',j0',i1',j1'⟩:=sm q (Qb _ hq);have e:lq q.1=lq p.1:=e;rw [e1,e2] at e;have r:∀ z:Int,0<=z->z<=6->∃ t∈List.range 7,z=(t:Int):=λz _ _=>⟨z.toNat,QY.mpr (by omega),by omega⟩
  obtain⟨x1,y1,rfl⟩:=r i i0 i1;obtain⟨x2,y2,rfl⟩:=r j j0 j1;obtain⟨x3,y3,rfl⟩:=r i' i0' i1';obtain⟨x4,y4,rfl⟩:=r j' j0' j1';obtain⟨a,b⟩:=FE x3 y3 x4 y4 x1 y1 x2 y2 e;subst a b;exact P5.mpr ⟨q,hq,by rw [e1,e2]⟩
theorem dF.congr {φ ψ:List Int->Rat} {g:Zr} (h:dF φ g) (e:∀ k,φ k=ψ k):dF ψ g:=⟨h.nd,h.two,h.n0,λk=>by rw [h.at_ k]; exact e k⟩
structure Wf (d:Nat) (M:Int) (T:Nat) (φ:List Int->Rat):Prop where
 dg:∀ k,φ k≠0->∃ i j:Int,k=[i,j]/\0<=i/\0<=j/\i+j<=d
 dn:∀ k,∃ t:Int,Bt T t/\(M:Rat)*φ k=t
theorem _root_.HM.Bt.zero {n:Nat}:Bt n 0:=by
 show(0:Int).natAbs < 2 ^ n
 exact Nat.two_pow_pos n
theorem _root_.HM.Bt.add1 {n:Nat} {x y:Int} (hx:Bt n x) (hy:Bt n y):Bt (n+1) (x+y):=by
 unfold Bt at*
 rw [Nat.pow_succ];omega
theorem _root_.HM.Bt.neg' {n:Nat} {x:Int} (hx:Bt n x):Bt n (-x):=by
 unfold Bt at*
 omega
theorem Wf.congr {d:Nat} {M:Int} {T:Nat} {φ ψ:List Int->Rat} (h:Wf d M T φ) (e:∀ k,φ k=ψ k):Wf d M T ψ:=by
 rw [show ψ=φ from(funext e).symm]
 exact h
theorem Wf.add {d:Nat} {M:Int} {T:Nat} {φ ψ:List Int->Rat} (h:Wf d M T φ) (h':Wf d M T ψ):Wf d M (T+1) λk=>φ k+ψ k:=⟨λk n=>by
 by_cases z:φ k=0
 ·refine h'.dg k λy=>n ?_
  show φ k+ψ k=0
  rw [z,y,Rat.add_zero]
 ·exact h.dg k z,λk=>by
 obtain⟨t,bt,e⟩:=h.dn k;obtain⟨t',bt',e'⟩:=h'.dn k;exact⟨t+t',bt.add1 bt',by rw [Rat.mul_add,e,e',Qj]⟩⟩
theorem Wf.neg {d:Nat} {M:Int} {T:Nat} {φ:List Int->Rat} (h:Wf d M T φ):Wf d M T λk=>-φ k:=⟨λk n=>h.dg k λz=>n (by show -φ k=0; rw [z]; rfl),λk=>by
 obtain⟨t,bt,e⟩:=h.dn k;exact⟨-t,bt.neg',by rw [Rat.intCast_neg,<- e]; grind⟩⟩
theorem Wf.sub {d:Nat} {M:Int} {T:Nat} {φ ψ:List Int->Rat} (h:Wf d M T φ) (h':Wf d M T ψ):Wf d M (T+1) λk=>φ k - ψ k:=(h.add h'.neg).congr λk=>by grind
theorem Wf.up {d d':Nat} {M M' m:Int} {T T' s:Nat} {φ:List Int->Rat} (h:Wf d M T φ) (e:M'=M*m) (hm:Bt s m) (hd:d<=d') (hT:T+s<=T'):Wf d' M' T' φ:=⟨λk n=>by
 obtain⟨i,j,e,a,b,c⟩:=h.dg k n;exact⟨i,j,e,a,b,by omega⟩,λk=>by
 obtain⟨t,bt,q⟩:=h.dn k;refine⟨t*m,(bt.mul hm).mono hT,?_⟩;rw [e,P2,P2,<- q];grind⟩
theorem Wf.mul {d:Nat} {M m n:Int} {T s:Nat} {φ:List Int->Rat} {q:Rat} (h:Wf d M T φ) (e:(m:Rat)*q=n) (hn:Bt s n):Wf d (M*m) (T+s) λk=>φ k*q:=⟨λk z=>h.dg k λy=>z (by show φ k*q=0; rw [y,Rat.zero_mul]),λk=>by
 obtain⟨t,bt,et⟩:=h.dn k;refine⟨t*n,bt.mul hn,?_⟩;rw [P2,P2,<- et,<- e];grind⟩
theorem Wf.sz {d:Nat} {M:Int} {T n:Nat} {φ:List Int->Rat} (h:Wf d M T φ) (M0:0 < M) (hM:Bt n M) (hT:T<=n) (k:List Int):Sz n (φ k):=by
 obtain⟨t,bt,e⟩:=h.dn k;have m0:(M:Rat)≠0:=λz=>by
  have:M=0:=QL.mp (by rw [z]; rfl)
  omega
 have:φ k=Rat.divInt t M:=by
  rw [QB,<- e];grind
 rw [this];exact Sz.divInt (bt.mono hT) hM (by omega)
def sQ (d:Nat):List (List Int):=(List.range (d+1)).flatMap fun(i:Nat)=>(List.range (d+1 - i)).map fun(j:Nat)=>[(i:Int),(j:Int)]
theorem yo {d:Nat} {i j:Int} (i0:0<=i) (j0:0<=j) (h:i+j<=d):[i,j]∈sQ d:=by
 unfold sQ;rw [List.mem_flatMap];refine⟨i.toNat,QY.mpr (by omega),P5.mpr ⟨j.toNat,QY.mpr (by omega),?_⟩⟩
 rw [Int.toNat_of_nonneg i0,Int.toNat_of_nonneg j0]
theorem dF.len {φ:List Int->Rat} {g:Zr} {d:Nat} {M:Int} {T:Nat} (h:dF φ g) (w:Wf d M T φ):g.length<=(sQ d).length:=by
 have:=qu h.nd (l':=sQ d) λx hx=>by
  obtain⟨p,hp,rfl⟩:=P5.mp hx;obtain⟨a,b⟩:=h.mem.mp hp;obtain⟨i,j,e,i0,j0,hd⟩:=w.dg p.1 (by rw [b]; exact a)
  rw [e];exact yo i0 j0 hd
 rw [P6] at this;exact this
theorem dF.cv {φ:List Int->Rat} {g:Zr} {d n m:Nat} {b:Int} {M:Int} {T:Nat} (h:dF φ g) (w:Wf d M T φ) (M0:0 < M) (hM:Bt m M) (hT:T<=m) (hn:(sQ d).length<=n) (hb:(d:Int)<=b):Cv n m b g:=⟨h.nd,QF (h.len w) hn,λp hp=>by
 obtain⟨a,e⟩:=h.mem.mp hp;obtain⟨i,j,ek,i0,j0,hd⟩:=w.dg p.1 (by rw [e]; exact a)
 exact⟨i,j,ek,i0,j0,by omega,by omega⟩,λp hp=>by
 obtain⟨a,e⟩:=h.mem.mp hp;rw [<- e];exact w.sz M0 hM hT p.1⟩
theorem dF.perm {φ:List Int->Rat} {g g':Zr} (h:dF φ g) (h':dF φ g'):g.Perm g':=by
 have n1:g.Nodup:=List.Pairwise.of_map (·.1) (λa b n e=>n (by rw [e])) h.nd
 have n2:g'.Nodup:=List.Pairwise.of_map (·.1) (λa b n e=>n (by rw [e])) h'.nd
 rw [List.perm_iff_count];intro p;have c1:p∈g↔p∈g':=by rw [h.mem,h'.mem]
 by_cases m:p∈g
 ·rw [List.Nodup.count n1,List.Nodup.count n2,if_pos m,if_pos (c1.mp m)]
 ·rw [List.Nodup.count n1,List.Nodup.count n2,if_neg m,if_neg (λz=>m (c1.mpr z))]
theorem rT {p:List Int×Rat} {l:Zr} {k:List Int} {s:Rat}:dA p l k s=s+dA p l k 0:=by
 induction l generalizing s with
 | nil=>exact(Rat.add_zero s).symm
 | cons q l ih=>
  show dA p l k (s+lv p q k)=s+dA p l k (0+lv p q k)
  rw [ih,ih (s:=0+lv p q k),Rat.zero_add,Rat.add_assoc]
theorem CN {p:List Int×Rat} {l l':Zr} {k:List Int} (h:l.Perm l'):dA p l k 0=dA p l' k 0:=by
 induction h with
 | nil=>rfl
 | @cons x l1 l2 _ ih=>
  show dA p l1 k (0+lv p x k)=dA p l2 k (0+lv p x k)
  rw [rT (l:=l1) (s:=0+lv p x k),rT (l:=l2) (s:=0+lv p x k),ih]
 | swap x y l=>
  show dA p l k (0+lv p y k+lv p x k)=dA p l k (0+lv p x k+lv p y k)
  rw [show 0+lv p y k+lv p x k=0+lv p x k+lv p y k by grind]
 | trans _ _ i1 i2=>rw [i1,i2]
def fL (f:List Int×Rat->Rat) (l:Zr) (s:Rat):Rat:=l.foldl (λs p=>s+f p) s
theorem lE {f:List Int×Rat->Rat} {l:Zr} {s:Rat}:fL f l s=s+fL f l 0:=by
 induction l generalizing s with
 | nil=>exact(Rat.add_zero s).symm
 | cons q l ih=>
  show fL f l (s+f q)=s+fL f l (0+f q)
  rw [ih,ih (s:=0+f q),Rat.zero_add,Rat.add_assoc]
theorem Cf {f:List Int×Rat->Rat} {l l':Zr} (h:l.Perm l'):fL f l 0=fL f l' 0:=by
 induction h with
 | nil=>rfl
 | @cons x l1 l2 _ ih=>
  show fL f l1 (0+f x)=fL f l2 (0+f x)
  rw [lE (l:=l1) (s:=0+f x),lE (l:=l2) (s:=0+f x),ih]
 | swap x y l=>
  show fL f l (0+f y+f x)=fL f l (0+f x+f y)
  rw [show 0+f y+f x=0+f x+f y by grind]
 | trans _ _ i1 i2=>rw [i1,i2]
theorem hV {l l':Zr} {k:List Int}:eV l l' k=fL (λp=>dA p l' k 0) l 0:=by
 unfold eV fL
 congr 1
 funext s p
 exact rT
theorem mZ {l l2 l' l2':Zr} {k:List Int} (h:l.Perm l2) (h':l'.Perm l2'):eV l l' k=eV l2 l2' k:=by
 rw [hV,hV,Cf h]
 congr 1
 funext p
 exact CN h'
open Classical in
noncomputable def cl (φ:List Int->Rat):Zr:=if h:∃ c,dF φ c then h.choose else []
theorem EW {φ:List Int->Rat} {c:Zr} (h:dF φ c):dF φ (cl φ):=by
 have e:∃ c,dF φ c:=⟨c,h⟩;unfold cl;rw [dif_pos e];exact e.choose_spec
noncomputable def bE (φ ψ:List Int->Rat) (k:List Int):Rat:=eV (cl φ) (cl ψ) k
theorem ja {φ ψ:List Int->Rat} {c c':Zr} (h:dF φ c) (h':dF ψ c') (k:List Int):eV c c' k=bE φ ψ k:=mZ (h.perm (EW h)) (h'.perm (EW h'))
theorem FK {M M':Int} {T T':Nat} {p:List Int×Rat} {k:List Int} (hp:∃ t:Int,Bt T t/\(M:Rat)*p.2=t):∀ {l:Zr},(∀ q∈l,∃ t:Int,Bt T' t/\(M':Rat)*q.2=t)->∀ {n:Nat} {s:Rat},(∃ t:Int,t.natAbs<=n*2 ^ (T+T')/\((M*M':Int):Rat)*s=t)->∃ t:Int,t.natAbs<=(n+l.length)*2 ^ (T+T')/\((M*M':Int):Rat)*dA p l k s=t
 | [],_,n,s,h=>by simpa [dA] using h
 | q::l,hl,n,s,h=>by
  have e:n+(q::l).length=n+1+l.length:=by rw [Qf]; omega
  rw [e];refine FK (k:=k) hp (l:=l) (λr hr=>hl r (Qb _ hr)) (n:=n+1) (s:=s+lv p q k) ?_
  obtain⟨t,ht,et⟩:=h;obtain⟨a,ba,ea⟩:=hp;obtain⟨b,bb,eb⟩:=hl q Qa;unfold lv
  by_cases z:qZ p.1 q.1=k
  ·refine⟨t+a*b,?_,?_⟩
   ·have m:Bt (T+T') (a*b):=ba.mul bb;unfold Bt at m;have:=Int.natAbs_add_le t (a*b);rw [Nat.add_mul,Nat.one_mul];omega
   ·rw [if_pos z,Rat.mul_add,et,Qj,P2,P2,<- ea,<- eb];grind
  ·refine⟨t,?_,?_⟩
   ·rw [Nat.add_mul];omega
   ·rw [if_neg z,Rat.add_zero];exact et
theorem Fw {M M':Int} {T T':Nat} {k:List Int} {l':Zr} (hl':∀ q∈l',∃ t:Int,Bt T' t/\(M':Rat)*q.2=t):∀ {l:Zr},(∀ q∈l,∃ t:Int,Bt T t/\(M:Rat)*q.2=t)->∀ {n:Nat} {s:Rat},(∃ t:Int,t.natAbs<=n*2 ^ (T+T')/\((M*M':Int):Rat)*s=t)->∃ t:Int,t.natAbs<=(n+l.length*l'.length)*2 ^ (T+T')/\((M*M':Int):Rat)*l.foldl (λs p=>dA p l' k s) s=t
 | [],_,n,s,h=>by simpa using h
 | q::l,hl,n,s,h=>by
  have e:n+(q::l).length*l'.length=n+l'.length+l.length*l'.length:=by rw [Qf,Nat.succ_mul]; omega
  rw [e];exact Fw hl' (l:=l) (λr hr=>hl r (Qb _ hr)) (FK (k:=k) (hl q Qa) hl' h)
theorem dF.dn {φ:List Int->Rat} {c:Zr} {d:Nat} {M:Int} {T:Nat} (h:dF φ c) (w:Wf d M T φ):Dn M T c:=λp hp=>by
 obtain⟨_,e⟩:=h.mem.mp hp;obtain⟨t,bt,et⟩:=w.dn p.1;rw [e] at et;exact⟨t,bt,et⟩
theorem Dn.mono {B:Int} {T T':Nat} {c:Zr} (h:Dn B T c) (hT:T<=T'):Dn B T' c:=λp hp=>by
 obtain⟨t,bt,e⟩:=h p hp;exact⟨t,bt.mono hT,e⟩
theorem mS {p:List Int×Rat} {k:List Int}:∀ {l:Zr} {s:Rat},(∀ q∈l,qZ p.1 q.1≠k)->dA p l k s=s
 | [],_,_=>rfl
 | q::l,s,h=>by
  show dA p l k (s+lv p q k)=s
  rw [show lv p q k=0 from if_neg (h q Qa),Rat.add_zero]
  exact mS λr hr=>h r (Qb _ hr)
theorem A9 {k:List Int} {l':Zr}:∀ {l:Zr} {s:Rat},(∀ p∈l,∀ q∈l',qZ p.1 q.1≠k)->l.foldl (λs p=>dA p l' k s) s=s
 | [],_,_=>rfl
 | p::l,s,h=>by
  show l.foldl (λs p=>dA p l' k s) (dA p l' k s)=s
  rw [mS (h p Qa)];exact A9 λr hr=>h r (Qb _ hr)
theorem Wf.prod {φ ψ:List Int->Rat} {c c':Zr} {d d':Nat} {M M':Int} {T T':Nat} (h:dF φ c) (h':dF ψ c') (w:Wf d M T φ) (w':Wf d' M' T' ψ) (hl:c.length<=10) (hl':c'.length<=10):Wf (d+d') (M*M') (T+T'+7) (bE φ ψ):=⟨λk n=>by
 rw [<- ja h h'] at n;refine Classical.byContradiction λno=>n ?_
 refine A9 (s:=0) λp hp q hq e=>no ?_
 obtain⟨a,b⟩:=h.mem.mp hp;obtain⟨a',b'⟩:=h'.mem.mp hq;obtain⟨i,j,e1,i0,j0,ij⟩:=w.dg p.1 (by rw [b]; exact a)
 obtain⟨i',j',e2,i0',j0',ij'⟩:=w'.dg q.1 (by rw [b']; exact a')
 rw [e1,e2] at e;exact⟨i+i',j+j',e.symm,by omega,by omega,by omega⟩,λk=>by
 obtain⟨t,ht,et⟩:=Fw (k:=k) (M:=M) (M':=M') (T:=T) (T':=T') (h'.dn w') (h.dn w) (n:=0) (s:=0) ⟨0,QU _,by rw [Rat.mul_zero]; rfl⟩
 refine⟨t,?_,?_⟩
 ·unfold Bt;have l1:c.length*c'.length<=10*10:=Nat.mul_le_mul hl hl';have l2:(0+c.length*c'.length)*2 ^ (T+T')<=100*2 ^ (T+T'):=Nat.mul_le_mul_right _ (by omega)
  have l3:2 ^ (T+T'+7)=2 ^ (T+T')*128:=by rw [Nat.pow_add]
  have l4:=Nat.two_pow_pos (T+T');omega
 ·rw [<- ja h h'];exact et⟩
theorem rY {f:Rat->Rat} {k:List Int} (f0:f 0=0):∀ {l:Zr},(l.map (·.1)).Nodup->fL (λp=>if p.1=k then f p.2 else 0) l 0=f (gR l k)
 | [],_=>f0.symm
 | p::l,nd=>by
  rw [Qe,QK] at nd
  show fL _ l (0+if p.1=k then f p.2 else 0)=_
  rw [lE,rY f0 nd.2]
  by_cases e:p.1=k
  ·subst e;rw [if_pos rfl,show gR l p.1=0 from bo nd.1,f0,Rat.add_zero,Rat.zero_add,show gR (p::l) p.1=p.2 by simp [gA]]
  ·rw [if_neg e,show gR (p::l) k=gR l k by simp [gA,Qg,e],Rat.add_zero,Rat.zero_add]
theorem i4 {p:List Int×Rat} {k:List Int}:∀ {l:Zr} {s:Rat},dA p l k s=fL (λq=>lv p q k) l s
 | _,_=>rfl
theorem iY {f g:List Int×Rat->Rat}:∀ {l:Zr} {s:Rat},(∀ p∈l,f p=g p)->fL f l s=fL g l s
 | [],_,_=>rfl
 | p::l,s,h=>by
  show fL f l (s+f p)=fL g l (s+g p)
  rw [h p Qa];exact iY λq hq=>h q (Qb _ hq)
theorem mQ {φ ψ:List Int->Rat} {c c':Zr} {d d':Nat} {M M':Int} {T T':Nat} (h:dF φ c) (h':dF ψ c') (w:Wf d M T φ) (w':Wf d' M' T' ψ):bE φ ψ [((d+d':Nat):Int),0]=φ [(d:Int),0]*ψ [(d':Int),0]:=by
 rw [<- ja h h',hV];have row:∀ p∈c,dA p c' [((d+d':Nat):Int),0] 0=if p.1=[(d:Int),0] then p.2*ψ [(d':Int),0] else 0:=λp hp=>by
  obtain⟨a,b⟩:=h.mem.mp hp;obtain⟨i,j,e1,i0,j0,ij⟩:=w.dg p.1 (by rw [b]; exact a)
  have key:∀ q∈c',(qZ p.1 q.1=[((d+d':Nat):Int),0]↔p.1=[(d:Int),0]/\q.1=[(d':Int),0]):=λq hq=>by
   obtain⟨a',b'⟩:=h'.mem.mp hq;obtain⟨i',j',e2,i0',j0',ij'⟩:=w'.dg q.1 (by rw [b']; exact a')
   rw [e1,e2]
   show [i+i',j+j']=[((d+d':Nat):Int),0]↔[i,j]=[(d:Int),0]/\[i',j']=[(d':Int),0]
   simp only [List.cons.injEq,and_true];omega
  rw [i4]
  by_cases e:p.1=[(d:Int),0]
  ·rw [if_pos e,iY (g:=λq=>if q.1=[(d':Int),0] then p.2*q.2 else 0) (λq hq=>by
    unfold lv
    by_cases z:q.1=[(d':Int),0]
    ·rw [if_pos ((key q hq).mpr ⟨e,z⟩),if_pos z]
    ·rw [if_neg λy=>z ((key q hq).mp y).2,if_neg z]),rY (f:=λx=>p.2*x) (Rat.mul_zero _) h'.nd,show gR c' [(d':Int),0]=ψ _ from h'.at_ _]
  ·rw [if_neg e];rw [<- i4];exact mS λq hq y=>e ((key q hq).mp y).1
 rw [iY row,rY (f:=λx=>x*ψ [(d':Int),0]) (Rat.zero_mul _) h.nd,show gR c [(d:Int),0]=φ _ from h.at_ _]
set_option maxHeartbeats 4000000
def kJ:ce:=λds S k=>∃ (a b:Rh) (c c':Zr) (e e':Nat),ds=[.ref a,.ref b]/\S a=some (dS (dG c) e)/\S b=some (dS (dG c') e')/\Cv 28 900 6 c/\Cv 28 900 6 c'/\∀ S' p ep g,cn S S'->S p=none->dF (λk=>gR c k+gR c' k) g->S' p=some (dS (dG g) ep)->k (.ref p) S'
theorem gY:ar ["one","other","sums","key","fraction"] ["one","other"] (aj kH):=dP
theorem uA (Fn:FN K "curve_plus" kH f fd) (aW:aN P w K mg base "plus" 3 iU) (aE:aN P w K mg base "without_noughts" 1 b9) (zh:mg "dict"=none) (bF:qv K mg "NOUGHT" [0,1]):
  aL P w K mg base cN 4 f fd ["one","other"] (cX K kJ):=by
 refine Fn.okJ gY (λds S k h=>?_) (λcdv A outer s H E hr=>⟨_,(af (ah (i:=2) gY.nd (xA (Gm hr) rfl zh Hn (aw 0 ac))) (af (dE PassesOwn.never rfl (fm (ai 1)) (eC (n:=2) rfl (aH (aB (i:=3) gY.nd) (aH (aB (i:=4) gY.nd) cW))) (ag (dU (dq aW hr (aa (Ay hr (ai 2) (ai 3) (fx bF rfl)) (aw 4 ac))) (jj hr (ai 2) (ai 3))))) (ag (am (dq aE hr (aw 2 ac)))))),λds S k h=>?_⟩)
 ·obtain⟨_,_,_,_,_,_,rfl,_⟩:=h
  rfl
 ·obtain⟨a,b,c,c',e,e',rfl,ha,hb,hc,hc',w⟩:=h;refine⟨_,_,ha,hc.hash6,λp hp e1=>⟨_,_,bO hp hb,?_⟩⟩
  have nbp:b≠p:=jR hb hp;refine df (λr L S'=>∃ (don av f:Zr) (e3:Nat) (l3 l4:Ri D),c'=don++av/\r=fB (dG av)/\L=[some (.ref a),some (.ref b),some (.ref p),l3,l4]/\cn S S'/\S' b=some (dS (dG c') e')/\S' p=some (dS (dG f) e3)/\Cv (28+don.length) 1801 6 f/\∀ k,gR f k=gR c k+gR don k) (λr L S' z9=>by obtain⟨_,_,_,_,_,_,_,_,_,_,h,_⟩:=z9; exact h) ?_ ?_ _ _ _ ⟨[],c',c,e1,none,none,rfl,rfl,rfl,cn.new hp,bO hp hb,aq,hc.mono (by decide) (by decide) (by decide),λk=>(Rat.add_zero _).symm⟩
  ·rintro d r L S1 N1 ⟨don,av,f,e3,l3,l4,ec,er,rfl,x1,b1,p1,hf,hg⟩ hN;cases av with
   | nil=>cases er
   | cons q av=>
    cases er;have mq:q∈c':=by rw [ec]; simp
    have nq:=mH (p:=q) (ec▸hc'.nd);have hd:don.length < 28:=by have:=congrArg List.length ec; rw [Ql,Qf] at this; have:=hc'.hl; omega
    have s0:Sz 900 (gR f q.1):=by rw [hg,show gR don q.1=0 from bo nq,Rat.add_zero]; exact hc.sz (by decide) _
    have sq:=hc'.hz q mq;obtain⟨i,j,ek,i0,j0,i1,j1⟩:=hc'.sm q mq;obtain⟨f',ef,hf',gf⟩:=hf.put (i:=i) (j:=j) (x:=gR f q.1+q.2) i0 j0 i1 j1 (s0.add sq);rw [<- ek] at ef gf
    refine⟨([gH q.1,fr q.2],none),rfl,rfl,rfl,⟨_,_,p1⟩,_,_,q.1,p1,rfl,gR f q.1,q.2,congrArg (λz=>[z,fr q.2]) (Av (f:=fr) (z:=0)),s0.mono (by decide),sq.mono (by decide),_,_,q.1,p1,rfl,by rw [eF]; exact lim (by have:=hf.hl; omega),λe4=>hN _ _ ⟨don++[q],av,f',e4,_,_,by rw [ec]; simp,rfl,rfl,x1.put hp,by rw [bV nbp]; exact b1,by rw [aq,ef],by rw [Ql]; exact hf',λk=>?_⟩⟩
    rw [gf k,show gR (don++[q]) k=_ from A1 nq k]
    by_cases e:k=q.1
    ·rw [if_pos e,if_pos e,hg,e,show gR don q.1=0 from bo nq,Rat.add_zero]
    ·rw [if_neg e,if_neg e];exact hg k
  ·rintro L S1 ⟨don,av,f,e3,l3,l4,ec,er,rfl,x1,b1,p1,hf,hg⟩;cases av with
   | cons q av=>cases er
   | nil=>
    rw [Qn] at ec;subst ec;have:=hf.hl;have:=hc'.hl;exact⟨p,f,e3,rfl,p1,hf.nd,by omega,λS2 q e2 x2 hq h2=>w S2 q e2 (nz f) (x1.trans x2) (x1.none hq) (dF.of hf hg) h2⟩
def jD:ce:=λds S k=>∃ (a:Rh) (c:Zr) (e:Nat) (t:Rat),ds=[.ref a,fr t]/\S a=some (dS (dG c) e)/\Cv 28 900 6 c/\Sz 100 t/\∀ S' p ep g,cn S S'->S p=none->dF (λk=>gR c k*t) g->Cv 28 1000 6 g->S' p=some (dS (dG g) ep)->k (.ref p) S'
theorem f_:ar ["curve","by","grown","key","fraction"] ["curve","by"] (aj jN):=dP
theorem sV (Fn:FN K "curve_grown" jN f fd) (aI:aN P w K mg base "times" 3 ft) (aE:aN P w K mg base "without_noughts" 1 b9):
  aL P w K mg base cN 4 f fd ["curve","by"] (cX K jD):=by
 refine Fn.okJ f_ (λds S k h=>?_) (λcdv A outer s H E hr=>⟨_,(af (ah (i:=2) f_.nd kc) (af (dE PassesOwn.never rfl (fm (ai 0)) (eC (n:=2) rfl (aH (aB (i:=3) f_.nd) (aH (aB (i:=4) f_.nd) cW))) (ag (dU (dq aI hr (aw 4 (aw 1 ac))) (jj hr (ai 2) (ai 3))))) (ag (am (dq aE hr (aw 2 ac)))))),λds S k h=>?_⟩)
 ·obtain⟨_,_,_,_,rfl,_⟩:=h
  rfl
 ·obtain⟨a,c,e,t,rfl,ha,hc,ht,w⟩:=h;refine λp hp e0=>⟨_,_,bO hp ha,?_⟩
  have nap:a≠p:=jR ha hp;refine df (λr L S'=>∃ (don av f:Zr) (e3:Nat) (l3 l4:Ri D),c=don++av/\r=fB (dG av)/\L=[some (.ref a),some (fr t),some (.ref p),l3,l4]/\cn S S'/\S' a=some (dS (dG c) e)/\S' p=some (dS (dG f) e3)/\Cv don.length 1000 6 f/\∀ k,gR f k=gR don k*t) (λr L S' z9=>by obtain⟨_,_,_,_,_,_,_,_,_,_,h,_⟩:=z9; exact h) ?_ ?_ _ _ _ ⟨[],c,[],e0,none,none,rfl,rfl,rfl,cn.new hp,bO hp ha,aq,Cv.nil,λk=>(Rat.zero_mul _).symm⟩
  ·rintro d r L S1 N1 ⟨don,av,f,e3,l3,l4,ec,er,rfl,x1,a1,p1,hf,hg⟩ hN;cases av with
   | nil=>cases er
   | cons q av=>
    cases er;have mq:q∈c:=by rw [ec]; simp
    have nq:=mH (p:=q) (ec▸hc.nd);have hd:don.length < 28:=by have:=congrArg List.length ec; rw [Ql,Qf] at this; have:=hc.hl; omega
    have sq:=hc.hz q mq;obtain⟨i,j,ek,i0,j0,i1,j1⟩:=hc.sm q mq;obtain⟨f',ef,hf',gf⟩:=hf.put (i:=i) (j:=j) (x:=q.2*t) i0 j0 i1 j1 (sq.mul ht);rw [<- ek] at ef gf
    refine⟨([gH q.1,fr q.2],none),rfl,rfl,rfl,q.2,t,rfl,sq.mono (by decide),ht.mono (by decide),_,_,q.1,p1,rfl,by rw [eF]; exact lim (by have:=hf.hl; omega),λe4=>hN _ _ ⟨don++[q],av,f',e4,_,_,by rw [ec]; simp,rfl,rfl,x1.put hp,by rw [bV nap]; exact a1,by rw [aq,ef],by rw [Ql]; exact hf',λk=>?_⟩⟩
    rw [gf k,show gR (don++[q]) k=_ from A1 nq k]
    by_cases e:k=q.1
    ·rw [if_pos e,if_pos e]
    ·rw [if_neg e,if_neg e];exact hg k
  ·rintro L S1 ⟨don,av,f,e3,l3,l4,ec,er,rfl,x1,a1,p1,hf,hg⟩;cases av with
   | cons q av=>cases er
   | nil=>
    rw [Qn] at ec;subst ec;have l1:=hf.hl;have l2:=hc.hl;have cz:Cv 28 1000 6 (nz f):=⟨dj hf.nd,QF I0 (by omega),λp hp=>hf.sm p (fw.mp hp).1,λp hp=>hf.hz p (fw.mp hp).1⟩
    exact⟨p,f,e3,rfl,p1,hf.nd,by omega,λS2 q e2 x2 hq h2=>w S2 q e2 (nz f) (x1.trans x2) (x1.none hq) (dF.of hf hg) cz h2⟩
def jO:ce:=λds S k=>∃ (a b:Rh) (c c':Zr) (e e':Nat),ds=[.ref a,.ref b]/\S a=some (dS (dG c) e)/\S b=some (dS (dG c') e')/\Cv 28 900 6 c/\Cv 28 800 6 c'/\∀ S' p ep g,cn S S'->S p=none->dF (λk=>gR c k - gR c' k) g->S' p=some (dS (dG g) ep)->k (.ref p) S'
theorem sJ:ar ["one","other"] ["one","other"] (aj jS):=dP
theorem tW (Fn:FN K "curve_minus" jS f fd) (eQ:aN P w K mg base "curve_plus" 4 kJ) (dZ:aN P w K mg base "curve_grown" 4 jD) (aA:aN P w K mg base "negative" 1 cH) (iW:qv K mg "ONE" [1,1]):
  aL P w K mg base cN 5 f fd ["one","other"] (cX K jO):=by
 refine Fn.okJ sJ (λds S k h=>?_) (λcdv A outer s H E hr=>⟨_,(ag (am (dq eQ hr (aw 0 (aa (dq dZ hr (aw 1 (aa (dq aA hr (aa (fx iW rfl) ac)) ac))) ac))))),λds S k h=>?_⟩)
 ·obtain⟨_,_,_,_,_,_,rfl,_⟩:=h
  rfl
 ·obtain⟨a,b,c,c',e,e',rfl,ha,hb,hc,hc',w⟩:=h;refine⟨1,rfl,b,c',e',-1,rfl,hb,hc'.mono (by decide) (by decide) (by decide),⟨by decide,by decide⟩,λS1 p1 e1 g1 x1 n1 r1 v1 h1=>⟨a,p1,c,g1,e,e1,rfl,x1 _ _ ha,h1,hc,v1.of_gR λk=>?_,λS2 p2 e2 g2 x2 n2 r2 h2=>w S2 p2 e2 g2 (x1.trans x2) (x1.none n2) ?_ h2⟩⟩
  ·rw [r1.at_ k];exact((hc'.sz (by decide) k).mul (show Sz 1 (-1:Rat) from⟨by decide,by decide⟩)).mono (by decide)
  refine⟨r2.nd,r2.two,r2.n0,λk=>?_⟩
  rw [r2.at_ k,r1.at_ k];grind
def jq:ce:=λds S k=>∃ (a b:Rh) (t t':Zi) (e e':Nat),ds=[.ref a,.ref b]/\S a=some (dS (rK t) e)/\S b=some (dS (rK t') e')/\(∃ b b':Int,b+b'<=6/\Ci b t/\Ci b' t')/\t.length<=10/\t'.length<=10/\(∀ p∈t,Bt 500 p.2)/\(∀ p∈t',Bt 500 p.2)/\∀ S' p ep g,cn S S'->S p=none->Ci 6 g->g.length<=100->(∀ k,gI g k=eV t t' k)->S' p=some (dS (rK g) ep)->k (.ref p) S'
theorem bC:ar ["one","other","sums","mine","top","theirs","other_top","key"] ["one","other"] (aj gw):=dP
theorem nL (Fn:FN K "product_of_tops" gw f fd):
  aL P w K mg base cN 1 f fd ["one","other"] (cX K jq):=by
 refine Fn.okJ bC (λds S k h=>?_) (λcdv A outer s H E hr=>⟨_,(af (ah (i:=2) bC.nd kc) (af (dE PassesOwn.never rfl (fm (ai 0)) (eC (n:=2) rfl (aH (aB (i:=3) bC.nd) (aH (aB (i:=4) bC.nd) cW))) (ag (dE PassesOwn.never rfl (fm (ai 1)) (eC (n:=2) rfl (aH (aB (i:=5) bC.nd) (aH (aB (i:=6) bC.nd) cW))) (af (ah (i:=7) bC.nd (au (aa (az eO (aJ 3) (aJ 5)) (aa (az eO (aJ 3) (aJ 5)) ac)))) (ag (dU (az eO (Ay hr (ai 2) (ai 7) ak) (az bT (ai 4) (ai 6))) (jj hr (ai 2) (ai 7)))))))) (ag (am (ai 2))))),λds S k h=>?_⟩)
 ·obtain⟨_,_,_,_,_,_,rfl,_⟩:=h
  rfl
 ·obtain⟨a,b,t,t',e,e',rfl,ha,hb,⟨ib,ib',hbb,ht,ht'⟩,hl,hl',bt,bt',w⟩:=h;refine λp hp e0=>⟨_,_,bO hp ha,?_⟩
  have nap:a≠p:=jR ha hp;have nbp:b≠p:=jR hb hp;refine df (λr L S'=>∃ (don av g:Zi) (e1:Nat) (l3 l4 l5 l6 l7:Ri D),t=don++av/\r=fB (rK av)/\L=[some (.ref a),some (.ref b),some (.ref p),l3,l4,l5,l6,l7]/\cn S S'/\S' a=some (dS (rK t) e)/\S' b=some (dS (rK t') e')/\S' p=some (dS (rK g) e1)/\Ci 6 g/\g.length<=10*don.length/\∀ k,gI g k=eV don t' k) (λr L S' z9=>by obtain⟨_,_,_,_,_,_,_,_,_,_,_,_,_,h,_⟩:=z9; exact h) ?_ ?_ _ _ _ ⟨[],t,[],e0,none,none,none,none,none,rfl,rfl,rfl,cn.new hp,bO hp ha,bO hp hb,aq,⟨List.nodup_nil,λp h=>(nomatch h)⟩,by decide,λk=>rfl⟩
  ·rintro d r L S1 N1 ⟨don,av,g,e1,l3,l4,l5,l6,l7,ec,er,rfl,x1,a1,b1,p1,hg,gl,gf⟩ hN;cases av with
   | nil=>cases er
   | cons q av=>
    cases er;have mq:q∈t:=by rw [ec]; simp
    have hd:don.length < 10:=by have:=congrArg List.length ec; rw [Ql,Qf] at this; omega
    obtain⟨i,j,ek,i0,j0,i1,j1⟩:=ht.sm q mq;refine⟨([gH q.1,.int q.2],none),rfl,rfl,rfl,_,_,b1,?_⟩;refine df (λr L S'=>∃ (don2 rest2 g:Zi) (e1:Nat) (l5 l6 l7:Ri D),t'=don2++rest2/\r=fB (rK rest2)/\L=[some (.ref a),some (.ref b),some (.ref p),some (gH q.1),some (.int q.2),l5,l6,l7]/\cn S S'/\S' a=some (dS (rK t) e)/\S' b=some (dS (rK t') e')/\S' p=some (dS (rK g) e1)/\Ci 6 g/\g.length<=10*don.length+don2.length/\∀ k,gI g k=dA q don2 k (eV don t' k)) (λr L S' z9=>by obtain⟨_,_,_,_,_,_,_,_,_,_,_,_,h,_⟩:=z9; exact h) ?_ ?_ _ _ _ ⟨[],t',g,e1,_,_,_,rfl,rfl,rfl,x1,a1,b1,p1,hg,by simpa using gl,gf⟩
    ·rintro d r L S2 N2 ⟨don2,rest2,g2,e2,m5,m6,m7,ec2,er2,rfl,x2,a2,b2,p2,hg2,gl2,gf2⟩ hN2;cases rest2 with
     | nil=>cases er2
     | cons q2 rest2=>
      cases er2;have mq2:q2∈t':=by rw [ec2]; simp
      have hd2:don2.length < 10:=by have:=congrArg List.length ec2; rw [Ql,Qf] at this; omega
      obtain⟨i',j',ek2,i0',j0',i1',j1'⟩:=ht'.sm q2 mq2;have G:(fy (rK g2) [i+i',j+j']).getD (D.int 0)=D.int (gI g2 [i+i',j+j']):=Av (f:=D.int) (z:=0);obtain⟨g3,eg3,hg3,gl3,gf3⟩:=hg2.put (i:=i+i') (j:=j+j') (x:=gI g2 [i+i',j+j']+q.2*q2.2) (by omega) (by omega) (by omega) (by omega)
      refine⟨([gH q2.1,.int q2.2],none),rfl,rfl,rfl,?_⟩;have fin:∀ e4:Nat,N2 [some (.ref a),some (.ref b),some (.ref p),some (gH q.1),some (.int q.2),some (gH q2.1),some (.int q2.2),some (.tup [.int (i+i'),.int (j+j')])] (put S2 p (dS (ml (rK g2) [i+i',j+j'] (.int (gI g2 [i+i',j+j']+q.2*q2.2))) e4)):=λe4=>hN2 _ _ ⟨don2++[q2],rest2,g3,e4,_,_,_,by rw [ec2]; simp,rfl,rfl,x2.put hp,by rw [bV nap]; exact a2,by rw [bV nbp]; exact b2,by rw [aq,eg3],hg3,by rw [Ql]; simp; omega,λk=>by
       rw [gf3 k,Cz,<- gf2 k];unfold lv;rw [ek,ek2]
       show _=gI g2 k+(if [i+i',j+j']=k then q.2*q2.2 else 0)
       by_cases e:k=[i+i',j+j']
       ·rw [if_pos e,if_pos e.symm,e]
       ·rw [if_neg e,if_neg (Ne.symm e),Int.add_zero]⟩
      rw [ek,ek2] at fin ⊢;refine⟨few,⟨_,_,p2⟩,_,_,[i+i',j+j'],p2,rfl,kZ (bt q mq) (bt' q2 mq2),?_⟩;rw [G];exact⟨_,_,[i+i',j+j'],p2,rfl,by rw [eF]; exact lim (by omega),fin⟩
    ·rintro L S2 ⟨don2,rest2,g2,e2,m5,m6,m7,ec2,er2,rfl,x2,a2,b2,p2,hg2,gl2,gf2⟩;cases rest2 with
     | cons q2 rest2=>cases er2
     | nil=>
      rw [Qn] at ec2;subst ec2;exact hN _ _ ⟨don++[q],av,g2,e2,_,_,_,_,_,by rw [ec]; simp,rfl,rfl,x2,a2,b2,p2,hg2,by rw [Ql]; simp; omega,λk=>by rw [BD]; exact gf2 k⟩
  ·rintro L S1 ⟨don,av,g,e1,l3,l4,l5,l6,l7,ec,er,rfl,x1,a1,b1,p1,hg,gl,gf⟩;cases av with
   | cons q av=>cases er
   | nil=>
    rw [Qn] at ec;subst ec;exact w S1 p e1 g x1 hp hg (by omega) gf p1
theorem A7 {c:Zr}:(iw fr c).map (·.2)=(c.map (·.2)).map fr:=by unfold iw; rw [QH,QH]; rfl
theorem Dy {M B:Int} {T:Nat} {q:Rat} (b0:B≠0) (dv:M ∣ B) (e:((cJ M q:Int):Rat)=(M:Int)*q) (h:∃ t:Int,Bt T t/\(B:Rat)*q=t):Bt T (cJ M q):=by
 obtain⟨t,bt,et⟩:=h;obtain⟨m,rfl⟩:=dv;have e2:t=cJ M q*m:=by
  refine QL.mp ?_;rw [<- et,P2,P2,e];grind
 by_cases z:t=0
 ·rw [z] at e2;rcases Int.mul_eq_zero.mp e2.symm with y | y
  ·rw [y];exact HM.Bt.zero
  ·exact absurd (by rw [y,Int.mul_zero]) b0
 ·exact kP ⟨m,e2⟩ z bt
def gW:ce:=λds S k=>∃ (a b:Rh) (c c':Zr) (e e':Nat) (B B':Int),ds=[.ref a,.ref b]/\S a=some (dS (dG c) e)/\S b=some (dS (dG c') e')/\(∃ b b':Int,b+b'<=6/\Cv 10 900 b c/\Cv 10 900 b' c')/\0 < B/\0 < B'/\Bt 300 B/\Bt 300 B'/\Dn B 500 c/\Dn B' 500 c'/\∀ S' p ep g,cn S S'->S p=none->dF (λk=>eV c c' k) g->S' p=some (dS (dG g) ep)->k (.ref p) S'
theorem dz:ar ["one","other","mine","theirs","told","key","top"] ["one","other"] (aj jG):=dP
theorem sR (Fn:FN K "curve_times" jG f fd) (a_:aN P w K mg base "common_bottom" 3 fv) (fR:aN P w K mg base "product_of_tops" 1 jq) (cw:aN P w K mg base "tops_over" 1 jk) (dO:aN P w K mg base "ratio" 2 iI) (aE:aN P w K mg base "without_noughts" 1 b9) (jA:mg "list"=none):
  aL P w K mg base cN 4 f fd ["one","other"] (cX K gW):=by
 refine Fn.okJ dz (λds S k h=>?_) (λcdv A outer s H E hr=>⟨_,(af (ah (i:=2) dz.nd (dq a_ hr (aa (pB rfl rfl jA (ai 0)) ac))) (af (ah (i:=3) dz.nd (dq a_ hr (aa (pB rfl rfl jA (ai 1)) ac))) (af (ah (i:=4) dz.nd kc) (af (dE PassesOwn.never rfl (fm (dq fR hr (aa (dq cw hr (aw 0 (aw 2 ac))) (aa (dq cw hr (aw 1 (aw 3 ac))) ac)))) (eC (n:=2) rfl (aH (aB (i:=5) dz.nd) (aH (aB (i:=6) dz.nd) cW))) (ag (dU (dq dO hr (aw 6 (aa (az bT (ai 2) (ai 3)) ac))) (jj hr (ai 4) (ai 5))))) (ag (am (dq aE hr (aw 4 ac)))))))),λds S k h=>?_⟩)
 ·obtain⟨_,_,_,_,_,_,_,_,rfl,_⟩:=h
  rfl
 ·obtain⟨a,b,c,c',e,e',B1,B2,rfl,ha,hb,⟨ib,ib',hbb,hc,hc'⟩,B1p,B2p,bB1,bB2,hD,hD',w⟩:=h;have l1:=hc.hl;have l2:=hc'.hl;have M0:0 < oj 1 (c.map (·.2)):=po (by decide)
  have T0:0 < oj 1 (c'.map (·.2)):=po (by decide)
  have dvM:oj 1 (c.map (·.2)) ∣ B1:=rX (Int.one_dvd _) (hD.dv (by omega))
  have dvT:oj 1 (c'.map (·.2)) ∣ B2:=rX (Int.one_dvd _) (hD'.dv (by omega))
  have bM':Bt 300 (oj 1 (c.map (·.2))):=kP dvM (by omega) bB1
  have bT':Bt 300 (oj 1 (c'.map (·.2))):=kP dvT (by omega) bB2
  have dM:=(pA (qs:=c.map (·.2)) (m:=1)).2;have dT:=(pA (qs:=c'.map (·.2)) (m:=1)).2;refine⟨_,_,ha,λq hq=>?_⟩
  have x1:cn S (put S q (.lst ((iw fr c).map (·.2)))):=cn.new hq;have y1:put S q (.lst ((iw fr c).map (·.2))) q=some (.lst ((c.map (·.2)).map fr)):=by rw [aq,A7]
  generalize put S q (.lst ((iw fr c).map (·.2)))=S1 at x1 y1
  refine⟨q,_,B1,rfl,y1,B1p,bB1.mono (by decide),hD.dv (by omega),?_⟩
  refine⟨_,_,x1 _ _ hb,λq' hq'=>?_⟩
  have x2:cn S (put S1 q' (.lst ((iw fr c').map (·.2)))):=x1.trans (cn.new hq');have y2:put S1 q' (.lst ((iw fr c').map (·.2))) q'=some (.lst ((c'.map (·.2)).map fr)):=by rw [aq,A7]
  generalize put S1 q' (.lst ((iw fr c').map (·.2)))=S2 at x2 y2
  refine⟨q',_,B2,rfl,y2,B2p,bB2.mono (by decide),hD'.dv (by omega),?_⟩
  have tM:∀ p∈c,((cJ (oj 1 (c.map (·.2))) p.2:Int):Rat)=(oj 1 (c.map (·.2)):Int)*p.2:=λp hp=>kK (dM p.2 (P5.mpr ⟨p,hp,rfl⟩))
  have tT:∀ p∈c',((cJ (oj 1 (c'.map (·.2))) p.2:Int):Rat)=(oj 1 (c'.map (·.2)):Int)*p.2:=λp hp=>kK (dT p.2 (P5.mpr ⟨p,hp,rfl⟩))
  have cbM:∀ p∈c,Bt 500 (cJ (oj 1 (c.map (·.2))) p.2):=λp hp=>Dy (by omega) dvM (tM p hp) (hD p hp)
  have cbT:∀ p∈c',Bt 500 (cJ (oj 1 (c'.map (·.2))) p.2):=λp hp=>Dy (by omega) dvT (tT p hp) (hD' p hp)
  clear dvM dvT;generalize oj 1 (c.map (·.2))=M at M0 bM' dM tM cbM ⊢
  generalize oj 1 (c'.map (·.2))=T at T0 bT' dT tT cbT ⊢
  intro p hp e0;have x3:cn S (put S2 p (dS [] e0)):=x2.trans (cn.new hp);have y3:put S2 p (dS [] e0) p=some (dS [] e0):=aq;have Sp:=x2.none hp;generalize put S2 p (dS [] e0)=S3 at x3 y3 ⊢
  have ci:∀ {c:Zr} {B b:Int},Cv 10 900 b c->Ci b (c.map λx=>(x.1,cJ B x.2)):=λhc=>⟨by rw [QH]; exact hc.nd,λp hp=>by
   obtain⟨x,hx,rfl⟩:=P5.mp hp;exact hc.sm x hx⟩
  have cb:∀ {c:Zr} {B:Int},(∀ p∈c,Bt 500 (cJ B p.2))->∀ p∈c.map λx=>(x.1,cJ B x.2),Bt 500 p.2:=λh p hp=>by
   obtain⟨x,hx,rfl⟩:=P5.mp hp;exact h x hx
  refine⟨a,c,e,M,rfl,x3 _ _ ha,hc.nd,by omega,λp hp=>(hc.hz p hp).mono (by decide),bM'.mono (by decide),λS4 p4 e4 x4 h4=>⟨b,c',e',T,rfl,x4 _ _ (x3 _ _ hb),hc'.nd,by omega,λp hp=>(hc'.hz p hp).mono (by decide),bT'.mono (by decide),λS5 p5 e5 x5 h5=>?_⟩⟩
  refine⟨p4,p5,_,_,e4,e5,rfl,x5 _ _ h4,h5,⟨ib,ib',hbb,ci hc,ci hc'⟩,by rw [P6]; omega,by rw [P6]; omega,cb cbM,cb cbT,λS6 p6 e6 g x6 n6 hg gl gf h6=>?_⟩
  have y6:=x6 _ _ (x5 _ _ (x4 _ _ y3));have X6:=((x3.trans x4).trans x5).trans x6;have gm:∀ k,((gI g k:Int):Rat)=M*T*eV c c' k:=λk=>by
   rw [gf k];exact xX tT tM (s:=0) (z:=0) (by show(0:Rat)=_; grind)
  have B0:M*T≠0:=Int.mul_ne_zero (by omega) (by omega)
  have np6:p6≠p:=λz=>by rw [z] at n6; rw [x5 _ _ (x4 _ _ y3)] at n6; cases n6
  have gk:∀ l:Zi,(l.map λq=>(q.1,Rat.divInt q.2 (M*T))).map (·.1)=l.map (·.1):=λl=>by rw [QH]; rfl
  refine⟨_,_,h6,?_⟩;refine df (λr L S'=>∃ (don av:Zi) (e3:Nat) (l5 l6:Ri D),g=don++av/\r=fB (rK av)/\L=[some (.ref a),some (.ref b),some (.int M),some (.int T),some (.ref p),l5,l6]/\cn S S'/\S' p6=some (dS (rK g) e6)/\S' p=some (dS (dG (don.map λq=>(q.1,Rat.divInt q.2 (M*T)))) e3)) (λr L S' z9=>by obtain⟨_,_,_,_,_,_,_,_,_,h,_⟩:=z9; exact h) ?_ ?_ _ _ _ ⟨[],g,e0,none,none,rfl,rfl,rfl,X6,h6,y6⟩
  ·rintro d r L S7 N1 ⟨don,av,e3,l5,l6,ec,er,rfl,x7,g7,p7⟩ hN;cases av with
   | nil=>cases er
   | cons q av=>
    cases er;have nq:=mH (p:=q) (ec▸hg.nd);have hd:don.length < 100:=by have:=congrArg List.length ec; rw [Ql,Qf] at this; omega
    refine⟨([gH q.1,.int q.2],none),rfl,rfl,rfl,kZ bM' bT',B0,(bM'.mul bT').mono (by decide),_,_,q.1,p7,rfl,by rw [eF,P6]; exact lim (by omega),λe8=>hN _ _ ⟨don++[q],av,e8,_,_,by rw [ec]; simp,rfl,rfl,x7.put Sp,by rw [bV np6]; exact g7,?_⟩⟩
    rw [aq,g9 (f:=fr) (l:=don.map λq=>(q.1,Rat.divInt q.2 (M*T))) (k:=q.1) (x:=Rat.divInt q.2 (M*T)) (by rw [gk]; exact nq)]
    simp
  ·rintro L S7 ⟨don,av,e3,l5,l6,ec,er,rfl,x7,g7,p7⟩;cases av with
   | cons q av=>cases er
   | nil=>
    rw [Qn] at ec;subst ec;have nd:((g.map λq=>(q.1,Rat.divInt q.2 (M*T))).map (·.1)).Nodup:=by rw [gk]; exact hg.nd
    refine⟨p,_,e3,rfl,p7,nd,by rw [P6]; omega,λS8 q8 e8 x8 n8 h8=>w S8 q8 e8 _ (x7.trans x8) (x7.none n8) ⟨dj nd,λp hp=>?_,λp hp=>(fw.mp hp).2,λk=>?_⟩ h8⟩
    ·obtain⟨x,hx,rfl⟩:=P5.mp (fw.mp hp).1;obtain⟨i,j,e,_⟩:=hg.sm x hx;exact⟨i,j,e⟩
    ·rw [yG nd];have z0:Rat.divInt 0 (M*T)=0:=Rat.zero_divInt _;have e1:=Ft (φ:=λn:Int=>Rat.divInt n (M*T)) (z:=0) (k:=k) (c:=g)
     rw [z0] at e1;refine e1.trans ?_
     show Rat.divInt (gI g k) (M*T)=_
     have b0:((M*T:Int):Rat)≠0:=λz=>B0 (QL.mp (by rw [z]; rfl))
     rw [QB,gm k];rw [P2] at b0 ⊢;grind
set_option maxHeartbeats 4000000
structure Ok (d:Nat) (M:Int) (φ:List Int->Rat) (c:Zr):Prop where
 res:dF φ c
 wf:Wf d M 390 φ
 d3:d<=3
 M0:0 < M
 bM:Bt 200 M
theorem Mk:∀ d:Nat,d<=3->(sQ d).length<=10:=by
 intro d h
 match d,h with
 | 0,_=>decide
 | 1,_=>decide
 | 2,_=>decide
 | 3,_=>decide
theorem Oh:∀ d:Nat,d<=6->(sQ d).length<=28:=by
 intro d h
 match d,h with
 | 0,_=>decide
 | 1,_=>decide
 | 2,_=>decide
 | 3,_=>decide
 | 4,_=>decide
 | 5,_=>decide
 | 6,_=>decide
theorem Ok.len {d:Nat} {M:Int} {φ:List Int->Rat} {c:Zr} (h:Ok d M φ c):c.length<=10:=QF (h.res.len h.wf) (Mk d h.d3)
theorem Ok.cv {d:Nat} {M:Int} {φ:List Int->Rat} {c:Zr} (h:Ok d M φ c):Cv 10 900 3 c:=h.res.cv h.wf h.M0 (h.bM.mono (by decide)) (by decide) (Mk d h.d3) (by have:=h.d3; omega)
theorem Ok.dn {d:Nat} {M:Int} {φ:List Int->Rat} {c:Zr} (h:Ok d M φ c):Dn M 500 c:=(h.res.dn h.wf).mono (by decide)
theorem Ok.prod {d d':Nat} {M M':Int} {φ ψ:List Int->Rat} {c c' g:Zr} (h:Ok d M φ c) (h':Ok d' M' ψ c') (r:dF (λk=>eV c c' k) g):dF (bE φ ψ) g/\Cv 28 800 6 g:=by
 have r2:dF (bE φ ψ) g:=r.congr λk=>ja h.res h'.res k
 have w:=Wf.prod h.res h'.res h.wf h'.wf h.len h'.len;have d1:=h.d3;have d2:=h'.d3;exact⟨r2,r2.cv w (Int.mul_pos h.M0 h'.M0) ((h.bM.mul h'.bM).mono (by decide)) (by decide) (Oh _ (by omega)) (by omega)⟩
def fj:ce:=λds S k=>∃ (a1 a2 a3 a4:Rh) (c1 c2 c3 c4:Zr) (e1 e2 e3 e4:Nat) (φ1 φ2 φ3 φ4:List Int->Rat) (d1 d2 d3 d4:Nat) (M1 M2 M3 M4:Int),ds=[.ref a1,.ref a2,.ref a3,.ref a4]/\S a1=some (dS (dG c1) e1)/\S a2=some (dS (dG c2) e2)/\S a3=some (dS (dG c3) e3)/\S a4=some (dS (dG c4) e4)/\Ok d1 M1 φ1 c1/\Ok d2 M2 φ2 c2/\Ok d3 M3 φ3 c3/\Ok d4 M4 φ4 c4/\∀ S' p ep g,cn S S'->S p=none->dF (λk=>bE φ1 φ2 k - bE φ3 φ4 k) g->S' p=some (dS (dG g) ep)->k (.ref p) S'
theorem jh:ar ["one","other","third","fourth"] ["one","other","third","fourth"] (aj cY):=dP
theorem jg (Fn:FN K "difference_of_products" cY f fd) (d_:aN P w K mg base "curve_minus" 5 jO) (aU:aN P w K mg base "curve_times" 4 gW):
  aL P w K mg base cN 6 f fd ["one","other","third","fourth"] (cX K fj):=by
 refine Fn.okJ jh (λds S k h=>?_) (λcdv A outer s H E hr=>⟨_,(ag (am (dq d_ hr (aa (dq aU hr (aw 0 (aw 1 ac))) (aa (dq aU hr (aw 2 (aw 3 ac))) ac))))),λds S k h=>?_⟩)
 ·obtain⟨_,_,_,_,_,_,_,_,_,_,_,_,_,_,_,_,_,_,_,_,_,_,_,_,rfl,_⟩:=h
  rfl
 ·obtain⟨a1,a2,a3,a4,c1,c2,c3,c4,e1,e2,e3,e4,φ1,φ2,φ3,φ4,d1,d2,d3,d4,M1,M2,M3,M4,rfl,h1,h2,h3,h4,o1,o2,o3,o4,w⟩:=h;refine⟨a1,a2,c1,c2,e1,e2,M1,M2,rfl,h1,h2,⟨3,3,by decide,o1.cv,o2.cv⟩,o1.M0,o2.M0,o1.bM.mono (by decide),o2.bM.mono (by decide),o1.dn,o2.dn,λS1 p1 e5 g1 x1 n1 r1 h5=>?_⟩
  refine⟨a3,a4,c3,c4,e3,e4,M3,M4,rfl,x1 _ _ h3,x1 _ _ h4,⟨3,3,by decide,o3.cv,o4.cv⟩,o3.M0,o4.M0,o3.bM.mono (by decide),o4.bM.mono (by decide),o3.dn,o4.dn,λS2 p2 e6 g2 x2 n2 r2 h6=>?_⟩
  obtain⟨q1,v1⟩:=o1.prod o2 r1;obtain⟨q2,v2⟩:=o3.prod o4 r2;refine⟨p1,p2,g1,g2,e5,e6,rfl,x2 _ _ h5,h6,v1.mono (by decide) (by decide) (by decide),v2,λS3 p3 e7 g3 x3 n3 r3 h7=>w S3 p3 e7 g3 ((x1.trans x2).trans x3) ((x1.trans x2).none n3) (r3.congr λk=>?_) h7⟩
  rw [show gR g1 k=_ from q1.at_ k,show gR g2 k=_ from q2.at_ k]
def pg:ce:=λds S k=>∃ x y a b q s:Rat,ds=[W x y,W a b,fr q,fr s]/\Sz 30 x/\Sz 30 y/\Sz 8 a/\Sz 8 b/\Sz 31 q/\Sz 30 s/\∀ S' p1 p2 p3 e1 e2 e3,cn S S'->S' p1=some (dS (dG (nz (qX a b (-(x*a+y*b))))) e1)->S' p2=some (dS (dG (nz (qX (-b) a (-(x*-b+y*a))))) e2)->S' p3=some (dS (dG (nz (uN x y (s - (a*a+b*b)*q)))) e3)->k (.tup [.ref p1,.ref p2,.ref p3]) S'
theorem jE:ar ["place","way","coupler","square","by_x","by_y"] ["place","way","coupler","square"] (aj kh):=dP
theorem uB (Fn:FN K "rod_curves" kh f fd) (jo:aN P w K mg base "line_from" 5 qC) (aA:aN P w K mg base "negative" 1 cH) (jL:aN P w K mg base "round_about" 5 nF) (bJ:aN P w K mg base "minus" 3 jt) (aI:aN P w K mg base "times" 3 ft) (aD:aN P w K mg base "product_of_ways" 4 b8):
  aL P w K mg base cN 6 f fd ["place","way","coupler","square"] (cX K pg):=by
 refine Fn.okJ jE (λds S k h=>?_) (λcdv A outer s H E hr=>⟨_,(af (ah (i:=4) jE.nd (dq jo hr (aw 0 (aw 1 ac)))) (af (ah (i:=5) jE.nd (dq jo hr (aw 0 (aa (au (aa (dq aA hr (aa (aJ 1) ac)) (aa (aJ 1) ac))) ac)))) (ag (am (au (aw 4 (aw 5 (aa (dq jL hr (aw 0 (aa (dq bJ hr (aw 3 (aa (dq aI hr (aa (dq aD hr (aw 1 (aw 1 ac))) (aw 2 ac))) ac))) ac))) ac)))))))),λds S k h=>?_⟩)
 ·obtain⟨_,_,_,_,_,_,rfl,_⟩:=h
  rfl
 ·obtain⟨x,y,a,b,q,s,rfl,hx,hy,ha,hb,hq,hs,w⟩:=h;have sw:=(ha.mul ha).add (hb.mul hb);have st:=hs.sub (sw.mul hq);refine⟨x,y,a,b,rfl,hx.mono (by decide),hy.mono (by decide),ha.mono (by decide),hb.mono (by decide),λS1 p1 e1 x1 h1=>?_⟩
  refine⟨b,rfl,few,x,y,-b,a,rfl,hx.mono (by decide),hy.mono (by decide),hb.neg.mono (by decide),ha.mono (by decide),λS2 p2 e2 x2 h2=>?_⟩
  refine⟨a,b,a,b,rfl,ha.mono (by decide),hb.mono (by decide),ha.mono (by decide),hb.mono (by decide),_,q,rfl,sw.mono (by decide),hq.mono (by decide),s,_,rfl,hs.mono (by decide),(sw.mul hq).mono (by decide),x,y,_,rfl,hx.mono (by decide),hy.mono (by decide),st.mono (by decide),λS3 p3 e3 x3 h3=>⟨few,?_⟩⟩
  exact w S3 p1 p2 p3 e1 e2 e3 ((x1.trans x2).trans x3) (x3 _ _ (x2 _ _ h1)) (x3 _ _ h2) h3
set_option maxHeartbeats 4000000
theorem wz {a b r:Rat}:dF (gR (qX a b r)) (nz (qX a b r)):=⟨dj zA,λp hp=>Oe p (fw.mp hp).1,λp hp=>(fw.mp hp).2,yG zA⟩
theorem F0 {x y s:Rat}:dF (gR (uN x y s)) (nz (uN x y s)):=⟨dj sI,λp hp=>Op p (fw.mp hp).1,λp hp=>(fw.mp hp).2,yG sI⟩
structure Cp where
 ox:Rat
 oy:Rat
 px:Rat
 py:Rat
 cr:Rat
 s0:Rat
 s1:Rat
 al:Rat
 le:Rat
namespace Cp
def A (z:Cp):List Int->Rat:=gR (qX z.al z.le (-(z.ox*z.al+z.oy*z.le)))
def B (z:Cp):List Int->Rat:=gR (qX (-z.le) z.al (-(z.ox*-z.le+z.oy*z.al)))
def C (z:Cp):List Int->Rat:=gR (uN z.ox z.oy (z.cr*z.cr - (z.al*z.al+z.le*z.le)*z.s0))
def D (z:Cp):List Int->Rat:=gR (qX (z.al - 1) z.le (-(z.px*(z.al - 1)+z.py*z.le)))
def E (z:Cp):List Int->Rat:=gR (qX (-z.le) (z.al - 1) (-(z.px*-z.le+z.py*(z.al - 1))))
def F (z:Cp):List Int->Rat:=gR (uN z.px z.py (z.s1 - ((z.al - 1)*(z.al - 1)+z.le*z.le)*z.s0))
noncomputable def X (z:Cp):List Int->Rat:=λk=>bE z.C z.E k - bE z.F z.B k
noncomputable def Y (z:Cp):List Int->Rat:=λk=>bE z.A z.F k - bE z.D z.C k
noncomputable def V (z:Cp):List Int->Rat:=λk=>bE z.A z.E k - bE z.D z.B k
noncomputable def U (z:Cp):List Int->Rat:=λk=>(bE z.X z.X k+bE z.Y z.Y k) - bE z.V z.V k*(4*z.s0)
end Cp
structure dX (z:Cp) (M1 M2:Int):Prop where
 ox:Sz 30 z.ox
 oy:Sz 30 z.oy
 px:Sz 30 z.px
 py:Sz 30 z.py
 cr:Sz 10 z.cr
 s0:Sz 31 z.s0
 s1:Sz 30 z.s1
 al:Sz 5 z.al
 le:Sz 5 z.le
 p1:0 < M1
 p2:0 < M2
 b1:Bt 18 M1
 b2:Bt 72 M2
 wA:Wf 1 M1 60 z.A
 wB:Wf 1 M1 60 z.B
 wD:Wf 1 M1 60 z.D
 wE:Wf 1 M1 60 z.E
 wC:Wf 2 M2 160 z.C
 wF:Wf 2 M2 160 z.F
 hd:∃ m:Int,M2*M2=M1*M1*(z.s0.den:Int)*m/\Bt 100 m
theorem Wf.mono {d:Nat} {M:Int} {T T':Nat} {φ:List Int->Rat} (h:Wf d M T φ) (hT:T<=T'):Wf d M T' φ:=⟨h.dg,λk=>by
 obtain⟨t,bt,e⟩:=h.dn k;exact⟨t,bt.mono hT,e⟩⟩
theorem Wf.comm {d:Nat} {M M':Int} {T:Nat} {φ:List Int->Rat} (h:Wf d (M*M') T φ):Wf d (M'*M) T φ:=by rw [Int.mul_comm]; exact h
section
variable {z:Cp} {M1 M2:Int} (h:dX z M1 M2)
include h
theorem dX.okA:Ok 1 M1 z.A (nz (qX z.al z.le (-(z.ox*z.al+z.oy*z.le)))):=⟨wz,h.wA.mono (by decide),by decide,h.p1,h.b1.mono (by decide)⟩
theorem dX.okB:Ok 1 M1 z.B (nz (qX (-z.le) z.al (-(z.ox*-z.le+z.oy*z.al)))):=⟨wz,h.wB.mono (by decide),by decide,h.p1,h.b1.mono (by decide)⟩
theorem dX.okD:Ok 1 M1 z.D (nz (qX (z.al - 1) z.le (-(z.px*(z.al - 1)+z.py*z.le)))):=⟨wz,h.wD.mono (by decide),by decide,h.p1,h.b1.mono (by decide)⟩
theorem dX.okE:Ok 1 M1 z.E (nz (qX (-z.le) (z.al - 1) (-(z.px*-z.le+z.py*(z.al - 1))))):=⟨wz,h.wE.mono (by decide),by decide,h.p1,h.b1.mono (by decide)⟩
theorem dX.okC:Ok 2 M2 z.C (nz (uN z.ox z.oy (z.cr*z.cr - (z.al*z.al+z.le*z.le)*z.s0))):=⟨F0,h.wC.mono (by decide),by decide,h.p2,h.b2.mono (by decide)⟩
theorem dX.okF:Ok 2 M2 z.F (nz (uN z.px z.py (z.s1 - ((z.al - 1)*(z.al - 1)+z.le*z.le)*z.s0))):=⟨F0,h.wF.mono (by decide),by decide,h.p2,h.b2.mono (by decide)⟩
theorem dX.wX:Wf 3 (M2*M1) 228 z.X:=(Wf.prod h.okC.res h.okE.res h.wC h.wE h.okC.len h.okE.len).sub (Wf.prod h.okF.res h.okB.res h.wF h.wB h.okF.len h.okB.len)
theorem dX.wY:Wf 3 (M2*M1) 228 z.Y:=((Wf.prod h.okA.res h.okF.res h.wA h.wF h.okA.len h.okF.len).comm).sub ((Wf.prod h.okD.res h.okC.res h.wD h.wC h.okD.len h.okC.len).comm)
theorem dX.wV:Wf 2 (M1*M1) 128 z.V:=(Wf.prod h.okA.res h.okE.res h.wA h.wE h.okA.len h.okE.len).sub (Wf.prod h.okD.res h.okB.res h.wD h.wB h.okD.len h.okB.len)
theorem dX.okX {g:Zr} (r:dF z.X g):Ok 3 (M2*M1) z.X g:=⟨r,h.wX.mono (by decide),by decide,Int.mul_pos h.p2 h.p1,(h.b2.mul h.b1).mono (by decide)⟩
theorem dX.okY {g:Zr} (r:dF z.Y g):Ok 3 (M2*M1) z.Y g:=⟨r,h.wY.mono (by decide),by decide,Int.mul_pos h.p2 h.p1,(h.b2.mul h.b1).mono (by decide)⟩
theorem dX.okV {g:Zr} (r:dF z.V g):Ok 2 (M1*M1) z.V g:=⟨r,h.wV.mono (by decide),by decide,Int.mul_pos h.p1 h.p1,(h.b1.mul h.b1).mono (by decide)⟩
theorem dX.wS {gx gy:Zr} (rx:dF z.X gx) (ry:dF z.Y gy):Wf 6 (M2*M1*(M2*M1)) 464 λk=>bE z.X z.X k+bE z.Y z.Y k:=(Wf.prod rx rx h.wX h.wX (h.okX rx).len (h.okX rx).len).add (Wf.prod ry ry h.wY h.wY (h.okY ry).len (h.okY ry).len)
theorem dX.wG {gv:Zr} (rv:dF z.V gv):Wf 4 (M1*M1*(M1*M1)*(z.s0.den:Int)) 297 λk=>bE z.V z.V k*(4*z.s0):=by
 have e:((z.s0.den:Int):Rat)*(4*z.s0)=((4*z.s0.num:Int):Rat):=by
  have d:=bv z.s0;rw [P2,<- d];have:((4:Int):Rat)=4:=rfl;rw [this];grind
 exact(Wf.prod rv rv h.wV h.wV (h.okV rv).len (h.okV rv).len).mul e (((show Bt 3 4 by decide).mul h.s0.num))
theorem dX.wU {gx gy gv:Zr} (rx:dF z.X gx) (ry:dF z.Y gy) (rv:dF z.V gv):Wf 6 (M2*M1*(M2*M1)) 465 z.U:=by
 obtain⟨m,e,bm⟩:=h.hd;have e2:M2*M1*(M2*M1)=M1*M1*(M1*M1)*(z.s0.den:Int)*m:=by
  have:M2*M1*(M2*M1)=M2*M2*(M1*M1):=by grind
  rw [this,e];grind
 exact(h.wS rx ry).sub ((h.wG rv).up (d':=6) (T':=464) e2 bm (by decide) (by decide))
theorem dX.top {gx gy gv:Zr} (rx:dF z.X gx) (ry:dF z.Y gy) (rv:dF z.V gv):z.U [6,0]=1:=by
 have c1:z.C [2,0]=1:=rfl;have f1:z.F [2,0]=1:=rfl;have a1:z.A [1,0]=z.al:=rfl;have b1:z.B [1,0]=-z.le:=rfl;have d1:z.D [1,0]=z.al - 1:=rfl;have e1:z.E [1,0]=-z.le:=rfl;have X0:z.X [3,0]=0:=by
  have t1:=mQ h.okC.res h.okE.res h.wC h.wE;have t2:=mQ h.okF.res h.okB.res h.wF h.wB
  show bE z.C z.E [3,0] - bE z.F z.B [3,0]=0
  have t1:bE z.C z.E [3,0]=z.C [2,0]*z.E [1,0]:=t1;have t2:bE z.F z.B [3,0]=z.F [2,0]*z.B [1,0]:=t2;rw [t1,t2,c1,f1,e1,b1];grind
 have Y0:z.Y [3,0]=1:=by
  have t1:=mQ h.okA.res h.okF.res h.wA h.wF;have t2:=mQ h.okD.res h.okC.res h.wD h.wC
  show bE z.A z.F [3,0] - bE z.D z.C [3,0]=1
  have t1:bE z.A z.F [3,0]=z.A [1,0]*z.F [2,0]:=t1;have t2:bE z.D z.C [3,0]=z.D [1,0]*z.C [2,0]:=t2;rw [t1,t2,c1,f1,a1,d1];grind
 have V0:bE z.V z.V [6,0]=0:=Classical.byContradiction λn=>by
  obtain⟨i,j,e,i0,j0,ij⟩:=(Wf.prod rv rv h.wV h.wV (h.okV rv).len (h.okV rv).len).dg [6,0] n;cases e;omega
 have tx:bE z.X z.X [6,0]=z.X [3,0]*z.X [3,0]:=mQ rx rx h.wX h.wX;have ty:bE z.Y z.Y [6,0]=z.Y [3,0]*z.Y [3,0]:=mQ ry ry h.wY h.wY
 show(bE z.X z.X [6,0]+bE z.Y z.Y [6,0]) - bE z.V z.V [6,0]*(4*z.s0)=1
 rw [tx,ty,X0,Y0,V0];grind
end
def lr:ce:=λds S k=>∃ (z:Cp) (M1 M2:Int),ds=[W z.ox z.oy,W z.px z.py,fr z.cr,.tup [fr z.s0,fr z.s1],W z.al z.le]/\dX z M1 M2/\∀ S' p ep g ns,cn S S'->dF z.U g->yS g ns->S' p=some (dS (B8 ns) ep)->k (.ref p) S'
theorem bI:ar ["one","other","crank","squares","place","near","rest","far","x","y","by","total"] ["one","other","crank","squares","place"] (aj ie):=dP
theorem pK (Fn:FN K "coupler_curve" ie f fd) (iB:aN P w K mg base "rod_curves" 6 pg) (aI:aN P w K mg base "times" 3 ft) (bJ:aN P w K mg base "minus" 3 jt) (bu:aN P w K mg base "difference_of_products" 6 fj) (eQ:aN P w K mg base "curve_plus" 4 kJ) (aU:aN P w K mg base "curve_times" 4 gW) (jc:aN P w K mg base "normal" 4 tS) (d_:aN P w K mg base "curve_minus" 5 jO) (dZ:aN P w K mg base "curve_grown" 4 jD) (iW:qv K mg "ONE" [1,1]):
  aL P w K mg base cN 7 f fd ["one","other","crank","squares","place"] (cX K lr):=by
 refine Fn.okJ bI (λds S k h=>?_) (λcdv A outer s H E hr=>⟨_,(af (ah (i:=5) bI.nd (dq iB hr (aw 0 (aw 4 (aa (aJ 3) (aa (dq aI hr (aw 2 (aw 2 ac))) ac)))))) (af (ah (i:=6) bI.nd (au (aa (dq bJ hr (aa (aJ 4) (aa (fx iW rfl) ac))) (aa (aJ 4) ac)))) (af (ah (i:=7) bI.nd (dq iB hr (aw 1 (aw 6 (aa (aJ 3) (aa (aJ 3) ac)))))) (af (ah (i:=8) bI.nd (dq bu hr (aa (aJ 5) (aa (aJ 7) (aa (aJ 7) (aa (aJ 5) ac)))))) (af (ah (i:=9) bI.nd (dq bu hr (aa (aJ 5) (aa (aJ 7) (aa (aJ 7) (aa (aJ 5) ac)))))) (af (ah (i:=10) bI.nd (dq bu hr (aa (aJ 5) (aa (aJ 7) (aa (aJ 7) (aa (aJ 5) ac)))))) (af (ah (i:=11) bI.nd (dq eQ hr (aa (dq aU hr (aw 8 (aw 8 ac))) (aa (dq aU hr (aw 9 (aw 9 ac))) ac)))) (ag (am (dq jc hr (aa (dq d_ hr (aw 11 (aa (dq dZ hr (aa (dq aU hr (aw 10 (aw 10 ac))) (aa (dq aI hr (aa (au (aa ak (aa ak ac))) (aa (aJ 3) ac))) ac))) ac))) ac))))))))))),λds S k h=>?_⟩)
 ·obtain⟨_,_,_,rfl,_⟩:=h
  rfl
 ·obtain⟨z,M1,M2,rfl,h,w⟩:=h;have o1:Sz 1 (1:Rat):=⟨by decide,by decide⟩
  have sr:=h.al.sub o1;have s4:Sz 3 (4:Rat):=⟨by decide,by decide⟩
  refine⟨z.cr,z.cr,rfl,h.cr.mono (by decide),h.cr.mono (by decide),z.ox,z.oy,z.al,z.le,z.s0,z.cr*z.cr,rfl,h.ox,h.oy,h.al.mono (by decide),h.le.mono (by decide),h.s0,(h.cr.mul h.cr).mono (by decide),λS1 p1 p2 p3 e1 e2 e3 x1 h1 h2 h3=>?_⟩
  refine⟨z.al,1,rfl,h.al.mono (by decide),o1.mono (by decide),few,?_⟩
  refine⟨z.px,z.py,z.al - 1,z.le,z.s0,z.s1,rfl,h.px,h.py,sr.mono (by decide),h.le.mono (by decide),h.s0,h.s1,λS2 p4 p5 p6 e4 e5 e6 x2 h4 h5 h6=>?_⟩
  have h1:=x2 _ _ h1;have h2:=x2 _ _ h2;have h3:=x2 _ _ h3;refine⟨p3,p5,p6,p2,_,_,_,_,e3,e5,e6,e2,z.C,z.E,z.F,z.B,2,1,2,1,M2,M1,M2,M1,rfl,h3,h5,h6,h2,h.okC,h.okE,h.okF,h.okB,λS3 p7 e7 gx x3 n3 rx h7=>?_⟩
  refine⟨p1,p6,p4,p3,_,_,_,_,e1,e6,e4,e3,z.A,z.F,z.D,z.C,1,2,1,2,M1,M2,M1,M2,rfl,x3 _ _ h1,x3 _ _ h6,x3 _ _ h4,x3 _ _ h3,h.okA,h.okF,h.okD,h.okC,λS4 p8 e8 gy x4 n4 ry h8=>?_⟩
  have x34:=x3.trans x4;refine⟨p1,p5,p4,p2,_,_,_,_,e1,e5,e4,e2,z.A,z.E,z.D,z.B,1,1,1,1,M1,M1,M1,M1,rfl,x34 _ _ h1,x34 _ _ h5,x34 _ _ h4,x34 _ _ h2,h.okA,h.okE,h.okD,h.okB,λS5 p9 e9 gv x5 n5 rv h9=>?_⟩
  have h7:=x5 _ _ (x4 _ _ h7);have h8:=x5 _ _ h8;have X5:=(x1.trans x2).trans (x34.trans x5);have okX:=h.okX rx;have okY:=h.okY ry;have okV:=h.okV rv;clear h1 h2 h3 h4 h5 h6 x1 x2 x3 x4 x34 x5 n3 n4 n5;refine⟨p7,p7,gx,gx,e7,e7,M2*M1,M2*M1,rfl,h7,h7,⟨3,3,by decide,okX.cv,okX.cv⟩,okX.M0,okX.M0,okX.bM.mono (by decide),okX.bM.mono (by decide),okX.dn,okX.dn,λS6 q1 f1 g1 y1 m1 r1 k1=>?_⟩
  refine⟨p8,p8,gy,gy,e8,e8,M2*M1,M2*M1,rfl,y1 _ _ h8,y1 _ _ h8,⟨3,3,by decide,okY.cv,okY.cv⟩,okY.M0,okY.M0,okY.bM.mono (by decide),okY.bM.mono (by decide),okY.dn,okY.dn,λS7 q2 f2 g2 y2 m2 r2 k2=>?_⟩
  obtain⟨R1,V1⟩:=okX.prod okX r1;obtain⟨R2,V2⟩:=okY.prod okY r2;refine⟨q1,q2,g1,g2,f1,f2,rfl,y2 _ _ k1,k2,V1.mono (by decide) (by decide) (by decide),V2.mono (by decide) (by decide) (by decide),λS8 q3 f3 g3 y3 m3 r3 k3=>?_⟩
  have Y3:=(y1.trans y2).trans y3;have R3:dF (λk=>bE z.X z.X k+bE z.Y z.Y k) g3:=r3.congr λk=>by rw [show gR g1 k=_ from R1.at_ k,show gR g2 k=_ from R2.at_ k]
  have bNN:Bt 280 (M2*M1*(M2*M1)):=((h.b2.mul h.b1).mul (h.b2.mul h.b1)).mono (by decide)
  have NN0:0 < M2*M1*(M2*M1):=Int.mul_pos okX.M0 okX.M0;have V3:Cv 28 900 6 g3:=R3.cv (h.wS rx ry) NN0 (bNN.mono (by decide)) (by decide) (by decide) (by decide)
  refine⟨p9,p9,gv,gv,e9,e9,M1*M1,M1*M1,rfl,Y3 _ _ h9,Y3 _ _ h9,⟨3,3,by decide,okV.cv,okV.cv⟩,okV.M0,okV.M0,okV.bM.mono (by decide),okV.bM.mono (by decide),okV.dn,okV.dn,λS9 q4 f4 g4 y4 m4 r4 k4=>?_⟩
  obtain⟨R4,V4⟩:=okV.prod okV r4;refine⟨few,4,z.s0,rfl,s4.mono (by decide),h.s0.mono (by decide),q4,g4,f4,4*z.s0,rfl,k4,V4.mono (by decide) (by decide) (by decide),(s4.mul h.s0).mono (by decide),λSa q5 f5 g5 y5 m5 r5 v5 k5=>?_⟩
  have R5:dF (λk=>bE z.V z.V k*(4*z.s0)) g5:=r5.congr λk=>by rw [show gR g4 k=_ from R4.at_ k]
  have v5':Cv 28 800 6 g5:=v5.of_gR λk=>by
   rw [show gR g5 k=_ from R5.at_ k]
   have wv:=Wf.prod rv rv h.wV h.wV okV.len okV.len;exact((wv.sz (n:=300) (Int.mul_pos okV.M0 okV.M0) ((okV.bM.mul okV.bM).mono (n:=400) (by decide) |> λ_=>((h.b1.mul h.b1).mul (h.b1.mul h.b1)).mono (by decide)) (by decide) k).mul (s4.mul h.s0)).mono (by decide)
  refine⟨q3,q5,g3,g5,f3,f5,rfl,y5 _ _ (y4 _ _ k3),k5,V3,v5',λSb q6 f6 g6 y6 m6 r6 k6=>?_⟩
  have R6:dF z.U g6:=r6.congr λk=>by rw [show gR g3 k=_ from R3.at_ k,show gR g5 k=_ from R5.at_ k]; rfl
  have wU:=h.wU rx ry rv;have ne:g6≠[]:=λe=>by
   have:([6,0],(1:Rat))∈g6:=R6.mem.mpr ⟨by decide,h.top rx ry rv⟩
   rw [e] at this;cases this
  exact⟨q6,g6,f6,M2*M1*(M2*M1),rfl,k6,R6.nd,QF (R6.len wU) (by decide),ne,R6.two,R6.n0,NN0,bNN.mono (by decide),(R6.dn wU).mono (by decide),λSc q7 f7 ns y7 hn k7=>w Sc q7 f7 g6 ns ((((X5.trans Y3).trans y4).trans y5).trans (y6.trans y7)) R6 hn k7⟩
end My
namespace My
variable {P:Rk} {w:Rn} {K:Fg} {mg:Str->Ri Rg} {base:Ro} {f:Rh} {fd:FuncData}
open PySem PySem.Spec PyProof.Rows L2 DL HM
set_option maxHeartbeats 4000000
def fM (U:Int) (x y:Int×Int):Int×Int:=(x.1*y.1+x.2*y.2*U,x.1*y.2+x.2*y.1)
def jp (U:Int) (x:Int×Int):Nat->Int×Int
 | 0=>(1,0)
 | n+1=>fM U (jp U x n) x
def iD (x:Int×Int):D:=.tup [.int x.1,.int x.2]
structure B2 (n:Nat) (x:Int×Int):Prop where
 a:Bt n x.1
 b:Bt n x.2
theorem zm (U:Int) (x y z:Int×Int):fM U (fM U x y) z=fM U x (fM U y z):=by
 unfold fM;apply Qk <;> dsimp only <;> grind
theorem F5 (U:Int) (x:Int×Int):fM U x (1,0)=x:=by
 unfold fM;apply Qk <;> dsimp only <;> grind
theorem D8 (U:Int) (x:Int×Int):fM U (1,0) x=x:=by
 unfold fM;apply Qk <;> dsimp only <;> grind
theorem Hr (U:Int) (x:Int×Int):jp U x 1=x:=D8 U x
theorem wH (U:Int) (x:Int×Int) (m:Nat):∀ n,jp U x (m+n)=fM U (jp U x m) (jp U x n)
 | 0=>(F5 U _).symm
 | n+1=>by
  show fM U (jp U x (m+n)) x=fM U (jp U x m) (fM U (jp U x n) x)
  rw [wH U x m n,zm]
theorem ql (U b:Int):∀ n,jp U (b,0) n=(b ^ n,0)
 | 0=>by show((1:Int),(0:Int))=_; rw [Int.pow_zero]
 | n+1=>by
  show fM U (jp U (b,0) n) (b,0)=_
  rw [ql U b n,Int.pow_succ];unfold fM;apply Qk <;> dsimp only <;> grind
theorem B2.mono {m n:Nat} {x:Int×Int} (h:B2 m x) (hm:m<=n):B2 n x:=⟨h.a.mono hm,h.b.mono hm⟩
theorem B2.mul {m n k:Nat} {U:Int} {x y:Int×Int} (hx:B2 m x) (hy:B2 n y) (hU:Bt k U):B2 (m+n+k+1) (fM U x y):=
 ⟨((hx.a.mul hy.a).add ((hx.b.mul hy.b).mul hU)).mono (by omega),((hx.a.mul hy.b).add (hx.b.mul hy.a)).mono (by omega)⟩
theorem Kv:B2 1 ((1:Int),(0:Int)):=⟨by decide,by decide⟩
theorem B2.pw {n k:Nat} {U:Int} {x:Int×Int} (hx:B2 n x) (hU:Bt k U):∀ p,B2 (p*(n+k+1)+1) (jp U x p)
 | 0=>Kv.mono (by omega)
 | p+1=>((B2.pw hx hU p).mul hx hU).mono (by rw [Nat.add_mul]; omega)
def i5 (u:Rat) (x:Q):Nat->Q
 | 0=>(1,0)
 | n+1=>qm u (i5 u x n) x
def mon (u:Rat) (x y:Q) (k:List Int):Q:=qm u (i5 u x (k.getD 0 0).toNat) (i5 u y (k.getD 1 0).toNat)
def qk (t:Rat) (x:Q):Q:=(t*x.1,t*x.2)
def lT (u:Rat) (x y:Q) (c:Zr) (s:Q):Q:=c.foldl (λs p=>qa s (qk p.2 (mon u x y p.1))) s
def qc (x:Int×Int):Q:=((x.1:Rat),(x.2:Rat))
theorem Ae (U:Int) (x y:Int×Int):qc (fM U x y)=qm (U:Rat) (qc x) (qc y):=by
 unfold qc fM qm;apply Qk <;> dsimp only <;> simp only [Qj,P2]
theorem GA (u s t:Rat) (x y:Q):qm u (qk s x) (qk t y)=qk (s*t) (qm u x y):=by
 unfold qm qk;apply Qk <;> dsimp only <;> grind
theorem N3 (s t:Rat) (x:Q):qk s (qk t x)=qk (s*t) x:=by
 unfold qk;apply Qk <;> dsimp only <;> grind
theorem LR (t:Rat) (x y:Q):qk t (qa x y)=qa (qk t x) (qk t y):=by
 unfold qk qa;apply Qk <;> dsimp only <;> grind
theorem IY {U M:Int} {X:Int×Int} {x:Q} (h:qc X=qk (M:Rat) x):∀ n,qc (jp U X n)=qk ((M:Rat) ^ n) (i5 (U:Rat) x n)
 | 0=>by
  show(((1:Int):Rat),((0:Int):Rat))=qk ((M:Rat) ^ 0) (1,0)
  rw [Rat.pow_zero];unfold qk;apply Qk <;> dsimp only <;> grind
 | n+1=>by
  show qc (fM U (jp U X n) X)=qk _ (qm (U:Rat) (i5 (U:Rat) x n) x)
  rw [Ae,IY h n,h,GA,Rat.pow_succ]
theorem xE (x:Rat) (m:Nat):∀ n,x ^ (m+n)=x ^ m*x ^ n
 | 0=>by rw [Nat.add_zero,Rat.pow_zero,Rat.mul_one]
 | n+1=>by rw [<- Nat.add_assoc,Rat.pow_succ,Rat.pow_succ,xE x m n,Rat.mul_assoc]
theorem A5 {U M:Int} {X:Int×Int} {x:Q} (h:qc X=qk (M:Rat) x) {m n:Nat} (hn:n<=m):qc (fM U (jp U X n) (jp U (M,0) (m - n)))=qk ((M:Rat) ^ m) (i5 (U:Rat) x n):=by
 have e:qc (jp U (M,0) (m - n))=qk ((M:Rat) ^ (m - n)) (1,0):=by
  rw [ql];unfold qc qk;apply Qk <;> dsimp only
  ·rw [Rat.intCast_pow]; grind
  ·grind
 have e1:qm (U:Rat) (i5 (U:Rat) x n) (1,0)=i5 (U:Rat) x n:=by
  unfold qm;apply Qk <;> dsimp only <;> grind
 rw [Ae,IY h n,e,GA,e1,<- xE,show n+(m - n)=m by omega]
structure Rl (κ:Rat) (x x':Q):Prop where
 a:x'.1=x.1
 b:x.2=κ*x'.2
 z:κ=0->x'.2=0
theorem Rl.mul {κ u U:Rat} {x x' y y':Q} (hU:κ*κ*u=U) (h:Rl κ x x') (h':Rl κ y y'):Rl κ (qm u x y) (qm U x' y'):=by
 obtain⟨a1,b1,z1⟩:=h;obtain⟨a2,b2,z2⟩:=h';unfold qm;refine⟨?_,?_,λk0=>?_⟩
 ·show x'.1*y'.1+x'.2*y'.2*U=x.1*y.1+x.2*y.2*u
  rw [a1,a2,b1,b2,<- hU];grind
 ·show x.1*y.2+x.2*y.1=κ*(x'.1*y'.2+x'.2*y'.1)
  rw [a1,a2,b1,b2];grind
 ·show x'.1*y'.2+x'.2*y'.1=0
  rw [z1 k0,z2 k0];grind
theorem Rl.one {κ:Rat}:Rl κ (1,0) (1,0):=⟨rfl,(Rat.mul_zero κ).symm,λ_=>rfl⟩
theorem Rl.zero {κ:Rat}:Rl κ (0,0) (0,0):=⟨rfl,(Rat.mul_zero κ).symm,λ_=>rfl⟩
theorem Rl.pw {κ u U:Rat} {x x':Q} (hU:κ*κ*u=U) (h:Rl κ x x'):∀ n,Rl κ (i5 u x n) (i5 U x' n)
 | 0=>Rl.one
 | n+1=>(Rl.pw hU h n).mul hU h
theorem Rl.add {κ:Rat} {x x' y y':Q} (h:Rl κ x x') (h':Rl κ y y'):Rl κ (qa x y) (qa x' y'):=by
 obtain⟨a1,b1,z1⟩:=h;obtain⟨a2,b2,z2⟩:=h';unfold qa;refine⟨?_,?_,λk0=>?_⟩
 ·show x'.1+y'.1=x.1+y.1
  rw [a1,a2]
 ·show x.2+y.2=κ*(x'.2+y'.2)
  rw [b1,b2];grind
 ·show x'.2+y'.2=0
  rw [z1 k0,z2 k0];grind
theorem Rl.k {κ t:Rat} {x x':Q} (h:Rl κ x x'):Rl κ (qk t x) (qk t x'):=by
 obtain⟨a1,b1,z1⟩:=h;unfold qk;refine⟨?_,?_,λk0=>?_⟩
 ·show t*x'.1=t*x.1
  rw [a1]
 ·show t*x.2=κ*(t*x'.2)
  rw [b1];grind
 ·show t*x'.2=0
  rw [z1 k0];grind
theorem Rl.mon {κ u U:Rat} {x x' y y':Q} (hU:κ*κ*u=U) (h:Rl κ x x') (h':Rl κ y y') (k:List Int):Rl κ (mon u x y k) (mon U x' y' k):=(h.pw hU _).mul hU (h'.pw hU _)
theorem Rl.val {κ u U:Rat} {x x' y y':Q} (hU:κ*κ*u=U) (h:Rl κ x x') (h':Rl κ y y'):∀ (c:Zr) {s s':Q},Rl κ s s'->Rl κ (lT u x y c s) (lT U x' y' c s')
 | [],_,_,hs=>hs
 | p::c,s,s',hs=>Rl.val hU h h' c (hs.add ((h.mon hU h' p.1).k (t:=p.2)))
structure SO (κ:Rat) (n:Nat) (x:Q) (X:Int×Int) (M:Int):Prop where
 M0:0 < M
 bM:Bt n M
 bX:B2 n X
 rel:∃ x',Rl κ x x'/\qc X=qk (M:Rat) x'
theorem HB {β:Rat} {e u:Rat} (h:β=e*e*u):(ab e*(β.den:Int))*(ab e*(β.den:Int))*u=((β.num*(β.den:Int):Int):Rat):=by
 have d:=bv β;have s:=tY e;rw [P2,<- d];have:((β.den:Int):Rat)*β*((β.den:Int):Rat)=ab e*((β.den:Int):Rat)*(ab e*((β.den:Int):Rat))*u:=by
  rw [h];grind
 exact this.symm
theorem eq_int {n:Nat} {i j:Int}:qE n (.int i) (.int j)=some (i == j):=by cases n <;> rfl
theorem Df {n:Nat} {p q:Rat}:qE (n+1) (fr p) (fr q)=some (decide (p=q)):=by
 show l_ (qE n) [.int p.num,.int (p.den:Int)] [.int q.num,.int (q.den:Int)]=_
 show(match qE n (.int p.num) (.int q.num),(match qE n (.int (p.den:Int)) (.int (q.den:Int)),some true with | some a,some b=>some (a && b) | _,_=>none) with | some a,some b=>some (a && b) | _,_=>none)=_
 rw [eq_int,eq_int]
 show some ((p.num == q.num) && (((p.den:Int) == (q.den:Int)) && true))=_
 congr 1
 rw [Bool.and_true,Bool.eq_iff_iff];simp only [QG,beq_iff_eq,Q3];exact⟨λz9=>by obtain⟨a,b⟩:=z9; exact Rat.ext a (by exact_mod_cast b),λh=>by subst h; exact⟨rfl,rfl⟩⟩
theorem Ee {n:Nat} {a b c d:D} {p q:Rr} (h1:qE n a c=some p) (h2:qE n b d=some q):qE (n+1) (.tup [a,b]) (.tup [c,d])=some (p && q):=by
 show(match qE n a c,(match qE n b d,some true with | some a,some b=>some (a && b) | _,_=>none) with | some a,some b=>some (a && b) | _,_=>none)=_
 rw [h1,h2]
 show some (p && (q && true))=_
 rw [Bool.and_true]
set_option maxHeartbeats 4000000
theorem Ba {c:DT} {t e b2:DS} {M:oN} {L:Lo} {S:DH} (P:Lo->DH->Prop) (h2:∀ L S,P L S->b2 M L S) (h1:(∀ L S,P L S->b2 M L S)->JX c t e {M with nx:=b2 M} L S):ES (JX c t e) b2 M L S:=h1 h2
theorem Pg (u:Int):D.tup [.int u,.int 1]=fr (u:Rat):=by
 show _=D.tup [.int (u:Rat).num,.int ((u:Rat).den:Int)]
 rw [Rat.num_intCast,Rat.den_intCast]
 rfl
def iE:ce:=λds S k=>∃ (x y:Int×Int) (U:Int) (n:Nat),ds=[iD x,iD y,.int U]/\B2 n x/\B2 n y/\Bt n U/\n<=1000000/\k (iD (fM U x y)) S
theorem uC:ar ["one","other","base"] ["one","other","base"] (aj kU):=dP
theorem uH (Fn:FN K "surd_times" kU f fd):
  aL P w K mg base cN 1 f fd ["one","other","base"] (cX K iE):=by
 refine Fn.okJ uC (λds S k h=>?_) (λcdv A outer s H E hr=>⟨_,(ag (am (au (aa (az eO (az bT (aJ 0) (aJ 1)) (az bT (az bT (aJ 0) (aJ 1)) (ai 2))) (aa (az eO (az bT (aJ 0) (aJ 1)) (az bT (aJ 0) (aJ 1))) ac))))),λds S k h=>?_⟩)
 ·obtain⟨_,_,_,_,rfl,_⟩:=h
  rfl
 ·obtain⟨x,y,U,n,rfl,hx,hy,hU,hn,w⟩:=h;exact⟨kZ hx.a hy.a (by omega),kZ hx.b hy.b (by omega),kZ (hx.b.mul hy.b) hU (by omega),kZ hx.a hy.b (by omega),kZ hx.b hy.a (by omega),few,w⟩
def oP:ce:=λds S k=>∃ (x:Int×Int) (U:Int) (P:Nat) (n:Nat),ds=[iD x,.int P,.int U]/\B2 n x/\Bt n U/\n<=10000/\P<=12/\k (iD (jp U x P)) S
theorem fg:ar ["one","power","base","told"] ["one","power","base"] (aj kT):=dP
theorem uq (Fn:FN K "surd_power" kT f fd) (bZ:aN P w K mg base "surd_times" 1 iE):
  aL P w K mg base cN 2 f fd ["one","power","base"] (cX K oP):=by
 refine Fn.okJ fg (λds S k h=>?_) (λcdv A outer s H E hr=>⟨_,(af (ah (i:=3) fg.nd (au (aa ak (aa ak ac)))) (af (kL PassesOwn.never (aG Jp (ai 1) ak (aM _)) (af (aK (aG jV (az o0 (ai 1) ak) ak (aM _)) (ag (ah (i:=3) fg.nd (dq bZ hr (aw 3 (aw 0 (aw 2 ac)))))) aO) (af (ah (i:=1) fg.nd (az hG (ai 1) ak)) (ag (aK (aG Jp (ai 1) ak (aM _)) (ag (ah (i:=0) fg.nd (dq bZ hr (aw 0 (aw 0 (aw 2 ac)))))) aO))))) (ag (am (ai 3))))),λds S k h=>?_⟩)
 ·obtain⟨_,_,_,_,rfl,_⟩:=h
  rfl
 ·obtain⟨x,U,P,n,rfl,hx,hU,hn,hP,w⟩:=h;refine⟨few,λm L S'=>S'=S/\∃ p q:Nat,L=[some (iD (jp U x q)),some (.int (m:Nat)),some (.int U),some (iD (jp U x p))]/\p+q*m=P/\1<=q,⟨P,rfl,0,1,by rw [Hr]; rfl,by omega,by decide⟩,?_⟩
  rintro m L S' ⟨rfl,p,q,rfl,hpq,q1⟩;have bd:∀ t,t<=12->B2 300000 (jp U x t):=λt ht=>(hx.pw hU t).mono (by
   have:t*(n+n+1)<=12*(n+n+1):=Nat.mul_le_mul_right _ ht;omega)
  have bU':Bt 300000 U:=hU.mono (by omega)
  refine bq (λh0=>?_) (λh0=>?_)
  ·have m0:0 < m:=by omega
   have qP:q*1<=q*m:=Nat.mul_le_mul_left _ m0;refine⟨λL' S''=>∃ m',m' < m/\S''=S'/\∃ p q:Nat,L'=[some (iD (jp U x q)),some (.int (m':Nat)),some (.int U),some (iD (jp U x p))]/\p+q*m'=P/\1<=q,λ_ _ z=>z,?_⟩
   have em:(m:Int).fmod 2=((m % 2:Nat):Int):=by
    rw [Int.fmod_eq_emod_of_nonneg _ (by decide)]
    omega
   have ed:(m:Int).fdiv 2=((m / 2:Nat):Int):=by
    rw [Int.fdiv_eq_ediv_of_nonneg _ (by decide)]
    omega
   have hm2:2*(m / 2)+m % 2=m:=Nat.div_add_mod m 2;refine Ba (λL S2=>S2=S'/\∃ p':Nat,L=[some (iD (jp U x q)),some (.int (m:Nat)),some (.int U),some (iD (jp U x p'))]/\p'+q*(2*(m / 2))=P) ?_ (λgo=>?_)
   rotate_left
   ·refine⟨by show(2:Int)≠0; decide,?_⟩
    show(if decide ((m:Int).fmod 2=1)=true then _ else _)
    rw [em];refine bq (λh1=>?_) (λh1=>?_)
    ·have e1:m % 2=1:=by omega
     refine⟨jp U x p,jp U x q,U,300000,rfl,bd p (by omega),bd q (by omega),bU',by decide,go _ _ ⟨rfl,p+q,by rw [wH],?_⟩⟩
     have e2:q*(2*(m / 2)+1)=q*m:=by congr 1; omega
     rw [Nat.mul_add] at e2;omega
    ·have e1:m % 2=0:=by omega
     refine go _ _ ⟨rfl,p,rfl,?_⟩;have e2:q*(2*(m / 2))=q*m:=by congr 1; omega
     omega
   ·rintro L2 S2 ⟨rfl,p',rfl,hp'⟩;refine⟨zr (m:=2) (by decide) (by decide),?_⟩
    dsimp only;rw [ed];refine bq (λh1=>?_) (λh1=>?_)
    ·have d1:0 < m / 2:=by omega
     have:q*2<=q*(2*(m / 2)):=Nat.mul_le_mul_left _ (by omega)
     refine⟨jp U x q,jp U x q,U,300000,rfl,bd q (by omega),bd q (by omega),bU',by decide,m / 2,by omega,rfl,p',q+q,by rw [wH]; rfl,?_,by omega⟩
     rw [<- hp'];have:(q+q)*(m / 2)=q*(2*(m / 2)):=by rw [<- Nat.mul_assoc]; congr 1; omega
     omega
    ·have d1:m / 2=0:=by omega
     refine⟨m / 2,by omega,rfl,p',q,rfl,?_,q1⟩
     rw [<- hp',d1]
  ·have m0:m=0:=by omega
   subst m0;have e:p=P:=by omega
   subst e;exact w
def qz:ce:=λds S k=>∃ (u a b e:Rat) (s τ:Nat),ds=[N u a b,fr (e*e*u)]/\0 < u/\Sz τ u/\τ<=600/\(b=0\/e≠0)/\Sz s a/\Sz s b/\Sz s e/\1<=s/\s<=830/\∀ X M,SO (ab e*(((e*e*u).den:Int):Rat)) (9*s+2*τ+2) (a,b) X M->k (.tup [iD X,.int M]) S
theorem iG:ar ["number","base","portion","bottom","surd"] ["number","base"] (aj lW):=dP
theorem wn (Fn:FN K "surd_over" lW f fd) (c_:aN P w K mg base "over" 3 nQ) (fW:aN P w K mg base "share" 4 rB) (b_:aN P w K mg base "common_multiple" 2 gj):
  aL P w K mg base cN 5 f fd ["number","base"] (cX K qz):=by
 refine Fn.okJ iG (λds S k h=>?_) (λcdv A outer s H E hr=>⟨_,(af (ah (i:=2) iG.nd (dq c_ hr (aa (dq fW hr (aw 0 (aw 1 ac))) (aa (au (aa (aJ 1) (aa ak ac))) ac)))) (af (ah (i:=3) iG.nd (dq b_ hr (aa (cA du (aJ 0) ak Zf) (aa (aJ 2) ac)))) (af (ah (i:=4) iG.nd (au (aa (az bT (cA du (aJ 0) ak Zf) (az hG (ai 3) (cA du (aJ 0) ak Zf))) (aa (az bT (aJ 2) (az hG (ai 3) (aJ 2))) ac)))) (ag (am (au (aw 4 (aw 3 ac)))))))),λds S k h=>?_⟩)
 ·obtain⟨_,_,_,_,_,_,rfl,_⟩:=h
  rfl
 ·obtain⟨u,a,b,e,s,τ,rfl,u0,su,ht6,be,sa,sb,se,s1,s100,w⟩:=h;have d0:(((e*e*u).den:Int):Rat)≠0:=λz=>by
   have:=QL.mp (show (((e*e*u).den:Int):Rat)=((0:Int):Rat) from z)
   have:=cj (e*e*u);omega
  have sB:=(se.mul se).mul su;have s1':=sb.div' se.ab;have sd:Sz (s+s+τ) (((e*e*u).den:Int):Rat):=⟨by rw [Rat.num_intCast]; exact sB.den,by rw [Rat.den_intCast]; exact(show Bt 1 1 by decide).mono (by omega)⟩
  have sP:=s1'.div sd d0;generalize hP:b / ab e / (((e*e*u).den:Int):Rat)=P at sP;have dv1:(a.den:Int) ∣ ((Int.lcm (a.den:Int) (P.den:Int):Nat):Int):=Int.dvd_lcm_left _ _;have dv2:(P.den:Int) ∣ ((Int.lcm (a.den:Int) (P.den:Int):Nat):Int):=Int.dvd_lcm_right _ _;have M0:=tO (cj a) (cj P);have bM:Bt (5*s+τ+1) ((Int.lcm (a.den:Int) (P.den:Int):Nat):Int):=kP (x:=(a.den:Int)*(P.den:Int)) (Int.coe_lcm_dvd (Int.dvd_mul_right _ _) (Int.dvd_mul_left _ _)) (by have:=Int.mul_pos (cj a) (cj P); omega) ((sa.den.mul sP.den).mono (by omega))
  have bf1:Bt (5*s+τ+1) (((Int.lcm (a.den:Int) (P.den:Int):Nat):Int).fdiv (a.den:Int)):=bM.le (HM.aS _ _);have bf2:Bt (5*s+τ+1) (((Int.lcm (a.den:Int) (P.den:Int):Nat):Int).fdiv (P.den:Int)):=bM.le (HM.aS _ _);refine⟨u,a,b,e,rfl,u0,be,sb.mono (by omega),se.mono (by omega),su.mono (by omega),few,b / ab e,(((e*e*u).den:Int):Rat),congrArg (λz=>[fr (b / ab e),z]) (Pg _),d0,s1'.mono (by omega),sd.mono (by omega),?_⟩
  rw [hP];refine⟨(a.den:Int),(P.den:Int),rfl,cj a,cj P,sa.den.mono (by omega),sP.den.mono (by omega),?_⟩
  refine⟨zr (by have:=cj a; omega) sa.den (by omega),kZ sa.num bf1 (by omega),zr (by have:=cj P; omega) sP.den (by omega),kZ sP.num bf2 (by omega),few,few,?_⟩
  refine w (cJ _ a,cJ _ P) _ ⟨M0,bM.mono (by omega),⟨(sa.num.mul bf1).mono (by omega),(sP.num.mul bf2).mono (by omega)⟩,(a,P),⟨rfl,?_,λk0=>?_⟩,?_⟩
  ·show b=ab e*_*P
   rw [<- hP];rcases be with b0 | e0
   ·rw [b0];grind
   ·have:=qy e0;grind
  ·show P=0
   rw [<- hP];rcases be with b0 | e0
   ·rw [b0];grind
   ·have:=qy e0;grind
  ·unfold qc qk;apply Qk
   ·exact kK dv1
   ·exact kK dv2
abbrev bU (e u:Rat):Int:=(e*e*u).num*((e*e*u).den:Int)
def HE (U:Int) (X:Int×Int) (M:Int) (mx:Nat) (l:List Int):List (L2.eG×D):=l.map λn=>(Sum.inl n,iD (fM U (jp U X n.toNat) (jp U (M,0) (mx - n.toNat))))
theorem D' (ns:List Int):(o7 ns).length<=7:=by
 unfold o7 PySem.subI PySem.subM;rw [P6];exact QF (List.length_filter_le _ _) (by decide)
theorem Hy {U:Int} {X:Int×Int} {M:Int} {mx:Nat} {l:List Int} {n:Int} (h:n∉l):EX (HE U X M mx l) (.inl n) (iD (fM U (jp U X n.toNat) (jp U (M,0) (mx - n.toNat))))=HE U X M mx (l++[n]):=by
 unfold EX HE;rw [if_neg,List.map_append]
 ·rfl
 ·intro z;obtain⟨x,hx,e⟩:=List.any_eq_true.mp z;obtain⟨k,hk,rfl⟩:=P5.mp hx;simp only [Q3] at e;cases e;exact h hk
theorem wq {U:Int} {X:Int×Int} {M:Int} {mx:Nat} {n:Int}:∀ {l:List Int},n∈l->xz (HE U X M mx l) (.inl n)=some (iD (fM U (jp U X n.toNat) (jp U (M,0) (mx - n.toNat))))
 | k::l,h=>by
  by_cases e:k=n
  ·subst e;simp [xz,HE,Qg]
  ·have h':n∈l:=by
    rcases P9.mp h with q | q
    ·exact absurd q.symm e
    ·exact q
   have:=wq (U:=U) (X:=X) (M:=M) (mx:=mx) h';simp only [xz,HE,Qe,Qg] at this ⊢;have ne:(decide ((Sum.inl k:L2.eG)=Sum.inl n))=false:=by
    simp;exact e
   rw [ne];exact this
def nj:ce:=λds S k=>∃ (u a b e:Rat) (s τ:Nat) (q:Rh) (ns:List Int),ds=[N u a b,.ref q,fr (e*e*u)]/\S q=some (.lst (ns.map D.int))/\ns≠[]/\ns.length<=100/\(∀ n∈ns,0<=n/\n < 7)/\0 < u/\Sz τ u/\τ<=600/\(b=0\/e≠0)/\Sz s a/\Sz s b/\Sz s e/\1<=s/\s<=830/\
 ∀ S' p X M mx,cn S S'->SO (ab e*(((e*e*u).den:Int):Rat)) (9*s+2*τ+2) (a,b) X M->(∀ n∈ns,n.toNat<=mx)->mx < 7->S' p=some (.gen (.dK (HE (bU e u) X M mx (o7 ns))))->k (.tup [.ref p,.int (M ^ mx)]) S'
theorem cG:ar ["number","powers","base","found","under","bottom","most","told","power"] ["number","powers","base"] (aj jT):=dP
theorem tJ (Fn:FN K "powers_over" jT f fd) (lS:aN P w K mg base "surd_over" 5 qz) (bZ:aN P w K mg base "surd_times" 1 iE) (fP:aN P w K mg base "surd_power" 2 oP) (lg:mg "max"=none) (tQ:mg "sorted"=none) (Fk:mg "set"=none):
  aL P w K mg base cN 6 f fd ["number","powers","base"] (cX K nj):=by
 refine Fn.okJ cG (λds S k h=>?_) (λcdv A outer s H E hr=>⟨_,(af (ah (i:=3) cG.nd (dq lS hr (aw 0 (aw 2 ac)))) (af (ah (i:=4) cG.nd (az bT (aJ 2) (aJ 2))) (af (ah (i:=5) cG.nd (au (aa (aJ 3) (aa ak ac)))) (af (ah (i:=6) cG.nd (cm Ku rfl lg wO (aw 1 ac))) (af (ah (i:=7) cG.nd G8) (af (iN PassesOwn.never rfl (zX rfl rfl tQ CC rfl Fk Jj (ai 1)) (aB (i:=8) cG.nd) (ag (dU (dq bZ hr (aa (dq fP hr (aa (aJ 3) (aw 8 (aw 4 ac)))) (aa (dq fP hr (aw 5 (aa (az yH (ai 6) (ai 8)) (aw 4 ac)))) (aw 4 ac)))) (HZ hr (ai 7) (ai 8))))) (ag (am (au (aw 7 (aa (cA du (dq fP hr (aw 5 (aw 6 (aw 4 ac)))) ak Zf) ac))))))))))),λds S k h=>?_⟩)
 ·obtain⟨_,_,_,_,_,_,_,_,rfl,_⟩:=h
  rfl
 ·obtain⟨u,a,b,e,s,τ,q,ns,rfl,hq,hne,hl,hb,u0,su,ht6,be,sa,sb,se,s1,s100,w⟩:=h;have sB:=(se.mul se).mul su;have bUU:Bt (9*s+2*τ+2) (bU e u):=(sB.num.mul sB.den).mono (by omega)
  refine⟨u,a,b,e,s,τ,rfl,u0,su,ht6,be,sa,sb,se,s1,s100,λX M so=>⟨kZ sB.num sB.den (by omega),few,ns,hq,hne,λm hm hx p hp=>⟨ns,bO hp hq,hb,λq2 hq2=>⟨((o7 ns).map D.int,some q2),by simp only [bh,aq],?_⟩⟩⟩⟩
  have bm:=hb m hm;have sM:B2 (9*s+2*τ+2) (M,(0:Int)):=⟨so.bM,(show Bt 1 0 by decide).mono (by omega)⟩
  have bd:∀ {x:Int×Int} t,B2 (9*s+2*τ+2) x->t<=7->B2 200000 (jp (bU e u) x t):=λt h ht=>(h.pw bUU t).mono (by
   have:t*(9*s+2*τ+2+(9*s+2*τ+2)+1)<=7*(9*s+2*τ+2+(9*s+2*τ+2)+1):=Nat.mul_le_mul_right _ ht;omega)
  have lt:=GC ns;have npq:p≠q2:=λz=>by rw [<- z,aq] at hq2; cases hq2
  refine df (λr L S'=>∃ (don av:List Int) (l8:Ri D),o7 ns=don++av/\r=av.map D.int/\L=[some (N u a b),some (.ref q),some (fr (e*e*u)),some (.tup [iD X,.int M]),some (.int (bU e u)),some (.tup [.int M,.int 0]),some (.int m),some (.ref p),l8]/\cn S S'/\S' q2=some (.lst ((o7 ns).map D.int))/\S' p=some (.gen (.dK (HE (bU e u) X M m.toNat don)))) (λr L S' z9=>by obtain⟨_,_,_,_,_,_,_,h,_⟩:=z9; exact h) ?_ ?_ _ _ _ ⟨[],o7 ns,none,rfl,rfl,rfl,(cn.new hp).trans (cn.new hq2),aq,by rw [bV npq,aq]; rfl⟩
  ·rintro d r L S1 N1 ⟨don,av,l8,ec,er,rfl,x1,h2,h1⟩ hN;cases av with
   | nil=>cases er
   | cons n av=>
    cases er;have mn:n∈ns:=(lZ hb).mp (by rw [ec]; simp)
    have bn:=hb n mn;have nm:=hx n mn;have dl:don.length < 100:=by
     have l7:(o7 ns).length<=7:=D' ns;have:=congrArg List.length ec;rw [Ql,Qf] at this;omega
    have nin:n∉don:=λz=>by
     rw [ec] at lt;have:=(List.pairwise_append.mp lt).2.2 n z n (by simp)
     omega
    refine⟨X,bU e u,n.toNat,9*s+2*τ+2,congrArg (λz=>[iD X,z,.int (bU e u)]) (congrArg D.int (by omega)),so.bX,bUU,by omega,by omega,(M,0),bU e u,m.toNat - n.toNat,9*s+2*τ+2,congrArg (λz=>[iD (M,0),z,.int (bU e u)]) (congrArg D.int (by omega)),sM,bUU,by omega,by omega,?_⟩
    refine⟨_,_,bU e u,200000,rfl,bd _ so.bX (by omega),bd _ sM (by omega),bUU.mono (by omega),by decide,_,h1,by unfold HE; rw [P6]; exact lim (by omega),hN _ _ ⟨don++[n],av,_,by rw [ec]; simp,rfl,rfl,x1.put hp,by rw [bV (Ne.symm npq)]; exact h2,?_⟩⟩
    rw [aq,Hy nin]
  ·rintro L S1 ⟨don,av,l8,ec,er,rfl,x1,h2,h1⟩;cases av with
   | cons n av=>cases er
   | nil=>
    rw [Qn] at ec;subst ec;refine⟨(M,0),bU e u,m.toNat,9*s+2*τ+2,congrArg (λz=>[iD (M,0),z,.int (bU e u)]) (congrArg D.int (by omega)),sM,bUU,by omega,by omega,few,?_⟩
    rw [ql];exact w S1 p X M m.toNat x1 so (λn hn=>by have:=hx n hn; have:=hb n hn; omega) (by omega) h1
theorem DP {S:DH} {f:Rh} {c:Zr} {e1:Nat} {p:Rh} {k:DK} (j:Int) (g:List Int->Int) (hg:∀ x∈c,L2.atI (x.1.map D.int) j=some (.int (g x.1))) (hp:S p=none) (hf:S f=some (dS (dG c) e1)) (hl:c.length<=100) (kk:∀ S2,cn S S2->S2 p=some (.lst ((c.map λx=>g x.1).map D.int))->k (.ref p) S2):
  ∀ (av don:Zr) (l0:Ri D) (S1:DH),c=don++av->cn S S1->S1 p=some (.lst ((don.map λx=>g x.1).map D.int))->
   gE (λS=>S f=some (dS (dG c) e1)) p (tE 0) (tG (CY BV (qj 0) (dC (.int j)))) k (av.map λx=>gH x.1) ((don.map λx=>g x.1).map D.int) [l0] S1
 | [],don,l0,S1,ec,x1,h1=>by
  rw [Qn] at ec;subst ec;exact⟨x1 _ _ hf,kk S1 x1 h1⟩
 | q::av,don,l0,S1,ec,x1,h1=>by
  have e0:=hg q (by rw [ec]; simp)
  refine⟨x1 _ _ hf,?_⟩
  show(match L2.atI (q.1.map D.int) j with | some c=>_ | none=>False)
  rw [e0];refine⟨h1,?_,?_⟩
  ·rw [P6,P6];have:=congrArg List.length ec;rw [Ql,Qf] at this;exact lim (by omega)
  ·have ea:(don.map λx=>g x.1).map D.int++[D.int (g q.1)]=((don++[q]).map λx=>g x.1).map D.int:=by simp
   rw [ea];exact DP j g hg hp hf hl kk av (don++[q]) _ _ (by rw [ec]; simp) (x1.put hp) aq
theorem CB {u:Rat} {x y:Q} {c:Zr} {p:List Int×Rat} {s:Q}:lT u x y (c++[p]) s=qa (lT u x y c s) (qk p.2 (mon u x y p.1)):=by
 unfold lT;rw [List.foldl_append]
 rfl
theorem Ko {c:Zr}:CV ue.k (dG c)=c.map λx=>gH x.1:=by show List.map _ (List.map _ c)=_; rw [QH]; rfl
theorem AW (b d:Rat):(b=0\/pick b d≠0)/\(d=0\/pick b d≠0):=by
 unfold pick
 by_cases h:b=0
 ·rw [if_pos h];exact⟨.inl h,Classical.em _⟩
 ·rw [if_neg h];exact⟨.inr h,.inr h⟩
theorem zO {n:Nat} {M:Int} (h:Bt n M):∀ t,Bt (t*n+1) (M ^ t)
 | 0=>by rw [Int.pow_zero,Nat.zero_mul]; decide
 | t+1=>by rw [Int.pow_succ]; exact((zO h t).mul h).mono (by rw [Nat.add_mul]; omega)
def qK:ce:=λds S k=>∃ (u e:Rat) (x y:Q) (s τ:Nat) (a:Rh) (c:Zr) (ep:Nat) (B:Int) (nB:Nat),ds=[.ref a,Pq u x y,fr (e*e*u)]/\S a=some (dS (dG c) ep)/\Cv 28 900 6 c/\c≠[]/\0 < B/\Bt nB B/\nB<=3000/\(∀ p∈c,(p.2.den:Int) ∣ B)/\0 < u/\Sz τ u/\τ<=600/\(x.2=0\/e≠0)/\(y.2=0\/e≠0)/\Sq s x/\Sq s y/\Sz s e/\1<=s/\s<=830/\
 ∀ S' P M v',cn S S'->0 < M->Bt (nB+13*(9*s+2*τ+2)) M->Rl (ab e*(((e*e*u).den:Int):Rat)) (lT u x y c (0,0)) v'->qc P=qk (M:Rat) v'->k (.tup [iD P,.int M]) S'
theorem bR:ar ["curve","point","base","xs","ys","bottom","part","portion","key","top","surd"] ["curve","point","base"] (aj mf):=dP
theorem wo (Fn:FN K "side_over" mf f fd) (gX:aN P w K mg base "powers_over" 6 nj) (a_:aN P w K mg base "common_bottom" 3 fv) (cw:aN P w K mg base "tops_over" 1 jk) (bZ:aN P w K mg base "surd_times" 1 iE) (jA:mg "list"=none):
  aL P w K mg base cN 7 f fd ["curve","point","base"] (cX K qK):=by
 refine Fn.okJ bR (λds S k h=>?_) (λcdv A outer s H E hr=>⟨_,(af (ah (i:=3) bR.nd (dq gX hr (aa (aJ 1) (aa (tP rfl (wy (N:=["key"]) (cap:=[none]) rfl rfl rfl rfl trivial rfl rfl trivial) (wR (ai 0)) (λ_ _ _ _=>(aB (i:=0) (show List.Nodup (["key"]:List Str) from by decide +kernel))) (λ_ _ _ _=>(aJ 0))) (aw 2 ac))))) (af (ah (i:=4) bR.nd (dq gX hr (aa (aJ 1) (aa (tP rfl (wy (N:=["key"]) (cap:=[none]) rfl rfl rfl rfl trivial rfl rfl trivial) (wR (ai 0)) (λ_ _ _ _=>(aB (i:=0) (show List.Nodup (["key"]:List Str) from by decide +kernel))) (λ_ _ _ _=>(aJ 0))) (aw 2 ac))))) (af (ah (i:=5) bR.nd (dq a_ hr (aa (pB rfl rfl jA (ai 0)) ac))) (af (ah (i:=6) bR.nd ak) (af (ah (i:=7) bR.nd ak) (af (dE PassesOwn.never rfl (fm (dq cw hr (aw 0 (aw 5 ac)))) (eC (n:=2) rfl (aH (aB (i:=8) bR.nd) (aH (aB (i:=9) bR.nd) cW))) (af (ah (i:=10) bR.nd (dq bZ hr (aa (AH hr (aJ 3) (aJ 8) Zf) (aa (AH hr (aJ 4) (aJ 8) Zf) (aa (az bT (aJ 2) (aJ 2)) ac))))) (af (ah (i:=6) bR.nd (az eO (ai 6) (az bT (ai 9) (aJ 10)))) (ag (ah (i:=7) bR.nd (az eO (ai 7) (az bT (ai 9) (aJ 10)))))))) (ag (am (au (aa (au (aw 6 (aw 7 ac))) (aa (az bT (az bT (ai 5) (aJ 3)) (aJ 4)) ac))))))))))),λds S k h=>?_⟩)
 ·obtain⟨_,_,_,_,_,_,_,_,_,_,_,rfl,_⟩:=h
  rfl
 ·obtain⟨u,e,x,y,s,τ,a,c,ep,B,nB,rfl,ha,hc,hne,B0,bB,hnB,hdv,u0,su,ht6,bx,by_,sx,sy,se,s1,s100,w⟩:=h;have key:∀ q∈c,∃ i j:Int,q.1=[i,j]/\(0<=i/\i < 7)/\(0<=j/\j < 7):=λq hq=>by
   obtain⟨i,j,ek,i0,j0,i1,j1⟩:=hc.sm q hq;exact⟨i,j,ek,⟨i0,by omega⟩,⟨j0,by omega⟩⟩
  have hl:=hc.hl;have c0:∀ (g:List Int->Int),(c.map λx=>g x.1)≠[]:=λg z=>hne (by simpa using z)
  have b0:∀ n∈c.map (λx=>x.1.getD 0 0),0<=n/\n < 7:=λn hn=>by
   obtain⟨q,hq,rfl⟩:=P5.mp hn;obtain⟨i,j,ek,hi,hj⟩:=key q hq;rw [ek];exact hi
  have b1:∀ n∈c.map (λx=>x.1.getD 1 0),0<=n/\n < 7:=λn hn=>by
   obtain⟨q,hq,rfl⟩:=P5.mp hn;obtain⟨i,j,ek,hi,hj⟩:=key q hq;rw [ek];exact hj
  refine⟨_,_,ha,λp1 hp1=>?_⟩
  rw [Ko];refine DP (S:=S) 0 (λk=>k.getD 0 0) (λq hq=>by obtain⟨i,j,ek,_⟩:=key q hq; rw [ek]; rfl) hp1 ha (by omega) (λS1 x1 h1=>?_) c [] none _ rfl (cn.new hp1) aq
  refine⟨u,x.1,x.2,e,s,τ,p1,_,rfl,h1,c0 (λk=>k.getD 0 0),by rw [P6]; omega,b0,u0,su,ht6,bx,sx.a,sx.b,se,s1,s100,λS2 q1 X MX mx x2 soX hmx mx7 hX=>?_⟩
  have ha2:=x2 _ _ (x1 _ _ ha);refine⟨_,_,ha2,λp2 hp2=>?_⟩
  rw [Ko];refine DP (S:=S2) 1 (λk=>k.getD 1 0) (λq hq=>by obtain⟨i,j,ek,_⟩:=key q hq; rw [ek]; rfl) hp2 ha2 (by omega) (λS3 x3 h3=>?_) c [] none _ rfl (cn.new hp2) aq
  refine⟨u,y.1,y.2,e,s,τ,p2,_,rfl,h3,c0 (λk=>k.getD 1 0),by rw [P6]; omega,b1,u0,su,ht6,by_,sy.a,sy.b,se,s1,s100,λS4 q2 Y MY my x4 soY hmy my7 hY=>?_⟩
  have X4:=(x1.trans x2).trans (x3.trans x4);have ha4:=X4 _ _ ha;have hX4:=x4 _ _ (x3 _ _ hX);refine⟨_,_,ha4,λp3 hp3=>⟨p3,c.map (·.2),B,rfl,?_,B0,bB.mono (by omega),λq hq=>?_,?_⟩⟩
  ·rw [aq]
   congr 2
   show List.map _ (List.map _ c)=List.map _ (List.map _ c)
   rw [QH,QH]
   rfl
  ·obtain⟨r,hr,rfl⟩:=P5.mp hq;exact hdv r hr
  have X5:cn S (put S4 p3 (.lst ((dG c).map (·.2)))):=X4.trans (cn.new hp3);have ha5:put S4 p3 (.lst ((dG c).map (·.2))) a=_:=bO hp3 ha4;have hX5:put S4 p3 (.lst ((dG c).map (·.2))) q1=_:=bO hp3 hX4;have hY5:put S4 p3 (.lst ((dG c).map (·.2))) q2=_:=bO hp3 hY;generalize put S4 p3 (.lst ((dG c).map (·.2)))=S5 at X5 ha5 hX5 hY5 ⊢
  have Bp:0 < oj 1 (c.map (·.2)):=po (by decide)
  have Bd:oj 1 (c.map (·.2)) ∣ B:=rX (Int.one_dvd B) λq hq=>by
   obtain⟨r,hr,rfl⟩:=P5.mp hq;exact hdv r hr
  have Bb:=kP Bd (by omega) bB
  have Bq:∀ q∈c,(q.2.den:Int) ∣ oj 1 (c.map (·.2)):=λq hq=>(pA (m:=1)).2 _ (List.mem_map_of_mem hq)
  generalize oj 1 (c.map (·.2))=Bc at Bp Bd Bb Bq ⊢
  refine⟨a,c,ep,Bc,rfl,ha5,hc.nd,by omega,λq hq=>(hc.hz q hq).mono (by decide),Bb.mono (by omega),λS6 pt et x6 ht=>⟨_,_,ht,?_⟩⟩
  have hX6:=x6 _ _ hX5;have hY6:=x6 _ _ hY5;have sB:=(se.mul se).mul su;have bUU:Bt (9*s+2*τ+2) (bU e u):=(sB.num.mul sB.den).mono (by omega)
  have hU:=HB (β:=e*e*u) (e:=e) (u:=u) rfl;obtain⟨x',rx,eX⟩:=soX.rel;obtain⟨y',ry,eY⟩:=soY.rel;have bd:∀ {x:Int×Int} {t:Nat},B2 (9*s+2*τ+2) x->t<=7->B2 200000 (jp (bU e u) x t):=λ{x t} h ht=>(h.pw bUU t).mono (by
   have:t*(9*s+2*τ+2+(9*s+2*τ+2)+1)<=7*(9*s+2*τ+2+(9*s+2*τ+2)+1):=Nat.mul_le_mul_right _ ht;omega)
  have sMX:B2 (9*s+2*τ+2) (MX,(0:Int)):=⟨soX.bM,(show Bt 1 0 by decide).mono (by omega)⟩
  have sMY:B2 (9*s+2*τ+2) (MY,(0:Int)):=⟨soY.bM,(show Bt 1 0 by decide).mono (by omega)⟩
  have pX:∀ t,mx - t<=7:=λt=>by omega
  have pY:∀ t,my - t<=7:=λt=>by omega
  have bX:=zO soX.bM mx;have bY:=zO soY.bM my;have bX':Bt (6*(9*s+2*τ+2)+1) (MX ^ mx):=bX.mono (by have:mx*(9*s+2*τ+2)<=6*(9*s+2*τ+2):=Nat.mul_le_mul_right _ (by omega); omega)
  have bY':Bt (6*(9*s+2*τ+2)+1) (MY ^ my):=bY.mono (by have:my*(9*s+2*τ+2)<=6*(9*s+2*τ+2):=Nat.mul_le_mul_right _ (by omega); omega)
  refine df (λr L S'=>S'=S6/\∃ (don av:Zr) (l8 l9 l10:Ri D) (P:Int×Int),c=don++av/\r=fB (rK (av.map λx=>(x.1,cJ Bc x.2)))/\L=[some (.ref a),some (Pq u x y),some (fr (e*e*u)),some (.tup [.ref q1,.int (MX ^ mx)]),some (.tup [.ref q2,.int (MY ^ my)]),some (.int Bc),some (.int P.1),some (.int P.2),l8,l9,l10]/\qc P=qk ((Bc:Rat)*((MX:Rat) ^ mx*(MY:Rat) ^ my)) (lT ((bU e u:Int):Rat) x' y' don (0,0))) (λr L S' z9=>by obtain⟨h,_⟩:=z9; rw [h]; exact ht) ?_ ?_ _ _ _ ⟨rfl,[],c,none,none,none,(0,0),rfl,rfl,rfl,by show(((0:Int):Rat),((0:Int):Rat))=qk _ ((0:Rat),(0:Rat)); unfold qk; apply Qk <;> dsimp only <;> rw [Rat.mul_zero] <;> rfl⟩
  ·rintro d r L S' N1 ⟨rfl,don,av,l8,l9,l10,P,ec,er,rfl,eP⟩ hN;cases av with
   | nil=>cases er
   | cons q av=>
    cases er;have mq:q∈c:=by rw [ec]; simp
    obtain⟨i,j,ek,hi,hj⟩:=key q mq;obtain⟨k0,t0⟩:=q;have ek:k0=[i,j]:=ek;subst ek;have mi:i∈o7 (c.map λx=>x.1.getD 0 0):=(lZ b0).mpr (P5.mpr ⟨_,mq,rfl⟩)
    have mj:j∈o7 (c.map λx=>x.1.getD 1 0):=(lZ b1).mpr (P5.mpr ⟨_,mq,rfl⟩)
    have li:=hmx i ((lZ b0).mp mi);have lj:=hmy j ((lZ b1).mp mj);have z1:=(bd soX.bX (show i.toNat<=7 by omega)).mul (bd sMX (pX i.toNat)) bUU
    have z2:=(bd soY.bX (show j.toNat<=7 by omega)).mul (bd sMY (pY j.toNat)) bUU
    have z1':=z1.mono (show 200000+200000+(9*s+2*τ+2)+1<=500000 by omega)
    have z2':=z2.mono (show 200000+200000+(9*s+2*τ+2)+1<=500000 by omega)
    have z3:=z1'.mul z2' bUU;have bt:Bt (900+nB) (cJ Bc t0):=(hc.hz _ mq).num.mul (Bb.le (HM.aS _ _));refine⟨([gH [i,j],.int (cJ Bc t0)],none),rfl,rfl,rfl,_,_,hX6,wq mi,_,_,hY6,wq mj,kZ sB.num sB.den (by omega),_,_,bU e u,500000,rfl,z1',z2',bUU.mono (by omega),by decide,kZ bt z3.a (by omega),kZ bt z3.b (by omega),hN _ _ ⟨rfl,don++[([i,j],t0)],av,_,_,_,(P.1+cJ Bc t0*_,P.2+cJ Bc t0*_),by rw [ec]; simp,rfl,rfl,?_⟩⟩
    have e1:=A5 (U:=bU e u) eX li;have e2:=A5 (U:=bU e u) eY lj;have e3:=Ae (bU e u) (fM (bU e u) (jp (bU e u) X i.toNat) (jp (bU e u) (MX,0) (mx - i.toNat))) (fM (bU e u) (jp (bU e u) Y j.toNat) (jp (bU e u) (MY,0) (my - j.toNat)));rw [e1,e2,GA] at e3;have e4:qm ((bU e u:Int):Rat) (i5 ((bU e u:Int):Rat) x' i.toNat) (i5 ((bU e u:Int):Rat) y' j.toNat)=mon ((bU e u:Int):Rat) x' y' [i,j]:=rfl;rw [e4] at e3;generalize fM (bU e u) (fM (bU e u) (jp (bU e u) X i.toNat) (jp (bU e u) (MX,0) (mx - i.toNat))) (fM (bU e u) (jp (bU e u) Y j.toNat) (jp (bU e u) (MY,0) (my - j.toNat)))=Zp at e3 ⊢;have et:=kK (Bq _ mq);have et:((cJ Bc t0:Int):Rat)=Bc*t0:=et;rw [CB,LR,<- eP,N3]
    show(((P.1+cJ Bc t0*Zp.1:Int):Rat),((P.2+cJ Bc t0*Zp.2:Int):Rat))=qa (qc P) (qk _ (mon ((bU e u:Int):Rat) x' y' [i,j]))
    have f1:((Zp.1:Int):Rat)=_:=congrArg Prod.fst e3;have f2:((Zp.2:Int):Rat)=_:=congrArg Prod.snd e3;unfold qk at f1 f2
    dsimp only at f1 f2
    unfold qa qk qc;apply Qk <;> dsimp only <;> rw [Qj,P2,et]
    ·rw [f1];grind
    ·rw [f2];grind
  ·rintro L S' ⟨rfl,don,av,l8,l9,l10,P,ec,er,rfl,eP⟩;cases av with
   | cons q av=>cases er
   | nil=>
    rw [Qn] at ec;subst ec;have M0:0 < Bc*MX ^ mx*MY ^ my:=Int.mul_pos (Int.mul_pos Bp (Int.pow_pos soX.M0)) (Int.pow_pos soY.M0);refine⟨few,kZ Bb bX' (by omega),kZ (Bb.mul bX') bY' (by omega),few,w S' P _ _ (X5.trans x6) M0 (((Bb.mul bX').mul bY').mono (by omega)) (rx.val hU ry c Rl.zero) ?_⟩
    have eM:((Bc*MX ^ mx*MY ^ my:Int):Rat)=(Bc:Rat)*((MX:Rat) ^ mx*(MY:Rat) ^ my):=by rw [P2,P2,Rat.intCast_pow,Rat.intCast_pow,Rat.mul_assoc]
    rw [eP,eM]
theorem Nj {a b:Int}:qE 8 (.tup [.int a,.int b]) (.tup [.int 0,.int 0])=some (decide (a=0/\b=0)):=by
 rw [Ee (n:=7) eq_int eq_int]
 congr 1
 by_cases h1:a=0 <;> by_cases h2:b=0 <;> simp [h1,h2]
def sk:ce:=λds S k=>∃ (u:Rat) (x y:Q) (s τ:Nat) (a:Rh) (c:Zr) (ep:Nat) (B:Int) (nB:Nat),ds=[.ref a,Pq u x y]/\S a=some (dS (dG c) ep)/\Cv 28 900 6 c/\0 < B/\Bt nB B/\nB<=3000/\(∀ p∈c,(p.2.den:Int) ∣ B)/\0 < u/\Sz τ u/\τ<=600/\Sq s x/\Sq s y/\1<=s/\s<=830/\∀ S',cn S S'->k (.bl (decide (lT u x y c (0,0)=(0,0)))) S'
theorem yB:ar ["curve","point"] ["curve","point"] (aj oh):=dP
theorem ym (Fn:FN K "on_curve" oh f fd) (lx:aN P w K mg base "side_over" 7 qK) (cs:aN P w K mg base "field_base" 2 iA) (fF:mg "len"=none):
  aL P w K mg base cN 8 f fd ["curve","point"] (cX K sk):=by
 refine Fn.okJ yB (λds S k h=>?_) (λcdv A outer s H E hr=>⟨_,(af (aK (aG (C5 hr) (cm EE rfl fF lQ (aw 0 ac)) ak (aM _)) (ag (am pk)) aO) (ag (am (wJ (C5 hr) (cA du (dq lx hr (aw 0 (aw 1 (aa (dq cs hr (aa (aJ 1) (aa (aJ 1) ac))) ac)))) ak Zf) (au (aa ak (aa ak ac))) (aM _))))),λds S k h=>?_⟩)
 ·obtain⟨_,_,_,_,_,_,_,_,_,_,rfl,_⟩:=h
  rfl
 ·obtain⟨u,x,y,s,τ,a,c,ep,B,nB,rfl,ha,hc,B0,bB,hnB,hdv,u0,su,ht6,sx,sy,s1,s100,w⟩:=h
  by_cases hne:c=[]
  ·subst hne;exact⟨_,_,ha,true,rfl,AA (λ_=>w S (cn.refl S)) (λz=>by cases z)⟩
  ·have l0:qE 8 (.int (((dG c).length:Nat):Int)) (.int 0)=some false:=by
    rw [eF];cases c with
    | nil=>exact absurd rfl hne
    | cons p c=>
     show some (decide (((c.length+1:Nat):Int)=0))=some false
     rw [QT (by omega)]
   refine⟨_,_,ha,false,l0,AA (λz=>by cases z) (λ_=>?_)⟩
   have se:=Sz.pick sx.b sy.b;refine⟨u,x.1,x.2,y.1,y.2,rfl,u0,?_⟩;refine⟨u,pick x.2 y.2,x,y,s,τ,a,c,ep,B,nB,rfl,ha,hc,hne,B0,bB,hnB,hdv,u0,su,ht6,(AW _ _).1,(AW _ _).2,sx,sy,se,s1,by omega,λS1 P M v' x1 M0 bM rl eP=>⟨few,decide (lT u x y c (0,0)=(0,0)),?_,w S1 x1⟩⟩
   have m0:(M:Rat)≠0:=λz=>by
    have:=QL.mp (show (M:Rat)=((0:Int):Rat) from z)
    omega
   have q1:(P.1:Rat)=M*v'.1:=congrArg Prod.fst eP;have q2:(P.2:Rat)=M*v'.2:=congrArg Prod.snd eP;have zz:∀ {t:Int} {q:Rat},(t:Rat)=M*q->(t=0↔q=0):=λ{t q} h=>by
    constructor
    ·intro e;rw [e] at h;have h:(0:Rat)=M*q:=h;grind
    ·intro e;rw [e,Rat.mul_zero] at h;exact QL.mp (by rw [h]; rfl)
   have i1:=zz q1;have i2:=zz q2;have i3:v'.2=0↔(lT u x y c (0,0)).2=0:=by
    have b:=rl.b;have z:=rl.z
    constructor
    ·intro e;rw [b,e,Rat.mul_zero]
    ·intro e;rw [e] at b;grind
   have fin:(P.1=0/\P.2=0)↔lT u x y c (0,0)=(0,0):=by
    rw [i1,i2,i3,rl.a];exact⟨λh=>Qk h.1 h.2,λh=>by rw [h]; exact⟨rfl,rfl⟩⟩
   rw [<- decide_eq_decide.mpr fin];exact Nj
set_option maxHeartbeats 4000000
def cT (x y s z v r:Rat):Rat:=((s - r)+((z - x)*(z - x)+(v - y)*(v - y))) / (((z - x)*(z - x)+(v - y)*(v - y))+((z - x)*(z - x)+(v - y)*(v - y)))
def cE (x y s z v r:Rat):Rat:=s / ((z - x)*(z - x)+(v - y)*(v - y)) - cT x y s z v r*cT x y s z v r
noncomputable def cL (x y s z v r:Rat):List D:=mh (x+(z - x)*cT x y s z v r) (y+(v - y)*cT x y s z v r) (-(v - y)) (z - x) (cE x y s z v r)
theorem AD {A:Rat} (h:A≠0):A+A≠0:=by grind
def iT:ce:=λds S k=>match ds with
 | [.non,.non,.non,.non]=>False/\k .non S
 | _=>False
theorem aQ:ar ["one","square","other","other_square","start","way","apart","along","aside"] ["one","square","other","other_square"] (aj fS):=dP
theorem qU (Fn:FN K "circles_meet" fS f fd) (cF:aN P w K mg base "place_of" 1 kr) (fG:aN P w K mg base "plain_way" 4 mC) (fA:aN P w K mg base "square_of_unlike" 5 i9) (c_:aN P w K mg base "over" 3 nQ) (aW:aN P w K mg base "plus" 3 iU) (bJ:aN P w K mg base "minus" 3 jt) (aI:aN P w K mg base "times" 3 ft) (fc:aN P w K mg base "both_moved" 6 ky) (aA:aN P w K mg base "negative" 1 cH) (iK:aN P w K mg base "moved" 4 rG):
  aL P w K mg base cN 7 f fd ["one","square","other","other_square"] (cX K iT):=by
 refine Fn.okJ aQ (λds S k h=>?_) (λcdv A outer s H E hr=>⟨_,(af (ah (i:=4) aQ.nd (dq cF hr (aw 0 ac))) (af (ah (i:=5) aQ.nd (dq fG hr (aw 4 (aa (dq cF hr (aw 2 ac)) ac)))) (af (ah (i:=6) aQ.nd (dq fA hr (aw 5 ac))) (af (ah (i:=7) aQ.nd (dq c_ hr (aa (dq aW hr (aa (dq bJ hr (aw 1 (aw 3 ac))) (aw 6 ac))) (aa (dq aW hr (aw 6 (aw 6 ac))) ac)))) (af (ah (i:=8) aQ.nd (dq bJ hr (aa (dq c_ hr (aw 1 (aw 6 ac))) (aa (dq aI hr (aw 7 (aw 7 ac))) ac)))) (ag (am (dq fc hr (aa (dq iK hr (aw 4 (aw 5 (aw 7 ac)))) (aa (au (aa (dq aA hr (aa (aJ 5) ac)) (aa (aJ 5) ac))) (aw 8 ac))))))))))),λds S k h=>?_⟩)
 ·unfold iT at h
  split at h
  ·rfl
  ·exact h.elim
 ·unfold iT at h
  split at h
  ·exact h.1.elim
  ·exact h.elim
structure Cd (x y s z v r:Rat):Prop where
 hx:Sz 30 x
 hy:Sz 30 y
 hs:Sz 30 s
 hz:Sz 30 z
 hv:Sz 30 v
 hr:Sz 30 r
 ha:Sz 40 (z - x)
 hb:Sz 40 (v - y)
 ht:Sz 66 (cT x y s z v r)
 he:Sz 134 (cE x y s z v r)
def ll (aX:Rh):qV:=λds S k e=>∃ x y s z v r:Rat,ds=[PP x y,fr s,PP z v,fr r]/\Cd x y s z v r/\((z - x)*(z - x)+(v - y)*(v - y)=0->e aX S)/\((z - x)*(z - x)+(v - y)*(v - y)≠0->∀ S' p,cn S S'->S' p=none->k (.ref p) (put S' p (.lst (cL x y s z v r))))
theorem pQ {P:Rk} {w:Rn} {K:Fg} {mg:Str->Ri Rg} {base:Ro} {f:Rh} {fd:FuncData} {aX:Rh} (Fn:FN K "circles_meet" fS f fd) (fc:aN P w K mg base "both_moved" 6 ky) (aA:aN P w K mg base "negative" 1 cH) (iK:aN P w K mg base "moved" 4 rG) (bJ:aN P w K mg base "minus" 3 jt) (aI:aN P w K mg base "times" 3 ft) (c_:aN P w K mg base "over" 3 nQ) (aW:aN P w K mg base "plus" 3 iU) (fG:aN P w K mg base "plain_way" 4 mC) (cF:aN P w K mg base "place_of" 1 kr) (ff:uG P w K mg base "square_of_unlike" 5 (iz aX)):
  aL P w K mg base (iy P w) 7 f fd ["one","square","other","other_square"] (Hl K (ll aX)):=by
 refine Fn.okX aQ (λds S k x h=>?_) (λcdv A outer s H E ex hr hE=>⟨_,(af (ah (i:=4) aQ.nd (dq cF hr (aw 0 ac))) (af (ah (i:=5) aQ.nd (dq fG hr (aw 4 (aa (dq cF hr (aw 2 ac)) ac)))) (af (ah (i:=6) aQ.nd (xM hE ff (hr.mono (by decide)) rfl (aw 5 ac))) (af (ah (i:=7) aQ.nd (dq c_ hr (aa (dq aW hr (aa (dq bJ hr (aw 1 (aw 3 ac))) (aw 6 ac))) (aa (dq aW hr (aw 6 (aw 6 ac))) ac)))) (af (ah (i:=8) aQ.nd (dq bJ hr (aa (dq c_ hr (aw 1 (aw 6 ac))) (aa (dq aI hr (aw 7 (aw 7 ac))) ac)))) (ag (am (dq fc hr (aa (dq iK hr (aw 4 (aw 5 (aw 7 ac)))) (aa (au (aa (dq aA hr (aa (aJ 5) ac)) (aa (aJ 5) ac))) (aw 8 ac))))))))))),λds S k h=>?_⟩)
 ·obtain⟨_,_,_,_,_,_,rfl,_⟩:=h
  rfl
 ·obtain⟨x,y,s,z,v,r,rfl,hz,w0,w⟩:=h;have sA:=(hz.ha.mul hz.ha).add (hz.hb.mul hz.hb);have sp:=(hz.hs.sub hz.hr).add sA;have sB:=sA.add sA;refine⟨x,y,rfl,z,v,rfl,x,y,z,v,rfl,hz.hx.mono (by decide),hz.hy.mono (by decide),hz.hz.mono (by decide),hz.hv.mono (by decide),_,_,rfl,hz.ha.mono (by decide),hz.hb.mono (by decide),w0,λh0=>?_⟩
  have w:=w h0;have h2:=AD h0;have sq:=hz.hs.div sA h0;have sX:=hz.hx.add (hz.ha.mul hz.ht);have sY:=hz.hy.add (hz.hb.mul hz.ht);refine⟨s,r,rfl,hz.hs.mono (by decide),hz.hr.mono (by decide),_,_,rfl,(hz.hs.sub hz.hr).mono (by decide),sA.mono (by decide),_,_,rfl,sA.mono (by decide),sA.mono (by decide),_,_,rfl,h2,sp.mono (by decide),sB.mono (by decide),?_⟩
  refine⟨s,_,rfl,h0,hz.hs.mono (by decide),sA.mono (by decide),_,_,rfl,hz.ht.mono (by decide),hz.ht.mono (by decide),_,_,rfl,sq.mono (by decide),(hz.ht.mul hz.ht).mono (by decide),?_⟩
  refine⟨_,_,_,_,_,rfl,hz.hx.mono (by decide),hz.hy.mono (by decide),hz.ha.mono (by decide),hz.hb.mono (by decide),hz.ht.mono (by decide),?_⟩
  exact⟨_,rfl,few,_,_,_,_,_,rfl,sX.mono (by decide),sY.mono (by decide),hz.hb.neg.mono (by decide),hz.ha.mono (by decide),hz.he.mono (by decide),w⟩
set_option maxHeartbeats 4000000
theorem lY:Sz 1 (1:Rat):=⟨by decide,by decide⟩
theorem gQ (t:Rat):1+t*t≠0:=by
 have:0<=t*t:=by
  rcases NL t with h | h | h
  ·exact Rat.le_of_lt (Qu h h)
  ·have:=Qu (show 0 < -t by grind) (show 0 < -t by grind); grind
  ·subst h; rw [Rat.mul_zero]; decide
 grind
def Lm:Ri Rat->D
 | none=>.non
 | some t=>fr t
def qM:Ri Rat->Rat
 | none=>-1
 | some t=>(1 - t*t) / (1+t*t)
def qN:Ri Rat->Rat
 | none=>0
 | some t=>(t+t) / (1+t*t)
def BB (o:Ri Rat):Prop:=∀ t,o=some t->Sz 4 t
def lw:ce:=λds S k=>∃ o:Ri Rat,ds=[Lm o]/\BB o/\k (W (qM o) (qN o)) S
theorem ii:ar ["drive","square","total"] ["drive"] (aj iP):=dP
theorem rb (Fn:FN K "direction_of" iP f fd) (aA:aN P w K mg base "negative" 1 cH) (aI:aN P w K mg base "times" 3 ft) (aW:aN P w K mg base "plus" 3 iU) (c_:aN P w K mg base "over" 3 nQ) (bJ:aN P w K mg base "minus" 3 jt) (bF:qv K mg "NOUGHT" [0,1]) (iW:qv K mg "ONE" [1,1]):
  aL P w K mg base cN 4 f fd ["drive"] (cX K lw):=by
 refine Fn.okJ ii (λds S k h=>?_) (λcdv A outer s H E hr=>⟨_,(af (aK (aG Dk (ai 0) fT (aM _)) (ag (am (au (aa (dq aA hr (aa (fx iW rfl) ac)) (aa (fx bF rfl) ac))))) aO) (af (ah (i:=1) ii.nd (dq aI hr (aw 0 (aw 0 ac)))) (af (ah (i:=2) ii.nd (dq aW hr (aa (fx iW rfl) (aw 1 ac)))) (ag (am (au (aa (dq c_ hr (aa (dq bJ hr (aa (fx iW rfl) (aw 1 ac))) (aw 2 ac))) (aa (dq c_ hr (aa (dq aW hr (aw 0 (aw 0 ac))) (aw 2 ac))) ac)))))))),λds S k h=>?_⟩)
 ·obtain⟨_,rfl,_⟩:=h
  rfl
 ·obtain⟨o,rfl,ho,w⟩:=h;cases o with
  | none=>exact⟨1,rfl,few,w⟩
  | some t=>
   have s:=ho t rfl;exact⟨t,t,rfl,s.mono (by decide),s.mono (by decide),1,t*t,rfl,lY.mono (by decide),(s.mul s).mono (by decide),1,t*t,rfl,lY.mono (by decide),(s.mul s).mono (by decide),_,_,rfl,gQ t,(lY.sub (s.mul s)).mono (by decide),(lY.add (s.mul s)).mono (by decide),t,t,rfl,s.mono (by decide),s.mono (by decide),_,_,rfl,gQ t,(s.add s).mono (by decide),(lY.add (s.mul s)).mono (by decide),few,w⟩
theorem Am {o:Ri Rat} (h:BB o):Sz 20 (qM o):=by
 cases o with
 | none=>exact⟨by decide,by decide⟩
 | some t=>
  have s:=h t rfl;exact((lY.sub (s.mul s)).div (lY.add (s.mul s)) (gQ t)).mono (by decide)
theorem AT {o:Ri Rat} (h:BB o):Sz 20 (qN o):=by
 cases o with
 | none=>exact⟨by decide,by decide⟩
 | some t=>
  have s:=h t rfl;exact((s.add s).div (lY.add (s.mul s)) (gQ t)).mono (by decide)
def lC:ce:=λds S k=>∃ (x y l:Rat) (o:Ri Rat),ds=[PP x y,fr l,Lm o]/\Sz 30 x/\Sz 30 y/\Sz 14 l/\BB o/\k (PP (x+qM o*l) (y+qN o*l)) S
theorem vP:ar ["middle","length","drive"] ["middle","length","drive"] (aj lV):=dP
theorem xm (Fn:FN K "crank_end" lV f fd) (bc:aN P w K mg base "plain_point" 1 fh) (iK:aN P w K mg base "moved" 4 rG) (i7:aN P w K mg base "direction_of" 4 lw) (cF:aN P w K mg base "place_of" 1 kr):
  aL P w K mg base cN 5 f fd ["middle","length","drive"] (cX K lC):=by
 refine Fn.okJ vP (λds S k h=>?_) (λcdv A outer s H E hr=>⟨_,(ag (am (dq bc hr (aa (dq iK hr (aa (dq cF hr (aw 0 ac)) (aa (dq i7 hr (aw 2 ac)) (aw 1 ac)))) ac)))),λds S k h=>?_⟩)
 ·obtain⟨_,_,_,_,rfl,_⟩:=h
  rfl
 ·obtain⟨x,y,l,o,rfl,hx,hy,hl,ho,w⟩:=h;exact⟨x,y,rfl,o,rfl,ho,x,y,qM o,qN o,l,rfl,hx.mono (by decide),hy.mono (by decide),(Am ho).mono (by decide),(AT ho).mono (by decide),hl.mono (by decide),_,_,rfl,w⟩
def gN:ce:=λds S k=>∃ (x y:Rat),ds=[PP x y]/\k (.bl true) S
theorem oY:ar ["point"] ["point"] (aj gM):=dP
theorem oF (Fn:FN K "is_plain_point" gM f fd) (a8:aN P w K mg base "is_plain" 1 gP):
  aL P w K mg base cN 2 f fd ["point"] (cX K gN):=by
 refine Fn.okJ oY (λds S k h=>?_) (λcdv A outer s H E hr=>⟨_,(ag (am (Kk (dq a8 hr (aa (aJ 0) ac)) (JQ (dq a8 hr (aa (aJ 0) ac)))))),λds S k h=>?_⟩)
 ·obtain⟨_,_,rfl,_⟩:=h
  rfl
 ·obtain⟨x,y,rfl,w⟩:=h;exact⟨_,_,rfl,bq (λ_=>⟨_,_,rfl,w⟩) λz=>absurd rfl z⟩
def iH:ce:=λds S k=>match ds with
 | [.non,.non,.non]=>False/\k .non S
 | _=>False
theorem c9:ar ["step","number","points","one","other","found"] ["step","number","points"] (aj iL):=dP
theorem uu (Fn:FN K "pair_point" iL f fd) (bH:aN P w K mg base "is_plain_point" 2 gN) (fF:mg "len"=none):
  aL P w K mg base cN 3 f fd ["step","number","points"] (cX K iH):=by
 refine Fn.okJ c9 (λds S k h=>?_) (λcdv A outer s H E hr=>⟨_,(af (ah (i:=3) c9.nd (cA du (ai 2) (aJ 0) Zf)) (af (ah (i:=4) c9.nd (cA du (ai 2) (aJ 0) Zf)) (af (aK (WJ.pt (wu (kf (fo (dq bH hr (aw 3 ac)))) (rp (kf (fo (dq bH hr (aw 4 ac))))))) (ag eJ) aO) (af eJ (af (aK (aG jV (cm qg rfl fF lQ (aw 5 ac)) ak (aM _)) (ag eJ) aO) (ag (am (x_ (aG jV (cm qg rfl fF lQ (aw 5 ac)) ak (aM _)) (cA du (ai 5) (aJ 0) Zf) (aJ 5))))))))),λds S k h=>?_⟩)
 ·unfold iH at h
  split at h
  ·rfl
  ·exact h.elim
 ·unfold iH at h
  split at h
  ·exact h.1.elim
  ·exact h.elim
theorem Ds {x y a b s:Rat}:(mh x y a b s).length<=2:=by
 unfold mh
 split
 ·decide
 ·split
  ·show 1<=2; decide
  ·show 2<=2; decide
noncomputable def Al (l:List D) (i:Nat):D:=if l.length=2 then l.getD i .non else l.getD 0 .non
def nG (dy aX cZ:Rh):qV:=λds S k e=>∃ (x y s z v r:Rat) (i n:Nat) (q:Rh),ds=[.tup [.str "pair",.int 2,.int 1,fr s,fr r,.int i],.int n,.ref q]/\(∃ p0 r0,S q=some (.lst (p0::PP z v::PP x y::r0)))/\i < 2/\Cd x y s z v r/\
 ((z - x)*(z - x)+(v - y)*(v - y)=0\/cL x y s z v r=[]->∀ S',cn S S'->e cZ S')/\((z - x)*(z - x)+(v - y)*(v - y)≠0->cL x y s z v r≠[]->∀ S' d,cn S S'->d=Al (cL x y s z v r) i->k d S')
theorem tj {P:Rk} {w:Rn} {K:Fg} {mg:Str->Ri Rg} {base:Ro} {f:Rh} {fd:FuncData} {dy aX cZ:Rh} (Fn:FN K "pair_point" iL f fd) (bH:aN P w K mg base "is_plain_point" 2 gN) (io:uG P w K mg base "circles_meet" 7 (ll aX)) (fF:mg "len"=none) (mP:mg "Stuck"=some (.ref cZ)) (qi_Stuck:F9 K mg "Stuck" cZ) (jZ:mg "NoMeet"=some (.ref aX)) (xw:PySem.W.excIn K aX [.type "ValueError",.type "Exception",.type "BaseException",.type "object"] "ValueError.__new__"=true) (pO:mg "NoField"=some (.ref dy)) (Cm:PySem.W.excIn K dy [.type "ValueError",.type "Exception",.type "BaseException",.type "object"] "ValueError.__new__"=true) (j3:PySem.W.exmOne K (.ref aX) (.ref aX)=some true):
  aL P w K mg base (iy P w) 8 f fd ["step","number","points"] (Hl K (nG dy aX cZ)):=by
 refine Fn.okX c9 (λds S k x h=>?_) (λcdv A outer s H E ex hr hE=>⟨_,(af (ah (i:=3) c9.nd (cA du (ai 2) (aJ 0) Zf)) (af (ah (i:=4) c9.nd (cA du (ai 2) (aJ 0) Zf)) (af (aK (WJ.pt (wu (kf (fo (dq bH hr (aw 3 ac)))) (rp (kf (fo (dq bH hr (aw 4 ac))))))) (ag (t6 hE PySem.F.excBase_ValueError Cm pO rfl)) aO) (af (CH (i:=5) (j:=1) hE qi_Stuck (λex=>(yq io (hr.mono (by decide)) rfl (aw 3 (aa (aJ 0) (aw 4 (aa (aJ 0) ac)))))) (hr.mono (by decide)) rfl rfl (.inl rfl) rfl jZ c9.nd rfl (.inl rfl)) (af (aK (aG jV (cm qg rfl fF lQ (aw 5 ac)) ak (aM _)) (ag (xG (j:=1) hE qi_Stuck (hr.mono (by decide)) rfl rfl (.inl rfl))) aO) (ag (am (x_ (aG jV (cm qg rfl fF lQ (aw 5 ac)) ak (aM _)) (cA du (ai 5) (aJ 0) Zf) (aJ 5))))))))),λds S k h=>?_⟩)
 ·obtain⟨_,_,_,_,_,_,_,_,_,rfl,_⟩:=h
  rfl
 ·obtain⟨x,y,s,z,v,r,i,n,q,rfl,⟨p0,r0,hq⟩,hi,hz,w0,w1⟩:=h;refine⟨_,_,hq,MM,_,_,hq,HY,_,_,rfl,_,_,rfl,x,y,s,z,v,r,rfl,hz,λa0=>⟨j3,⟨_,rfl⟩,w0 (.inl a0) S (cn.refl S)⟩,λa1 S' p e hp=>?_⟩
  have hl:(cL x y s z v r).length<=2:=Ds;have e1:cn S (put S' p (.lst (cL x y s z v r))):=e.put (e.none hp);generalize cL x y s z v r=l at*
  refine⟨_,aq,bq (λz0=>?_) (λz0=>⟨_,aq,bq (λz2=>?_) (λz2=>?_)⟩)⟩
  ·exact⟨⟨_,rfl⟩,w0 (.inr (Rc.mp (by omega))) _ e1⟩
  ·match l,z2 with
   | [a,b],_=>
    have w:=w1 a1 (λz=>by cases z) _ _ e1 rfl
    match i,hi with
    | 0,_=>exact⟨_,_,aq,m_,w⟩
    | 1,_=>exact⟨_,_,aq,HY,w⟩
   | [],z=>exact absurd z (by decide)
   | [_],z=>exact absurd (show (1:Int)=2 from z) (by decide)
  ·match l,z0,z2,hl with
   | [a],_,_,_=>exact⟨_,_,aq,m_,w1 a1 (λz=>by cases z) _ _ e1 rfl⟩
   | [],z,_,_=>exact absurd rfl z
   | [_,_],_,z,_=>exact absurd rfl z
set_option maxHeartbeats 4000000
def vG:ce:=λds S k=>match ds with
 | [.non,.non]=>False/\k .non S
 | _=>False
theorem dW:ar ["machine","drives","points","cranks","number","step"] ["machine","drives"] (aj rm):=dP
theorem F7 (Fn:FN K "stand" rm f fd) (bc:aN P w K mg base "plain_point" 1 fh) (fE:aN P w K mg base "crank_end" 5 lC) (ki:aN P w K mg base "pair_point" 3 iH) (iO:aN P w K mg base "like_at" 8 qb) (fH:mg "enumerate"=none):
  aL P w K mg base cN 9 f fd ["machine","drives"] (cX K vG):=by
 refine Fn.okJ dW (λds S k h=>?_) (λcdv A outer s H E hr=>⟨_,(af (ah (i:=2) dW.nd (fX ac)) (af (ah (i:=3) dW.nd ak) (af (rV PassesOwn.never rfl rfl fH (aw 0 ac) (eC (n:=2) rfl (aH (aB (i:=4) dW.nd) (aH (aB (i:=5) dW.nd) cW))) (ag (aK (aG jV (aJ 5) ik (aM _)) (ag (cS (jy (ai 2) (dq bc hr (aa (au (aa (aJ 5) (aa (aJ 5) ac))) ac))))) (ag (aK (aG jV (aJ 5) ik (aM _)) (af (cS (jy (ai 2) (dq fE hr (aa (cA du (ai 2) (aJ 5) Zf) (aa (aJ 5) (aa (cA du (ai 1) (ai 3) Zf) ac)))))) (ag (ah (i:=3) dW.nd (az eO (ai 3) ak)))) (ag (aK (aG jV (aJ 5) ik (aM _)) (ag (cS (jy (ai 2) (dq ki hr (aw 5 (aw 4 (aw 2 ac))))))) (ag (cS (jy (ai 2) (dq iO hr (aa (cA du (ai 2) (aJ 5) Zf) (aa (cA du (ai 2) (aJ 5) Zf) (aa (aJ 5) (aa (aJ 5) ac))))))))))))))) (ag (am (ai 2)))))),λds S k h=>?_⟩)
 ·unfold vG at h
  split at h
  ·rfl
  ·exact h.elim
 ·unfold vG at h
  split at h
  ·exact h.1.elim
  ·exact h.elim
structure Pm where
 ox:Rat
 oy:Rat
 px:Rat
 py:Rat
 cr:Rat
 s0:Rat
 s1:Rat
 al:Rat
 le:Rat
abbrev Pm.mc (z:Pm) (i:Nat):D:=.tup [.tup [.str "fix",fr z.ox,fr z.oy],.tup [.str "fix",fr z.px,fr z.py],.tup [.str "crank",.int 0,fr z.cr],.tup [.str "pair",.int 2,.int 1,fr z.s0,fr z.s1,.int i],.tup [.str "like",.int 2,.int 3,fr z.al,fr z.le]]
abbrev Pm.ax (z:Pm) (o:Ri Rat):Rat:=z.ox+qM o*z.cr
abbrev Pm.ay (z:Pm) (o:Ri Rat):Rat:=z.oy+qN o*z.cr
noncomputable abbrev Pm.cl (z:Pm) (o:Ri Rat):List D:=cL (z.ax o) (z.ay o) z.s0 z.px z.py z.s1
abbrev Pm.ap (z:Pm) (o:Ri Rat):Rat:=(z.px - z.ax o)*(z.px - z.ax o)+(z.py - z.ay o)*(z.py - z.ay o)
structure HC (z:Pm) (o:Ri Rat):Prop where
 ox:Sz 30 z.ox
 oy:Sz 30 z.oy
 cr:Sz 14 z.cr
 al:Sz 30 z.al
 le:Sz 30 z.le
 dr:BB o
 cz:Cd (z.ax o) (z.ay o) z.s0 z.px z.py z.s1
theorem Iu {u x y:Rat}:PP x y=Pq u (qo x) (qo y):=by
 unfold PP Pq qo;rw [jb (u:=u),jb (u:=u)]
structure Bp (d:D) (u:Rat) (X Y:Q):Prop where
 e:d=Pq u X Y
 f:Fd u
 xa:Sz 248 X.1
 xb:Sz 100 X.2
 ya:Sz 248 Y.1
 yb:Sz 100 Y.2
def yc (dy aX cZ:Rh):qV:=λds S k e=>∃ (z:Pm) (o:Ri Rat) (i:Nat) ,ds=[z.mc i,.tup [Lm o]]/\i < 2/\HC z o/\(z.ap o=0\/z.cl o=[]->∀ S',cn S S'->e cZ S')/\(z.ap o≠0->z.cl o≠[]->∃ u X Y,Bp (Al (z.cl o) i) u X Y/\
 ∀ S' p,cn S S'->S' p=some (.lst [PP z.ox z.oy,PP z.px z.py,PP (z.ax o) (z.ay o),Pq u X Y,Pq u (vA u (qo (z.ax o)) (qo (z.ay o)) X Y (qo z.al) (qo z.le)) (uP u (qo (z.ax o)) (qo (z.ay o)) X Y (qo z.al) (qo z.le))])->k (.ref p) S')
theorem Cg {P:Rk} {w:Rn} {K:Fg} {mg:Str->Ri Rg} {base:Ro} {f:Rh} {fd:FuncData} {dy aX cZ:Rh} (Fn:FN K "stand" rm f fd) (bc:aN P w K mg base "plain_point" 1 fh) (fE:aN P w K mg base "crank_end" 5 lC) (iO:aN P w K mg base "like_at" 8 qb) (jF:uG P w K mg base "pair_point" 8 (nG dy aX cZ)) (fH:mg "enumerate"=none):
  aL P w K mg base (iy P w) 9 f fd ["machine","drives"] (Hl K (yc dy aX cZ)):=by
 refine Fn.okX dW (λds S k x h=>?_) (λcdv A outer s H E ex hr hE=>⟨_,(af (ah (i:=2) dW.nd (fX ac)) (af (ah (i:=3) dW.nd ak) (af (rV PassesOwn.leaving rfl rfl fH (aw 0 ac) (eC (n:=2) rfl (aH (aB (i:=4) dW.nd) (aH (aB (i:=5) dW.nd) cW))) (ag (aK (aG jV (aJ 5) ik (aM _)) (ag (cS (jy (ai 2) (dq bc hr (aa (au (aa (aJ 5) (aa (aJ 5) ac))) ac))))) (ag (aK (aG jV (aJ 5) ik (aM _)) (af (cS (jy (ai 2) (dq fE hr (aa (cA du (ai 2) (aJ 5) Zf) (aa (aJ 5) (aa (cA du (ai 1) (ai 3) Zf) ac)))))) (ag (ah (i:=3) dW.nd (az eO (ai 3) ak)))) (ag (aK (aG jV (aJ 5) ik (aM _)) (ag (cS (jy (ai 2) (xM hE jF (hr.mono (by decide)) rfl (aw 5 (aw 4 (aw 2 ac))))))) (ag (cS (jy (ai 2) (dq iO hr (aa (cA du (ai 2) (aJ 5) Zf) (aa (cA du (ai 2) (aJ 5) Zf) (aa (aJ 5) (aa (aJ 5) ac))))))))))))))) (ag (am (ai 2)))))),λds S k h=>?_⟩)
 ·obtain⟨_,_,_,rfl,_⟩:=h
  rfl
 ·obtain⟨z,o,i,rfl,hi,hz,w0,w1⟩:=h;have lt:∀ n,n<=10->n < sizeLine:=λn h=>BQ (QF h (by decide))
  refine⟨few,λp hp=>⟨(_,none),rfl,trivial,(_,none),rfl,rfl,rfl,⟨_,aq⟩,few,z.ox,z.oy,rfl,_,aq,lt 0 (by decide),?_⟩⟩
  rw [vL]
  show fJ _ _ _ _ [_,_,_,_] [some _,some _,some _,some _,some _,some _] (put S p (.lst [_]))
  refine⟨trivial,(_,none),rfl,rfl,rfl,⟨_,aq⟩,few,z.px,z.py,rfl,_,aq,lt 1 (by decide),?_⟩
  rw [vL]
  show fJ _ _ _ _ [_,_,_] [some _,some _,some _,some _,some _,some _] (put S p (.lst [_,_]))
  refine⟨trivial,(_,none),rfl,rfl,rfl,⟨_,aq⟩,_,_,aq,m_,z.ox,z.oy,z.cr,o,rfl,hz.ox,hz.oy,hz.cr,hz.dr,_,aq,lt 2 (by decide),?_⟩
  rw [vL]
  show fJ _ _ _ _ [_,_] [some _,some _,some _,some _,some _,some _] (put S p (.lst [_,_,_]))
  have e0:cn S (put S p (.lst [PP z.ox z.oy,PP z.px z.py,PP (z.ax o) (z.ay o)])):=cn.new hp;refine⟨trivial,(_,none),rfl,rfl,rfl,⟨_,aq⟩,z.ax o,z.ay o,z.s0,z.px,z.py,z.s1,i,3,p,rfl,⟨_,_,aq⟩,hi,hz.cz,λa S' e1=>w0 a S' (e0.trans e1),λa b S' d e1 hd=>?_⟩
  obtain⟨u,X,Y,hB,w⟩:=w1 a b;have hd:=hd.trans hB.e;subst hd;have h1:S' p=some (.lst [PP z.ox z.oy,PP z.px z.py,PP (z.ax o) (z.ay o)]):=e1 p _ aq;refine⟨_,h1,lt 3 (by decide),?_⟩
  show fJ _ _ _ _ [_] [some _,some _,some _,some _,some _,some _] (put S' p (.lst [_,_,_,_]))
  have sx:Sm 50 (qo (z.ax o)).1 (qo (z.ax o)).2:=⟨hz.cz.hx.mono (by decide),Sz.zero.mono (by decide)⟩
  have sy:Sm 50 (qo (z.ay o)).1 (qo (z.ay o)).2:=⟨hz.cz.hy.mono (by decide),Sz.zero.mono (by decide)⟩
  refine⟨trivial,(_,none),rfl,rfl,rfl,⟨_,aq⟩,_,_,aq,MM,_,_,aq,OC,u,qo (z.ax o),qo (z.ay o),X,Y,z.al,z.le,congrArg (λt=>[t,_,_,_]) (Iu (u:=u)),hB.f,sx,sy,hB.xa,hB.xb,hB.ya,hB.yb,hz.al,hz.le,λS2 e2=>?_⟩
  have h2:=e2 p _ aq;refine⟨_,h2,lt 4 (by decide),?_⟩
  have e3:cn S S2:=((e0.trans e1).put hp).trans e2;exact⟨trivial,w _ p (e3.put hp) aq⟩
set_option maxHeartbeats 4000000
def qx:List (List Int):=(List.range 7).flatMap fun(i:Nat)=>(List.range 7).map fun(j:Nat)=>[(i:Int),(j:Int)]
theorem yr:qx.Nodup:=by decide +kernel
theorem pW {i j:Int} (i0:0<=i) (j0:0<=j) (i1:i<=6) (j1:j<=6):[i,j]∈qx:=by
 unfold qx;rw [List.mem_flatMap];refine⟨i.toNat,QY.mpr (by omega),P5.mpr ⟨j.toNat,QY.mpr (by omega),?_⟩⟩
 rw [Int.toNat_of_nonneg i0,Int.toNat_of_nonneg j0]
def cO (f:α->Q):List α->Q
 | []=>(0,0)
 | a::l=>qa (f a) (cO f l)
theorem mV (x:Q):qa x (0,0)=x:=by
 unfold qa;apply Qk <;> dsimp only <;> grind
theorem o_ (x:Q):qa (0,0) x=x:=by
 unfold qa;apply Qk <;> dsimp only <;> grind
theorem xN (x y z:Q):qa (qa x y) z=qa x (qa y z):=by
 unfold qa;apply Qk <;> dsimp only <;> grind
theorem oo (f g:α->Q):∀ l:List α,cO (λa=>qa (f a) (g a)) l=qa (cO f l) (cO g l)
 | []=>(mV _).symm
 | a::l=>by
  show qa (qa (f a) (g a)) (cO (λa=>qa (f a) (g a)) l)=qa (qa (f a) (cO f l)) (qa (g a) (cO g l))
  rw [oo f g l];unfold qa;apply Qk <;> dsimp only <;> grind
theorem cK {f g:α->Q}:∀ {l:List α},(∀ a∈l,f a=g a)->cO f l=cO g l
 | [],_=>rfl
 | a::l,h=>by
  show qa (f a) (cO f l)=qa (g a) (cO g l)
  rw [h a Qa,cK λb hb=>h b (Qb _ hb)]
theorem mK {f:α->Q}:∀ {l:List α},(∀ a∈l,f a=(0,0))->cO f l=(0,0)
 | [],_=>rfl
 | a::l,h=>by
  show qa (f a) (cO f l)=_
  rw [h a Qa,mK λb hb=>h b (Qb _ hb),mV]
theorem Em (t:Rat) (f:α->Q):∀ l:List α,cO (λa=>qk t (f a)) l=qk t (cO f l)
 | []=>by
  show((0:Rat),(0:Rat))=qk t (0,0)
  unfold qk;apply Qk <;> dsimp only <;> grind
 | a::l=>by
  show qa (qk t (f a)) (cO (λa=>qk t (f a)) l)=qk t (qa (f a) (cO f l))
  rw [Em t f l,LR]
theorem pG (f:α->β->Q):∀ (l:List α) (m:List β),cO (λa=>cO (λb=>f a b) m) l=cO (λb=>cO (λa=>f a b) l) m
 | [],m=>(mK λ_ _=>rfl).symm
 | a::l,m=>by
  show qa (cO (λb=>f a b) m) (cO (λa=>cO (λb=>f a b) m) l)=cO (λb=>qa (f a b) (cO (λa=>f a b) l)) m
  rw [pG f l m,oo]
theorem xS {K:List (List Int)} (nd:K.Nodup) {k0:List Int} (h:k0∈K) (f:List Int->Q):cO (λk=>if k0=k then f k else(0,0)) K=f k0:=by
 induction K with
 | nil=>cases h
 | cons a K ih=>
  rw [QK] at nd
  show qa (if k0=a then f a else(0,0)) (cO (λk=>if k0=k then f k else(0,0)) K)=f k0
  by_cases e:k0=a
  ·subst e;rw [if_pos rfl,mK,mV];intro b hb;rw [if_neg (λz:k0=b=>nd.1 (by rw [z]; exact hb))]
  ·rw [if_neg e,o_];exact ih nd.2 (by
    rcases P9.mp h with q | q
    ·exact absurd q e
    ·exact q)
theorem ye {u:Rat} {x y:Q}:∀ {c:Zr} {s:Q},lT u x y c s=qa s (cO (λp=>qk p.2 (mon u x y p.1)) c)
 | [],s=>(mV s).symm
 | p::c,s=>by
  show lT u x y c (qa s (qk p.2 (mon u x y p.1)))=qa s (qa (qk p.2 (mon u x y p.1)) (cO _ c))
  rw [ye,xN]
theorem oM (x:Q):qk 0 x=(0,0):=by
 unfold qk;apply Qk <;> dsimp only <;> grind
def vφ (u:Rat) (x y:Q) (φ:List Int->Rat):Q:=cO (λk=>qk (φ k) (mon u x y k)) qx
theorem pE {w:List Int->Q}:∀ {c:Zr},(c.map (·.1)).Nodup->(∀ p∈c,p.1∈qx)->cO (λp=>qk p.2 (w p.1)) c=cO (λk=>qk (gR c k) (w k)) qx
 | [],_,_=>(mK λk _=>by show qk 0 (w k)=_; exact oM _).symm
 | p::c,nd,hk=>by
  rw [Qe,QK] at nd
  show qa (qk p.2 (w p.1)) (cO (λp=>qk p.2 (w p.1)) c)=_
  rw [pE nd.2 λq hq=>hk q (Qb _ hq)]
  rw [<- xS yr (hk p Qa) (λk=>qk p.2 (w k)),<- oo]
  refine cK λk _=>?_
  by_cases e:p.1=k
  ·subst e;rw [if_pos rfl,show gR c p.1=0 from bo nd.1,oM,mV]
   congr 1
   show _=((List.find? (λq=>decide (q.1=p.1)) (p::c)).map (·.2)).getD 0
   rw [Qg];simp
  ·rw [if_neg e,o_]
   congr 1
   show _=((List.find? (λq=>decide (q.1=k)) (p::c)).map (·.2)).getD 0
   rw [Qg];simp [e]
   rfl
theorem Ac {u:Rat} {x y:Q} {n m:Nat} {c:Zr} (h:Cv n m 6 c):lT u x y c (0,0)=vφ u x y (gR c):=by
 rw [ye,o_];exact pE h.nd λp hp=>by
  obtain⟨i,j,e,i0,j0,i1,j1⟩:=h.sm p hp;rw [e];exact pW i0 j0 i1 j1
theorem mR {u:Rat} {x y:Q} {φ ψ:List Int->Rat} (h:∀ k,φ k=ψ k):vφ u x y φ=vφ u x y ψ:=cK λk _=>by rw [h k]
theorem A3 {u:Rat} {x y:Q} {φ ψ:List Int->Rat}:vφ u x y (λk=>φ k+ψ k)=qa (vφ u x y φ) (vφ u x y ψ):=by
 unfold vφ;rw [<- oo];refine cK λk _=>?_
 unfold qk qa;apply Qk <;> dsimp only <;> grind
theorem D_ {u t:Rat} {x y:Q} {φ:List Int->Rat}:vφ u x y (λk=>φ k*t)=qk t (vφ u x y φ):=by
 unfold vφ;rw [<- Em];refine cK λk _=>?_
 unfold qk;apply Qk <;> dsimp only <;> grind
theorem wb (u:Rat) (x y:Q):qm u x y=qm u y x:=by
 unfold qm;apply Qk <;> dsimp only <;> grind
theorem FQ (u:Rat) (x y z:Q):qm u (qm u x y) z=qm u x (qm u y z):=by
 unfold qm;apply Qk <;> dsimp only <;> grind
theorem Fz (u:Rat) (x:Q):qm u x (1,0)=x:=by
 unfold qm;apply Qk <;> dsimp only <;> grind
theorem Jb (u:Rat) (x y z:Q):qm u x (qa y z)=qa (qm u x y) (qm u x z):=by
 unfold qm qa;apply Qk <;> dsimp only <;> grind
theorem GR (u:Rat) (x:Q):qm u x (0,0)=(0,0):=by
 unfold qm;apply Qk <;> dsimp only <;> grind
theorem rH (u:Rat) (x:Q) (m:Nat):∀ n,i5 u x (m+n)=qm u (i5 u x m) (i5 u x n)
 | 0=>(Fz u _).symm
 | n+1=>by
  show qm u (i5 u x (m+n)) x=qm u (i5 u x m) (qm u (i5 u x n) x)
  rw [rH u x m n,FQ]
theorem Gy {u:Rat} {x y:Q} {i j i' j':Int} (i0:0<=i) (j0:0<=j) (i0':0<=i') (j0':0<=j'):mon u x y [i+i',j+j']=qm u (mon u x y [i,j]) (mon u x y [i',j']):=by
 show qm u (i5 u x (i+i').toNat) (i5 u y (j+j').toNat)=qm u (qm u (i5 u x i.toNat) (i5 u y j.toNat)) (qm u (i5 u x i'.toNat) (i5 u y j'.toNat))
 rw [Int.toNat_add i0 i0',Int.toNat_add j0 j0',rH,rH];generalize i5 u x i.toNat=a;generalize i5 u x i'.toNat=b;generalize i5 u y j.toNat=c;generalize i5 u y j'.toNat=d;unfold qm;apply Qk <;> dsimp only <;> grind
theorem zu (u:Rat) (x:Q) (f:α->Q):∀ l:List α,qm u x (cO f l)=cO (λa=>qm u x (f a)) l
 | []=>GR u x
 | a::l=>by
  show qm u x (qa (f a) (cO f l))=qa (qm u x (f a)) (cO (λa=>qm u x (f a)) l)
  rw [Jb,zu u x f l]
theorem ww (x:Q) (f:List Int×Rat->Rat):∀ (l:Zr) (s:Rat),qk (fL f l s) x=qa (qk s x) (cO (λp=>qk (f p) x) l)
 | [],s=>(mV _).symm
 | p::l,s=>by
  show qk (fL f l (s+f p)) x=qa (qk s x) (qa (qk (f p) x) (cO (λp=>qk (f p) x) l))
  rw [ww x f l,<- xN]
  congr 1
  unfold qk qa;apply Qk <;> dsimp only <;> grind
theorem FV {l l':Zr} {k:List Int} {x:Q}:qk (eV l l' k) x=cO (λp=>cO (λq=>if qZ p.1 q.1=k then qk (p.2*q.2) x else(0,0)) l') l:=by
 rw [hV,ww,oM,o_];refine cK λp _=>?_
 show qk (fL (λq=>lv p q k) l' 0) x=_
 rw [ww,oM,o_];refine cK λq _=>?_
 unfold lv
 split
 ·rfl
 ·exact oM x
set_option maxHeartbeats 4000000
def Kb (b:Int) (c:Zr):Prop:=∀ p∈c,∃ i j:Int,p.1=[i,j]/\0<=i/\0<=j/\i<=b/\j<=b
theorem Kb.k7 {c:Zr} {b:Int} (h:Kb b c) (hb:b<=6):∀ p∈c,p.1∈qx:=λp hp=>by
 obtain⟨i,j,e,i0,j0,i1,j1⟩:=h p hp;rw [e];exact pW i0 j0 (by omega) (by omega)
theorem IB {u:Rat} {x y:Q} {φ:List Int->Rat} {c:Zr} (h:dF φ c) (k:Kb 6 c):vφ u x y φ=cO (λp=>qk p.2 (mon u x y p.1)) c:=by
 rw [pE h.nd (k.k7 (by decide))]
 exact cK λk _=>by rw [h.at_ k]
theorem ow {u:Rat} {x y:Q} {φ ψ:List Int->Rat} {c c':Zr} (h:dF φ c) (h':dF ψ c') (k:Kb 3 c) (k':Kb 3 c'):vφ u x y (bE φ ψ)=qm u (vφ u x y φ) (vφ u x y ψ):=by
 have up:∀ {c:Zr},Kb 3 c->Kb 6 c:=λz p hp=>by
  obtain⟨i,j,e,i0,j0,i1,j1⟩:=z p hp;exact⟨i,j,e,i0,j0,by omega,by omega⟩
 rw [IB h (up k),IB h' (up k'),mR λk=>(ja h h' k).symm]
 unfold vφ;rw [cK λk _=>FV,pG,wb,zu]
 refine cK λp hp=>?_
 rw [pG,wb,zu];refine cK λq hq=>?_
 obtain⟨i,j,e,i0,j0,i1,j1⟩:=k p hp;obtain⟨i',j',e',i0',j0',i1',j1'⟩:=k' q hq;rw [e,e']
 show cO (λk=>if [i+i',j+j']=k then qk (p.2*q.2) (mon u x y k) else(0,0)) qx=_
 rw [xS yr (pW (by omega) (by omega) (by omega) (by omega)) (λk=>qk (p.2*q.2) (mon u x y k)),Gy i0 j0 i0' j0',GA]
theorem AV {u:Rat} {x y:Q} {φ ψ:List Int->Rat}:vφ u x y (λk=>φ k - ψ k)=qs (vφ u x y φ) (vφ u x y ψ):=by
 have e:vφ u x y (λk=>φ k - ψ k)=vφ u x y (λk=>φ k+ψ k*(-1)):=mR λk=>by grind
 rw [e,A3,D_];unfold qa qs qk;apply Qk <;> dsimp only <;> grind
theorem DD {u:Rat} {x y:Q} {c:Zr} (nd:(c.map (·.1)).Nodup) (k:Kb 6 c):vφ u x y (gR c)=cO (λp=>qk p.2 (mon u x y p.1)) c:=(pE nd (k.k7 (by decide))).symm
theorem Hj {u:Rat} {x:Q}:i5 u x 0=(1,0):=rfl
theorem Fb {u:Rat} {x:Q}:i5 u x 1=x:=by
 show qm u (1,0) x=x
 rw [wb,Fz]
theorem HG {u a b r:Rat} {x y:Q}:vφ u x y (gR (qX a b r))=(a*x.1+b*y.1+r,a*x.2+b*y.2):=by
 rw [DD zA (λp hp=>by
  simp only [P9,Qh,or_false] at hp;rcases hp with rfl | rfl | rfl
  ·exact⟨1,0,rfl,by decide,by decide,by decide,by decide⟩
  ·exact⟨0,1,rfl,by decide,by decide,by decide,by decide⟩
  ·exact⟨0,0,rfl,by decide,by decide,by decide,by decide⟩)]
 show qa (qk a (qm u (i5 u x 1) (i5 u y 0))) (qa (qk b (qm u (i5 u x 0) (i5 u y 1))) (qa (qk r (qm u (i5 u x 0) (i5 u y 0))) (0,0)))=_
 rw [Hj,Hj,Fb,Fb];unfold qa qk qm;apply Qk <;> dsimp only <;> grind
theorem M6 {u:Rat} {x:Q}:i5 u x 2=qm u x x:=by
 rw [show (2:Nat)=1+1 from rfl,rH,Fb]
theorem MZ {u a b s:Rat} {x y:Q}:vφ u x y (gR (uN a b s))=(x.1*x.1+x.2*x.2*u+(y.1*y.1+y.2*y.2*u) - (a+a)*x.1 - (b+b)*y.1+(a*a+b*b - s),x.1*x.2+x.2*x.1+(y.1*y.2+y.2*y.1) - (a+a)*x.2 - (b+b)*y.2):=by
 rw [DD sI (λp hp=>by
  simp only [P9,Qh,or_false] at hp;rcases hp with rfl | rfl | rfl | rfl | rfl
  ·exact⟨2,0,rfl,by decide,by decide,by decide,by decide⟩
  ·exact⟨0,2,rfl,by decide,by decide,by decide,by decide⟩
  ·exact⟨1,0,rfl,by decide,by decide,by decide,by decide⟩
  ·exact⟨0,1,rfl,by decide,by decide,by decide,by decide⟩
  ·exact⟨0,0,rfl,by decide,by decide,by decide,by decide⟩)]
 show qa (qk 1 (qm u (i5 u x 2) (i5 u y 0))) (qa (qk 1 (qm u (i5 u x 0) (i5 u y 2))) (qa (qk (-(a+a)) (qm u (i5 u x 1) (i5 u y 0))) (qa (qk (-(b+b)) (qm u (i5 u x 0) (i5 u y 1))) (qa (qk (a*a+b*b - s) (qm u (i5 u x 0) (i5 u y 0))) (0,0)))))=_
 rw [Hj,Hj,Fb,Fb,M6,M6];unfold qa qk qm;apply Qk <;> dsimp only <;> grind
theorem Ke {u s:Rat} {A B C D E F p q:Q} (h1:C=qk 2 (qa (qm u p A) (qm u q B))) (h2:F=qk 2 (qa (qm u p D) (qm u q E))) (h3:qa (qm u p p) (qm u q q)=(s,0)):
  qs (qa (qm u (qs (qm u C E) (qm u F B)) (qs (qm u C E) (qm u F B))) (qm u (qs (qm u A F) (qm u D C)) (qs (qm u A F) (qm u D C)))) (qk (4*s) (qm u (qs (qm u A E) (qm u D B)) (qs (qm u A E) (qm u D B))))=(0,0):=by
 have e1:qs (qm u C E) (qm u F B)=qk 2 (qm u p (qs (qm u A E) (qm u D B))):=by
  subst h1 h2;unfold qs qa qk qm;apply Qk <;> dsimp only <;> grind
 have e2:qs (qm u A F) (qm u D C)=qk 2 (qm u q (qs (qm u A E) (qm u D B))):=by
  subst h1 h2;unfold qs qa qk qm;apply Qk <;> dsimp only <;> grind
 rw [e1,e2];generalize qs (qm u A E) (qm u D B)=V;have e3:qa (qm u (qk 2 (qm u p V)) (qk 2 (qm u p V))) (qm u (qk 2 (qm u q V)) (qk 2 (qm u q V)))=qk 4 (qm u (qa (qm u p p) (qm u q q)) (qm u V V)):=by
  unfold qa qk qm;apply Qk <;> dsimp only <;> grind
 rw [e3,h3];unfold qs qk qm;apply Qk <;> dsimp only <;> grind
set_option maxHeartbeats 4000000
theorem fC {d:Nat} {M:Int} {T:Nat} {φ:List Int->Rat} (w:Wf d M T φ) (hd:d<=6):∃ c,dF φ c:=by
 have nd:(((sQ d).map λk=>(k,φ k)).map (·.1)).Nodup:=by
  rw [QH]
  show((sQ d).map id).Nodup
  rw [List.map_id]
  match d,hd with
  | 0,_=>decide +kernel
  | 1,_=>decide +kernel
  | 2,_=>decide +kernel
  | 3,_=>decide +kernel
  | 4,_=>decide +kernel
  | 5,_=>decide +kernel
  | 6,_=>decide +kernel
 refine⟨nz ((sQ d).map λk=>(k,φ k)),dj nd,λp hp=>?_,λp hp=>(fw.mp hp).2,λk=>?_⟩
 ·obtain⟨k,hk,rfl⟩:=P5.mp (fw.mp hp).1;obtain⟨i,j,e,_⟩:=w.dg k (fw.mp hp).2;exact⟨i,j,e⟩
 ·rw [yG nd]
  by_cases z:φ k=0
  ·rcases lF (z:=(0:Rat)) k nd with q | q
   ·exact(bo q).trans z.symm
   ·obtain⟨k',hk',e⟩:=P5.mp q;have e1:k'=k:=congrArg Prod.fst e;have e2:φ k'=gR ((sQ d).map λk=>(k,φ k)) k:=congrArg Prod.snd e
    rw [<- e2,e1]
  ·obtain⟨i,j,e,i0,j0,ij⟩:=w.dg k z;exact eK nd (P5.mpr ⟨k,by rw [e]; exact yo i0 j0 ij,rfl⟩)
theorem oQ {d:Nat} {M:Int} {T:Nat} {φ:List Int->Rat} {c:Zr} (w:Wf d M T φ) (h:dF φ c) {b:Int} (hb:(d:Int)<=b):Kb b c:=λp hp=>by
 have z:=h.mem.mp hp;obtain⟨i,j,e,i0,j0,ij⟩:=w.dg p.1 (by rw [z.2]; exact z.1)
 exact⟨i,j,e,i0,j0,by omega,by omega⟩
theorem PH {z:Cp} {M1 M2:Int} (h:dX z M1 M2) {u:Rat} {x y:Q}:vφ u x y z.U=
  qs (qa (qm u (qs (qm u (vφ u x y z.C) (vφ u x y z.E)) (qm u (vφ u x y z.F) (vφ u x y z.B))) (qs (qm u (vφ u x y z.C) (vφ u x y z.E)) (qm u (vφ u x y z.F) (vφ u x y z.B)))) (qm u (qs (qm u (vφ u x y z.A) (vφ u x y z.F)) (qm u (vφ u x y z.D) (vφ u x y z.C))) (qs (qm u (vφ u x y z.A) (vφ u x y z.F)) (qm u (vφ u x y z.D) (vφ u x y z.C))))) (qk (4*z.s0) (qm u (qs (qm u (vφ u x y z.A) (vφ u x y z.E)) (qm u (vφ u x y z.D) (vφ u x y z.B))) (qs (qm u (vφ u x y z.A) (vφ u x y z.E)) (qm u (vφ u x y z.D) (vφ u x y z.B))))):=by
 obtain⟨gx,rx⟩:=fC h.wX (by decide)
 obtain⟨gy,ry⟩:=fC h.wY (by decide)
 obtain⟨gv,rv⟩:=fC h.wV (by decide)
 have kA:=oQ h.wA h.okA.res (b:=3) (by decide)
 have kB:=oQ h.wB h.okB.res (b:=3) (by decide)
 have kC:=oQ h.wC h.okC.res (b:=3) (by decide)
 have kD:=oQ h.wD h.okD.res (b:=3) (by decide)
 have kE:=oQ h.wE h.okE.res (b:=3) (by decide)
 have kF:=oQ h.wF h.okF.res (b:=3) (by decide)
 have kX:=oQ h.wX rx (b:=3) (by decide)
 have kY:=oQ h.wY ry (b:=3) (by decide)
 have kV:=oQ h.wV rv (b:=3) (by decide)
 have vX:vφ u x y z.X=qs (qm u (vφ u x y z.C) (vφ u x y z.E)) (qm u (vφ u x y z.F) (vφ u x y z.B)):=by
  rw [<- ow h.okC.res h.okE.res kC kE,<- ow h.okF.res h.okB.res kF kB];exact AV
 have vY:vφ u x y z.Y=qs (qm u (vφ u x y z.A) (vφ u x y z.F)) (qm u (vφ u x y z.D) (vφ u x y z.C)):=by
  rw [<- ow h.okA.res h.okF.res kA kF,<- ow h.okD.res h.okC.res kD kC];exact AV
 have vV:vφ u x y z.V=qs (qm u (vφ u x y z.A) (vφ u x y z.E)) (qm u (vφ u x y z.D) (vφ u x y z.B)):=by
  rw [<- ow h.okA.res h.okE.res kA kE,<- ow h.okD.res h.okB.res kD kB];exact AV
 rw [<- vX,<- vY,<- vV,<- ow rx rx kX kX,<- ow ry ry kY kY,<- ow rv rv kV kV,<- A3,<- D_];exact AV
theorem Lb {z:Cp} {M1 M2:Int} (h:dX z M1 M2) {u a b:Rat} {X Y:Q} (h1:(a - z.ox)*(a - z.ox)+(b - z.oy)*(b - z.oy)=z.cr*z.cr)
  (h2:qa (qm u (qs X (qo a)) (qs X (qo a))) (qm u (qs Y (qo b)) (qs Y (qo b)))=(z.s0,0)) (h3:qa (qm u (qs X (qo z.px)) (qs X (qo z.px))) (qm u (qs Y (qo z.py)) (qs Y (qo z.py)))=(z.s1,0)):
  vφ u (vA u (qo a) (qo b) X Y (qo z.al) (qo z.le)) (uP u (qo a) (qo b) X Y (qo z.al) (qo z.le)) z.U=(0,0):=by
 rw [PH h];refine Ke (p:=qs X (qo a)) (q:=qs Y (qo b)) ?_ ?_ h2
 ·unfold Cp.C Cp.A Cp.B;rw [MZ,HG,HG];unfold vA uP qo qa qs qk qm at*
  obtain⟨X1,X2⟩:=X;obtain⟨Y1,Y2⟩:=Y;dsimp only at*
  have g1:=congrArg Prod.fst h2;have g2:=congrArg Prod.snd h2;dsimp only at g1 g2
  apply Qk <;> dsimp only <;> grind
 ·unfold Cp.F Cp.D Cp.E;rw [MZ,HG,HG];unfold vA uP qo qa qs qk qm at*
  obtain⟨X1,X2⟩:=X;obtain⟨Y1,Y2⟩:=Y;dsimp only at*
  have g1:=congrArg Prod.fst h2;have g2:=congrArg Prod.snd h2;have g3:=congrArg Prod.fst h3;have g4:=congrArg Prod.snd h3;dsimp only at g1 g2 g3 g4
  apply Qk <;> dsimp only <;> grind
set_option maxHeartbeats 4000000
def dg:List Int->Int
 | [i,j]=>i+j
 | _=>0
def J4 (c:Zr) (m:Int):Prop:=(∃ p∈c,dg p.1=m)/\∀ p∈c,dg p.1<=m
theorem J4.uniq {c:Zr} {m n:Int} (h:J4 c m) (h':J4 c n):m=n:=by
 obtain⟨⟨p,hp,e⟩,h2⟩:=h;obtain⟨⟨p',hp',e'⟩,h2'⟩:=h';have:=h2 p' hp';have:=h2' p hp;omega
def Bg (c:Zr):Prop:=∀ p∈c,∃ i j:Int,p.1=[i,j]/\0<=i/\0<=j/\i<=20/\j<=20
theorem A2 {S:DH} {p f:Rh} {c:Zr} {e1:Nat} {k:DK} (hp:S p=none) (hf:S f=some (dS (dG c) e1)) (sm:Bg c) (kk:∀ S2,cn S S2->S2 p=some (.lst ((c.map λx=>dg x.1).map D.int))->k (.ref p) S2):
  ∀ (av don:Zr) (l0:Ri D) (S1:DH),c=don++av->cn S S1->S1 p=some (.lst ((don.map λx=>dg x.1).map D.int))->c.length<=100->
   gE (λS=>S f=some (dS (dG c) e1)) p (tE 0) (tG (CY Nk (CY BV (qj 0) (dC (D.int 0))) (CY BV (qj 0) (dC (D.int 1))))) k (av.map λx=>gH x.1) ((don.map λx=>dg x.1).map D.int) [l0] S1
 | [],don,l0,S1,ec,x1,h1,_=>by
  rw [Qn] at ec;subst ec;exact⟨x1 _ _ hf,kk S1 x1 h1⟩
 | q::av,don,l0,S1,ec,x1,h1,hl=>by
  have f1:=x1 _ _ hf;have hd:don.length < 100:=by have:=congrArg List.length ec; rw [Ql,Qf] at this; omega
  have ec':c=(don++[q])++av:=by rw [ec]; simp
  obtain⟨i,j,e,_⟩:=sm q (by rw [ec]; simp)
  have ea:(don.map λx=>dg x.1).map D.int++[D.int (i+j)]=((don++[q]).map λx=>dg x.1).map D.int:=by simp [dg,e]
  rw [Qe,e];refine⟨f1,h1,by rw [P6,P6]; exact lim (by omega),?_⟩
  show gE _ _ _ _ _ _ ((don.map λx=>dg x.1).map D.int++[D.int (i+j)]) _ (put S1 p (.lst ((don.map λx=>dg x.1).map D.int++[D.int (i+j)])))
  rw [ea];exact A2 hp hf sm kk av (don++[q]) _ _ ec' (x1.put hp) aq hl
theorem J7 {c:Zr} {m:Int} (h1:m∈c.map λx=>dg x.1) (h2:∀ x∈c.map λx=>dg x.1,x<=m):J4 c m:=by
 obtain⟨p,hp,e⟩:=P5.mp h1;exact⟨⟨p,hp,e⟩,λq hq=>h2 _ (P5.mpr ⟨q,hq,rfl⟩)⟩
theorem Cv.small {n m:Nat} {b:Int} {c:Zr} (h:Cv n m b c) (hb:b<=20):Bg c:=λp hp=>by
 obtain⟨i,j,e,a1,a2,a3,a4⟩:=h.sm p hp;exact⟨i,j,e,a1,a2,by omega,by omega⟩
def lJ:ce:=λds S k=>∃ (a:Rh) (c:Zr) (ep:Nat),ds=[.ref a]/\S a=some (dS (dG c) ep)/\c.length<=100/\Bg c/\(c=[]->∀ S',cn S S'->k .non S')/\∀ S' m,cn S S'->J4 c m->k (.int m) S'
theorem wT:ar ["curve"] ["curve"] (aj lA):=dP
theorem xj (Fn:FN K "degree_of" lA f fd) (lg:mg "max"=none):
  aL P w K mg base cN 1 f fd ["curve"] (cX K lJ):=by
 refine Fn.okJ wT (λds S k h=>?_) (λcdv A outer s H E hr=>⟨_,(ag (am (Ic rfl lg wO (aa (tP rfl (wy (N:=["key"]) (cap:=[none]) rfl rfl rfl rfl trivial rfl rfl trivial) (wR (ai 0)) (λ_ _ _ _=>(aB (i:=0) (show List.Nodup (["key"]:List Str) from by decide +kernel))) (λ_ _ _ _=>(az eO (aJ 0) (aJ 0)))) ac) fT))),λds S k h=>?_⟩)
 ·obtain⟨_,_,_,rfl,_⟩:=h
  rfl
 ·obtain⟨a,c,ep,rfl,ha,hl,sm,w0,w⟩:=h;refine⟨_,_,ha,λp hp=>?_⟩
  rw [Ko];refine A2 (S:=S) hp ha sm (λS2 x2 h2=>⟨_,h2,λe=>w0 (List.map_eq_nil_iff.mp e) S2 x2,λm h1 h2=>w S2 m x2 (J7 h1 h2)⟩) c [] none _ rfl (cn.new hp) aq hl
def il (m:Int) (c:Zr):Zr:=c.filter λp=>decide (dg p.1=m)
def sv:ce:=λds S k=>∃ (a:Rh) (c:Zr) (ep:Nat),ds=[.ref a]/\S a=some (dS (dG c) ep)/\(c.map (·.1)).Nodup/\c.length<=100/\c≠[]/\Bg c/\∀ S' p ep' m,cn S S'->S p=none->J4 c m->S' p=some (dS (dG (il m c)) ep')->k (.ref p) S'
theorem hZ:ar ["curve","degree","told","key","fraction"] ["curve"] (aj nN):=dP
theorem yx (Fn:FN K "top_part" nN f fd) (fD:aN P w K mg base "degree_of" 1 lJ):
  aL P w K mg base cN 2 f fd ["curve"] (cX K sv):=by
 refine Fn.okJ hZ (λds S k h=>?_) (λcdv A outer s H E hr=>⟨_,(af (ah (i:=1) hZ.nd (dq fD hr (aw 0 ac))) (af (ah (i:=2) hZ.nd kc) (af (dE PassesOwn.never rfl (fm (ai 0)) (eC (n:=2) rfl (aH (aB (i:=3) hZ.nd) (aH (aB (i:=4) hZ.nd) cW))) (ag (aK (aG jV (az eO (aJ 3) (aJ 3)) (ai 1) (aM _)) (ag (dU (ai 4) (jj hr (ai 2) (ai 3)))) aO))) (ag (am (ai 2)))))),λds S k h=>?_⟩)
 ·obtain⟨_,_,_,rfl,_⟩:=h
  rfl
 ·obtain⟨a,c,ep,rfl,ha,nd,hl,ne,sm,w⟩:=h;refine⟨a,c,ep,rfl,ha,hl,sm,λe=>absurd e ne,λS0 m x0 hm=>?_⟩
  have ha0:=x0 _ _ ha;refine λp hp e0=>⟨_,_,bO hp ha0,?_⟩
  have nap:a≠p:=jR ha0 hp;refine df (λr L S'=>∃ (don av:Zr) (e1:Nat) (l3 l4:Ri D),c=don++av/\r=fB (dG av)/\L=[some (.ref a),some (.int m),some (.ref p),l3,l4]/\cn S0 S'/\S' a=some (dS (dG c) ep)/\S' p=some (dS (dG (il m don)) e1)) (λr L S' z9=>by obtain⟨_,_,_,_,_,_,_,_,_,h,_⟩:=z9; exact h) ?_ ?_ _ _ _ ⟨[],c,e0,none,none,rfl,rfl,rfl,cn.new hp,bO hp ha0,aq⟩
  ·rintro d r L S1 N1 ⟨don,av,e1,l3,l4,ec,er,rfl,x1,a1,p1⟩ hN;cases av with
   | nil=>cases er
   | cons q av=>
    cases er;have nq:=mH (p:=q) (ec▸nd);have lz:(il m don).length<=don.length:=List.length_filter_le _ _;have hd:don.length < 100:=by have:=congrArg List.length ec; rw [Ql,Qf] at this; omega
    obtain⟨k',v⟩:=q;obtain⟨i,j,ek,_⟩:=sm (k',v) (by rw [ec]; simp)
    have ek:k'=[i,j]:=ek;subst ek;refine⟨([gH [i,j],fr v],none),rfl,rfl,rfl,AA (λh0=>⟨_,_,[i,j],p1,rfl,by rw [eF]; exact lim (by omega),λe2=>hN _ _ ⟨don++[([i,j],v)],av,e2,_,_,by rw [ec]; simp,rfl,rfl,x1.put hp,by rw [bV nap]; exact a1,?_⟩⟩) (λh0=>hN _ _ ⟨don++[([i,j],v)],av,e1,_,_,by rw [ec]; simp,rfl,rfl,x1,a1,?_⟩)⟩
    ·have h0:i+j=m:=by simpa using h0
     rw [aq,g9 (f:=fr) (l:=il m don) (k:=[i,j]) (x:=v) (w6 nq)];simp [il,List.filter_append,dg,h0]
    ·have h0:¬ i+j=m:=by simpa using h0
     rw [p1];simp [il,List.filter_append,dg,h0]
  ·rintro L S1 ⟨don,av,e1,l3,l4,ec,er,rfl,x1,a1,p1⟩;cases av with
   | cons q av=>cases er
   | nil=>
    rw [Qn] at ec;subst ec;exact w S1 p e1 m (x0.trans x1) (x0.none hp) hm p1
set_option maxHeartbeats 4000000
theorem LN {m n:Nat} (h1:m*m < n) (h2:n < (m+1)*(m+1)) (k:Nat):k*k≠n:=λe=>by
 subst e;rcases Nat.lt_or_ge m k with h | h
 ·have:=Nat.mul_le_mul (show m+1<=k from h) (show m+1<=k from h)
  omega
 ·have:=Nat.mul_le_mul h h;omega
theorem JZ {q:Rat} {m n:Nat} (h:q.num=(n:Int)) (h1:m*m < n) (h2:n < (m+1)*(m+1)):ug q:=λr e=>by
 have e1:=congrArg Rat.num e;rw [s_,h] at e1;have:=congrArg Int.natAbs e1;rw [QZ] at this;exact LN h1 h2 _ this
theorem Js:Fd 2:=⟨by decide,JZ (q:=2) (m:=1) (n:=2) rfl (by decide) (by decide),(show Sz 2 2 from⟨by decide,by decide⟩).mono (by decide)⟩
theorem Jl {a s:Rat} (no:ug s) (ha:a≠0):ug (a*a*s):=λr e=>no (r / a) (by
 have h:r / a*a=r:=Rat.div_mul_cancel ha;generalize r / a=t at h;subst h;have:a*a*(t*t - s)=0:=by grind
 have h2:a*a≠0:=by grind
 grind)
theorem IS {p a s:Rat} (s0:0 < s) (no:ug s):Gi p (ss a*s)=N s p a:=by
 by_cases ha:a=0
 ·subst ha;rw [show ss 0*s=0 by unfold ss; grind,DF]
  exact jb
 ·rw [Fx (by rw [si s0]; exact Jl no ha)]
  rfl
theorem Ik {p a ρ:Rat} (r0:0 < ρ):Gi p (ss a*(ρ*ρ))=.tup [fr (p+a*ρ),fr 0]:=by
 have s0:0 < ρ*ρ:=Qu r0 r0;have n1:0<=ab a*ρ:=Qo (qB a) (Rat.le_of_lt r0);have n2:ab a*ρ*(ab a*ρ)=ab (ss a*(ρ*ρ)):=by
  rw [si s0];unfold ab
  split <;> grind
 rw [sC n1 n2];have e:sg (ab a*ρ) (ss a*(ρ*ρ))=a*ρ:=by
  have h:=JK (b:=a) s0;unfold sg ab;rcases NL a with z | z | z
  ·have:¬ ss a*(ρ*ρ) < 0:=λq=>by rw [rC q,w_ z] at h; exact absurd h (by decide)
   rw [if_neg this,if_neg (by grind)]
  ·have:ss a*(ρ*ρ) < 0:=by
    have:Hi (ss a*(ρ*ρ))=-1:=by rw [h,rC z]
    unfold Hi at this
    split at this
    ·exact absurd this (by decide)
    ·split at this
     ·assumption
     ·exact absurd this (by decide)
   rw [if_pos this,if_pos z]; grind
  ·subst z
   split <;> grind
 rw [e]
theorem JI {s:Rat} (s0:0 < s):ug s\/∃ ρ,0 < ρ/\ρ*ρ=s:=by
 by_cases h:∃ r,r*r=s
 ·obtain⟨r,e⟩:=h
  right
  rcases NL r with z | z | z
  ·exact⟨r,z,e⟩
  ·exact⟨-r,by grind,by grind⟩
  ·subst z; grind
 ·exact .inl λr e=>h ⟨r,e⟩
theorem Mm {x y a b s:Rat} (s0:0 < s) (no:ug s):MP x y a b s=Pq s (x,a) (y,b):=by
 unfold MP;rw [IS s0 no,IS s0 no]
 rfl
theorem IX {x y a b ρ:Rat} (r0:0 < ρ):MP x y a b (ρ*ρ)=PP (x+a*ρ) (y+b*ρ):=by
 unfold MP;rw [Ik r0,Ik r0]
 rfl
theorem Ax {n m:Nat} (h:n*n < 2 ^ (2*m)):n < 2 ^ m:=by
 rcases Nat.lt_or_ge n (2 ^ m) with z | z
 ·exact z
 ·have h2:=Nat.mul_le_mul z z;rw [<- Nat.pow_add,show m+m=2*m by omega] at h2
  omega
theorem CT {m:Nat} {q r:Rat} (h:Sz (2*m) q) (e:r*r=q):Sz m r:=by
 subst e;have h1:(r*r).num.natAbs < 2 ^ (2*m):=h.num;have h2:((r*r).den:Int).natAbs < 2 ^ (2*m):=h.den;rw [s_,QZ] at h1;rw [wN,Int.natAbs_natCast] at h2;exact⟨Ax h1,by show((r.den:Nat):Int).natAbs < 2 ^ m; rw [Int.natAbs_natCast]; exact Ax h2⟩
theorem HI {x y s z v r t A e σ:Rat} (hσ:σ*σ=1) (hA:A=(z - x)*(z - x)+(v - y)*(v - y)) (ht:t*(A+A)=s - r+A) (he:e*A=s - t*t*A):
  jw e (qs (x+(z - x)*t,σ*-(v - y)) (qo x)) (qs (y+(v - y)*t,σ*(z - x)) (qo y))=(s,0)/\jw e (qs (x+(z - x)*t,σ*-(v - y)) (qo z)) (qs (y+(v - y)*t,σ*(z - x)) (qo v))=(r,0)/\
  AE e (qo x) (qo y) (qo z) (qo v) (x+(z - x)*t,σ*-(v - y)) (y+(v - y)*t,σ*(z - x))=(0,σ*A):=by
 simp only [jw,AE,qa,qm,qs,qo];refine⟨Qk ?_ ?_,Qk ?_ ?_,Qk ?_ ?_⟩ <;> dsimp only <;> grind
theorem HR {u x y s z v r t A ρ σ:Rat} (hσ:σ*σ=1) (hA:A=(z - x)*(z - x)+(v - y)*(v - y)) (ht:t*(A+A)=s - r+A) (he:ρ*ρ*A=s - t*t*A):
  jw u (qs (qo (x+(z - x)*t+σ*-(v - y)*ρ)) (qo x)) (qs (qo (y+(v - y)*t+σ*(z - x)*ρ)) (qo y))=(s,0)/\jw u (qs (qo (x+(z - x)*t+σ*-(v - y)*ρ)) (qo z)) (qs (qo (y+(v - y)*t+σ*(z - x)*ρ)) (qo v))=(r,0)/\
  AE u (qo x) (qo y) (qo z) (qo v) (qo (x+(z - x)*t+σ*-(v - y)*ρ)) (qo (y+(v - y)*t+σ*(z - x)*ρ))=(σ*A*ρ,0):=by
 simp only [jw,AE,qa,qm,qs,qo];refine⟨Qk ?_ ?_,Qk ?_ ?_,Qk ?_ ?_⟩ <;> dsimp only <;> grind
theorem AL {n d:Int} {k:Nat} {q:Rat} (d0:d≠0) (e:q*(d:Rat)=(n:Rat)) (hn:Bt k n) (hd:Bt k d):Sz k q:=by
 have d1:(d:Rat)≠0:=λz=>d0 (by exact_mod_cast z)
 have e1:q=Rat.divInt n d:=by
  rw [QB,<- e,Rat.mul_div_cancel d1]
 rw [e1];exact⟨by rw [<- oO d0]; exact hn.le (HM.aS _ _),by rw [<- pj d0]; exact hd.le (HM.aS _ _)⟩
section
variable {x y s z v r:Rat} {P Q K:Int}
theorem Fj (h0:(z - x)*(z - x)+(v - y)*(v - y)≠0):cT x y s z v r*(((z - x)*(z - x)+(v - y)*(v - y))+((z - x)*(z - x)+(v - y)*(v - y)))=s - r+((z - x)*(z - x)+(v - y)*(v - y)):=Rat.div_mul_cancel (AD h0)
theorem Et (h0:(z - x)*(z - x)+(v - y)*(v - y)≠0):cE x y s z v r*((z - x)*(z - x)+(v - y)*(v - y))=s - cT x y s z v r*cT x y s z v r*((z - x)*(z - x)+(v - y)*(v - y)):=by
 have h:s / ((z - x)*(z - x)+(v - y)*(v - y))*((z - x)*(z - x)+(v - y)*(v - y))=s:=Rat.div_mul_cancel h0;unfold cE;generalize s / ((z - x)*(z - x)+(v - y)*(v - y))=q at h ⊢;grind
theorem NM (hK:0 < K) (bK:Bt 24 K) (ha:(z - x)*(K:Rat)=P) (hb:(v - y)*(K:Rat)=Q) (bP:Bt 27 P) (bQ:Bt 27 Q) (sn:Bt 8 s.num) (sd:Bt 3 (s.den:Int)) (rn:Bt 8 r.num) (rd:Bt 3 (r.den:Int)) (h0:(z - x)*(z - x)+(v - y)*(v - y)≠0):
  (P*P+Q*Q≠0)/\cT x y s z v r*((2*(P*P+Q*Q)*(s.den:Int)*(r.den:Int):Int):Rat)=(((s.num*(r.den:Int) - r.num*(s.den:Int))*(K*K)+(P*P+Q*Q)*(s.den:Int)*(r.den:Int):Int):Rat):=by
 have g:((z - x)*(z - x)+(v - y)*(v - y))*((K:Rat)*K)=((P*P+Q*Q:Int):Rat):=by
  rw [Qj,P2,P2,<- ha,<- hb];grind
 have K0:(K:Rat)≠0:=λe=>by
  have:K=0:=by exact_mod_cast e
  omega
 refine⟨λe=>?_,?_⟩
 ·rw [e] at g;rcases Rat.mul_eq_zero.mp g with q | q
  ·exact h0 q
  ·rcases Rat.mul_eq_zero.mp q with q | q <;> exact K0 q
 ·have t:=Fj (x:=x) (y:=y) (s:=s) (z:=z) (v:=v) (r:=r) h0;have d1:=bv s;have d2:=bv r;simp only [Qj,P2,Rat.intCast_sub] at g ⊢;generalize (z - x)*(z - x)+(v - y)*(v - y)=A at*
  generalize cT x y s z v r=T at*
  grind
theorem Mh (hK:0 < K) (bK:Bt 24 K) (ha:(z - x)*(K:Rat)=P) (hb:(v - y)*(K:Rat)=Q) (bP:Bt 27 P) (bQ:Bt 27 Q) (sn:Bt 8 s.num) (sd:Bt 3 (s.den:Int)) (rn:Bt 8 r.num) (rd:Bt 3 (r.den:Int)) (h0:(z - x)*(z - x)+(v - y)*(v - y)≠0):
  Sz 66 (cT x y s z v r)/\Sz 134 (cE x y s z v r):=by
 obtain⟨G0,t⟩:=NM hK bK ha hb bP bQ sn sd rn rd h0;have s0:=cj s;have r0:=cj r;have bG:=(bP.mul bP).add (bQ.mul bQ);have bD:Bt 65 (2*(P*P+Q*Q)*(s.den:Int)*(r.den:Int)):=((((show Bt 2 2 by decide).mul bG).mul sd).mul rd).mono (by decide)
 have bN:Bt 64 ((s.num*(r.den:Int) - r.num*(s.den:Int))*(K*K)+(P*P+Q*Q)*(s.den:Int)*(r.den:Int)):=((((sn.mul rd).sub (rn.mul sd)).mul (bK.mul bK)).add ((bG.mul sd).mul rd)).mono (by decide)
 have D0:2*(P*P+Q*Q)*(s.den:Int)*(r.den:Int)≠0:=Int.mul_ne_zero (Int.mul_ne_zero (Int.mul_ne_zero (by decide) G0) (by omega)) (by omega)
 refine⟨(AL D0 t (bN.mono (by decide)) bD).mono (by decide),?_⟩
 have g:((z - x)*(z - x)+(v - y)*(v - y))*((K:Rat)*K)=((P*P+Q*Q:Int):Rat):=by
  rw [Qj,P2,P2,<- ha,<- hb];grind
 have e:=Et (x:=x) (y:=y) (s:=s) (z:=z) (v:=v) (r:=r) h0;have d1:=bv s;generalize hN:(s.num*(r.den:Int) - r.num*(s.den:Int))*(K*K)+(P*P+Q*Q)*(s.den:Int)*(r.den:Int)=N at*
 have f:cE x y s z v r*((2*(P*P+Q*Q)*(s.den:Int)*(r.den:Int)*(2*(P*P+Q*Q)*(s.den:Int)*(r.den:Int)):Int):Rat)=((4*(P*P+Q*Q)*s.num*(s.den:Int)*((r.den:Int)*(r.den:Int))*(K*K) - N*N:Int):Rat):=by
  clear hN bN bD D0 bG;generalize P*P+Q*Q=G at*
  simp only [P2,Rat.intCast_sub] at g t ⊢
  rw [<- t];generalize (z - x)*(z - x)+(v - y)*(v - y)=A at*
  generalize cT x y s z v r=T at*
  generalize cE x y s z v r=C at*
  rw [<- g,<- d1];have e2:((4:Int):Rat)=4:=rfl;have e3:((2:Int):Rat)=2:=rfl;rw [e2,e3];generalize ((s.den:Int):Rat)=a;generalize ((r.den:Int):Rat)=b;clear t g d1;have:=congrArg (·*(4*A*((K:Rat)*K)*((K:Rat)*K)*a*a*b*b)) e;grind
 have bM:Bt 134 (4*(P*P+Q*Q)*s.num*(s.den:Int)*((r.den:Int)*(r.den:Int))*(K*K) - N*N):=(((((((show Bt 3 4 by decide).mul bG).mul sn).mul sd).mul (rd.mul rd)).mul (bK.mul bK)).sub (bN.mul bN)).mono (by decide)
 exact AL (Int.mul_ne_zero D0 D0) f bM ((bD.mul bD).mono (by decide))
end
structure Jt (x y s z v r:Rat) (d:D) (u:Rat) (X Y:Q):Prop where
 bp:Bp d u X Y
 one:jw u (qs X (qo x)) (qs Y (qo y))=(s,0)
 two:jw u (qs X (qo z)) (qs Y (qo v))=(r,0)
section
variable {x y s z v r:Rat}
theorem ID {σ:Rat} (hσ:σ*σ=1) (sσ:Sz 1 σ) (hz:Cd x y s z v r) (h0:(z - x)*(z - x)+(v - y)*(v - y)≠0) (e0:0 < cE x y s z v r) (no:ug (cE x y s z v r)):
  Jt x y s z v r (MP (x+(z - x)*cT x y s z v r) (y+(v - y)*cT x y s z v r) (σ*-(v - y)) (σ*(z - x)) (cE x y s z v r)) (cE x y s z v r) (x+(z - x)*cT x y s z v r,σ*-(v - y)) (y+(v - y)*cT x y s z v r,σ*(z - x)):=by
 obtain⟨c1,c2,_⟩:=HI (x:=x) (y:=y) (s:=s) (z:=z) (v:=v) (r:=r) hσ rfl (Fj h0) (by rw [Et h0])
 exact⟨⟨Mm e0 no,⟨e0,no,hz.he.mono (by decide)⟩,(hz.hx.add (hz.ha.mul hz.ht)).mono (by decide),(sσ.mul hz.hb.neg).mono (by decide),(hz.hy.add (hz.hb.mul hz.ht)).mono (by decide),(sσ.mul hz.ha).mono (by decide)⟩,c1,c2⟩
theorem Dh {σ ρ:Rat} (hσ:σ*σ=1) (sσ:Sz 1 σ) (hz:Cd x y s z v r) (h0:(z - x)*(z - x)+(v - y)*(v - y)≠0) (eρ:ρ*ρ=cE x y s z v r):
  Jt x y s z v r (PP (x+(z - x)*cT x y s z v r+σ*-(v - y)*ρ) (y+(v - y)*cT x y s z v r+σ*(z - x)*ρ)) 2 (qo (x+(z - x)*cT x y s z v r+σ*-(v - y)*ρ)) (qo (y+(v - y)*cT x y s z v r+σ*(z - x)*ρ)):=by
 obtain⟨c1,c2,_⟩:=HR (u:=2) (x:=x) (y:=y) (s:=s) (z:=z) (v:=v) (r:=r) (ρ:=ρ) hσ rfl (Fj h0) (by rw [eρ,Et h0])
 have sρ:Sz 67 ρ:=CT (m:=67) hz.he eρ;exact⟨⟨Iu,Js,((hz.hx.add (hz.ha.mul hz.ht)).add ((sσ.mul hz.hb.neg).mul sρ)).mono (by decide),Sz.zero.mono (by decide),((hz.hy.add (hz.hb.mul hz.ht)).add ((sσ.mul hz.ha).mul sρ)).mono (by decide),Sz.zero.mono (by decide)⟩,c1,c2⟩
theorem ME {i:Nat} (hi:i < 2) (hz:Cd x y s z v r) (h0:(z - x)*(z - x)+(v - y)*(v - y)≠0) (ne:cL x y s z v r≠[]):∃ u X Y,Jt x y s z v r (Al (cL x y s z v r) i) u X Y:=by
 have o1:Sz 1 (1:Rat):=⟨by decide,by decide⟩
 have o2:Sz 1 (-1:Rat):=⟨by decide,by decide⟩
 have q1:(1:Rat)*1=1:=by grind
 have q2:(-1:Rat)*-1=1:=by grind
 by_cases e1:cE x y s z v r < 0
 ·exact absurd (if_pos e1) ne
 by_cases e2:cE x y s z v r=0
 ·have c:cL x y s z v r=[PP (x+(z - x)*cT x y s z v r) (y+(v - y)*cT x y s z v r)]:=by
   unfold cL mh;rw [if_neg e1,if_pos e2]
  have j:=Dh (ρ:=0) q1 o1 hz h0 (by rw [e2]; grind)
  rw [Rat.mul_zero,Rat.mul_zero,Rat.add_zero,Rat.add_zero] at j;rw [c];exact⟨_,_,_,j⟩
 have e3:0 < cE x y s z v r:=by grind
 have c:cL x y s z v r=[MP (x+(z - x)*cT x y s z v r) (y+(v - y)*cT x y s z v r) (-(v - y)) (z - x) (cE x y s z v r),MP (x+(z - x)*cT x y s z v r) (y+(v - y)*cT x y s z v r) (- -(v - y)) (-(z - x)) (cE x y s z v r)]:=by
  unfold cL mh;rw [if_neg e1,if_neg e2]
 rw [c];rcases JI e3 with no | ⟨ρ,r0,eρ⟩
 ·match i,hi with
  | 0,_=>
   have j:=ID q1 o1 hz h0 e3 no;rw [show (1:Rat)*-(v - y)=-(v - y) by grind,show(1:Rat)*(z - x)=z - x by grind] at j
   exact⟨_,_,_,j⟩
  | 1,_=>
   have j:=ID q2 o2 hz h0 e3 no;rw [show (-1:Rat)*-(v - y)=- -(v - y) by grind,show(-1:Rat)*(z - x)=-(z - x) by grind] at j
   exact⟨_,_,_,j⟩
 ·rw [<- eρ,IX r0,IX r0]
  match i,hi with
  | 0,_=>
   have j:=Dh q1 o1 hz h0 eρ;rw [show (1:Rat)*-(v - y)=-(v - y) by grind,show(1:Rat)*(z - x)=z - x by grind] at j
   exact⟨_,_,_,j⟩
  | 1,_=>
   have j:=Dh q2 o2 hz h0 eρ;rw [show (-1:Rat)*-(v - y)=- -(v - y) by grind,show(-1:Rat)*(z - x)=-(z - x) by grind] at j
   exact⟨_,_,_,j⟩
end
set_option maxHeartbeats 4000000
def PL {α:Type} (c c':List α):Prop:=(∀ p∈c,p∈c')/\∀ p∈c',p∈c
theorem tH {α:Type} {c c':List (List Int×α)} (nd:(c.map (·.1)).Nodup) (h:∀ p∈c,p∈c'):c.length<=c'.length:=by
 have:=qu nd (l':=c'.map (·.1)) λx hx=>by
  obtain⟨p,hp,rfl⟩:=P5.mp hx;exact P5.mpr ⟨p,h p hp,rfl⟩
 rw [P6,P6] at this;exact this
theorem JV {c c':Zr} (nd:(c.map (·.1)).Nodup) (nd':(c'.map (·.1)).Nodup) (hl:c.length=c'.length) (h:∀ p∈c,p∈c'):∀ p∈c',p∈c:=λp hp=>by
 refine Classical.byContradiction λn=>?_
 have n2:p.1∉c.map (·.1):=λz=>by
  obtain⟨q,hq,e⟩:=P5.mp z;have e1:gR c' p.1=p.2:=eK nd' hp;have e2:gR c' p.1=q.2:=by rw [<- e]; exact eK nd' (h q hq)
  exact n (by rw [show p=q from Qk e.symm (e1.symm.trans e2)]; exact hq)
 have:=tH (c:=p::c) (c':=c') (by rw [Qe,QK]; exact⟨n2,nd⟩) λx hx=>by
  rcases P9.mp hx with rfl | m
  ·exact hp
  ·exact h x m
 rw [Qf] at this;omega
theorem Ng {c':Zr} (nd':(c'.map (·.1)).Nodup):∀ (c:Zr),∃ r,Hx (dG c') (dG c) r/\(r=true↔∀ p∈c,p∈c')
 | []=>⟨true,rfl,⟨λ_ p h=>(nomatch h),λ_=>rfl⟩⟩
 | p::c=>by
  obtain⟨r,h,e⟩:=Ng nd' c;rcases lF (z:=(0:Rat)) p.1 nd' with q | q
  ·exact⟨false,.inl ⟨pT q,rfl⟩,⟨λz=>(nomatch z),λz=>absurd (P5.mpr ⟨p,z p Qa,rfl⟩) q⟩⟩
  ·refine⟨_,.inr ⟨_,decide (p.2=gR c' p.1),r,p_ nd' q,Df (n:=5),h,rfl⟩,?_⟩;rw [QG,Q3,e];refine⟨λ⟨a,b⟩ x hx=>?_,λz=>⟨?_,λx hx=>z x (Qb _ hx)⟩⟩
   ·rcases P9.mp hx with rfl | m
    ·have q:(x.1,gR c' x.1)∈c':=q;rw [<- a] at q;exact q
    ·exact b x m
   ·exact(eK nd' (z p Qa)).symm
theorem O5 {c c':Zr} (nd:(c.map (·.1)).Nodup) (nd':(c'.map (·.1)).Nodup):∃ r,Jq (dG c) (dG c') r/\(r=true↔PL c c'):=by
 by_cases hl:c.length=c'.length
 ·obtain⟨r,h,e⟩:=Ng nd' c;refine⟨r,.inr ⟨by rw [eF,eF,hl],h⟩,?_⟩
  rw [e];exact⟨λz=>⟨z,JV nd nd' hl z⟩,λz=>z.1⟩
 ·refine⟨false,.inl ⟨by rw [eF,eF]; exact hl,rfl⟩,⟨λz=>(nomatch z),λz=>?_⟩⟩
  have a:=tH nd z.1;have b:=tH nd' z.2;omega
def jU (ns:Zi):Zr:=ns.map λp=>(p.1,(p.2:Rat))
theorem yF {ns:Zi}:B8 ns=dG (jU ns):=by
 show _=List.map _ (List.map _ ns)
 rw [QH]
 rfl
theorem mG {ns:Zi}:(jU ns).map (·.1)=ns.map (·.1):=by
 unfold jU;rw [QH]
 rfl
theorem AN {ns:Zi} {k:List Int} {n:Int} (h:(k,n)∈ns):(k,(n:Rat))∈jU ns:=P5.mpr ⟨_,h,rfl⟩
theorem rE {ns ns':Zi} (h:∀ p∈ns,p∈ns'):∀ p∈jU ns,p∈jU ns':=λp hp=>by
 obtain⟨q,hq,rfl⟩:=P5.mp hp;exact P5.mpr ⟨q,h q hq,rfl⟩
theorem Fq {c:Zr} {ns:Zi} {B:Int} {T:Nat} (h:yS c ns) (B0:0 < B) (hd:Dn B T c):∀ p∈ns,Bt T p.2:=by
 obtain⟨t,t0,f1,f2⟩:=h.sc;have b0:(B:Rat)≠0:=λz=>by
  have:=QL.mp (show (B:Rat)=((0:Int):Rat) from z)
  omega
 generalize hr:(B:Rat) / t=r;have r0:r≠0:=by
  rw [<- hr];intro z;exact b0 (by grind)
 have key:∀ p∈ns,∃ τ:Int,Bt T τ/\r*(p.2:Rat)=τ:=λp hp=>by
  obtain⟨q,hq,e⟩:=f1 p hp;obtain⟨τ,bt,et⟩:=hd _ hq;refine⟨τ,bt,?_⟩;have et:(B:Rat)*q=τ:=et;rw [<- et,e,<- hr];grind
 have ex:∀ p∈ns,∃ τ:Int,Bt T τ/\r.num*p.2=τ*(r.den:Int):=λp hp=>by
  obtain⟨τ,bt,e⟩:=key p hp;refine⟨τ,bt,QL.mp ?_⟩;rw [P2,P2,<- e,<- bv r];grind
 have dv:∀ p∈ns,(r.den:Int) ∣ p.2:=λp hp=>by
  obtain⟨τ,_,e⟩:=ex p hp;have:(r.den:Int) ∣ r.num*p.2:=⟨τ,by rw [e,Int.mul_comm]⟩
  have t1:=QS.mpr this;rw [QZ] at t1;have t1:r.den ∣ r.num.natAbs*p.2.natAbs:=t1;refine QS.mp ?_
  show r.den ∣ p.2.natAbs
  exact(Nat.Coprime.symm r.reduced).dvd_of_dvd_mul_left t1
 have one:=h.co (r.den:Int) dv;have d1:(r.den:Int)=1:=by
  have:=cj r;have:=Int.le_of_dvd (by decide) one
  omega
 intro p hp;obtain⟨τ,bt,e⟩:=ex p hp;rw [d1,Int.mul_one] at e;refine bt.le ?_;rw [<- e,QZ];have:r.num.natAbs≠0:=λz=>r0 (Rb.mp (Int.natAbs_eq_zero.mp z))
 exact Nat.le_mul_of_pos_left _ (by omega)
theorem Ks {c:Zr} {ns:Zi} {B:Int} {T n m:Nat} (h:yS c ns) (hc:Cv n m 6 c) (hn:n<=28) (B0:0 < B) (hd:Dn B T c) (hT:T<=900):Cv 28 900 6 (jU ns):=by
 have kk:(jU ns).map (·.1)=c.map (·.1):=by rw [mG,h.keys]
 refine⟨by rw [kk]; exact hc.nd,?_,λp hp=>?_,λp hp=>?_⟩
 ·have:=congrArg List.length kk;rw [P6,P6] at this;have:=hc.hl;omega
 ·have:p.1∈c.map (·.1):=by rw [<- kk]; exact List.mem_map_of_mem hp
  obtain⟨q,hq,e⟩:=P5.mp this;rw [<- e];exact hc.sm q hq
 ·obtain⟨q,hq,rfl⟩:=P5.mp hp;exact⟨by show Bt 900 (q.2:Rat).num; rw [Rat.num_intCast]; exact(Fq h B0 hd q hq).mono hT,by show Bt 900 (((q.2:Rat).den:Nat):Int); rw [Rat.den_intCast]; exact(show Bt 1 1 by decide).mono (by decide)⟩
theorem Jm {ns:Zi}:∀ q∈jU ns,(q.2.den:Int) ∣ 1:=λq hq=>by
 obtain⟨p,hp,rfl⟩:=P5.mp hq
 show(((p.2:Rat).den:Nat):Int) ∣ 1
 rw [Rat.den_intCast];exact Int.dvd_refl _
theorem Hw {c:Zr} {ns:Zi} {n m n' m':Nat} (h:yS c ns) (hc:Cv n m 6 c) (hv:Cv n' m' 6 (jU ns)) (u:Rat) (x y:Q):∃ t:Rat,t≠0/\lT u x y (jU ns) (0,0)=qk t (lT u x y c (0,0)):=by
 obtain⟨t,t0,f1,f2⟩:=h.sc;refine⟨t,t0,?_⟩;rw [Ac hc,Ac hv,<- D_];refine mR λk=>?_
 by_cases z:k∈c.map (·.1)
 ·obtain⟨p,hp,rfl⟩:=P5.mp z;obtain⟨i,hi,e⟩:=f2 p hp;have e1:gR (jU ns) p.1=(i:Rat):=eK hv.nd (AN hi);have e2:gR c p.1=p.2:=eK hc.nd hp;rw [e1,e2,e,Rat.mul_comm]
 ·have z2:k∉(jU ns).map (·.1):=by rw [mG,h.keys]; exact z
  rw [show gR (jU ns) k=0 from bo z2,show gR c k=0 from bo z,Rat.zero_mul]
theorem BE {t:Rat} (t0:t≠0) {x:Q}:qk t x=(0,0)↔x=(0,0):=by
 constructor
 ·intro h;have h1:t*x.1=0:=congrArg Prod.fst h;have h2:t*x.2=0:=congrArg Prod.snd h;exact Qk (by grind) (by grind)
 ·intro h;rw [h];unfold qk;apply Qk <;> dsimp only <;> grind
theorem AB {c c':Zr} {ns ns':Zi} {s:Rat} (h:yS c ns) (h':yS c' ns') (s0:s≠0) (two:∀ p∈c,∃ i j,p.1=[i,j]) (two':∀ p∈c',∃ i j,p.1=[i,j]) (hc:∀ p∈c,(p.1,s*p.2)∈c') (hc':∀ p∈c',∃ q,(p.1,q)∈c/\p.2=s*q) (nd:(c.map (·.1)).Nodup) (nd':(c'.map (·.1)).Nodup):Jq (B8 ns') (B8 ns) true:=by
 have a:=pC h h' s0 two two' hc hc' nd nd';have b:=pC h' h (s:=s⁻¹) (λz=>s0 (by grind)) two' two (λp hp=>by
  obtain⟨q,hq,e⟩:=hc' p hp;rw [e];have:s⁻¹*(s*q)=q:=by grind
  rw [this];exact hq) (λp hp=>⟨s*p.2,hc p hp,by grind⟩) nd' nd
 rw [yF,yF];obtain⟨r,hr,e⟩:=O5 (c:=jU ns') (c':=jU ns) (by rw [mG,h'.keys]; exact nd') (by rw [mG,h.keys]; exact nd)
 rw [e.mpr ⟨rE a,rE b⟩] at hr;exact hr
theorem g_ {f:List Int×Rat->Rat} {P:List Int×Rat->Rr}:∀ {l:Zr},(∀ p∈l,P p=false->f p=0)->fL f (l.filter P) 0=fL f l 0
 | [],_=>rfl
 | p::l,h=>by
  have ih:=g_ (P:=P) (l:=l) λq hq=>h q (Qb _ hq)
  have e2:fL f (p::l) 0=f p+fL f l 0:=by
   show fL f l (0+f p)=_
   rw [lE,Rat.zero_add]
  cases e:P p with
  | true=>
   rw [List.filter_cons_of_pos e,e2,<- ih]
   show fL f (l.filter P) (0+f p)=_
   rw [lE,Rat.zero_add]
  | false=>
   rw [List.filter_cons_of_neg (by rw [e]; decide),e2,ih,h p Qa e,Rat.zero_add]
theorem xR {f:List Int×Rat->Rat}:∀ {l:Zr},(∀ p∈l,f p=0)->fL f l 0=0
 | [],_=>rfl
 | p::l,h=>by
  show fL f l (0+f p)=0
  rw [h p Qa,Rat.add_zero];exact xR λq hq=>h q (Qb _ hq)
theorem rM {l l':Zr} {k:List Int}:eV (nz l) (nz l') k=eV l l' k:=by
 have tz:∀ p q:List Int×Rat,p.2=0\/q.2=0->lv p q k=0:=λp q h=>by
  unfold lv
  split
  ·rcases h with h | h <;> rw [h]
   ·exact Rat.zero_mul _
   ·exact Rat.mul_zero _
  ·rfl
 have row:∀ p,dA p (nz l') k 0=dA p l' k 0:=λp=>by
  rw [i4,i4];exact g_ λq _ e=>tz p q (.inr (by simpa using e))
 rw [hV,hV,iY λp _=>row p]
 exact g_ λp _ e=>by
  rw [i4];exact xR λq _=>tz p q (.inl (by simpa using e))
theorem vx {c c':Zr} {d d':Int} {k:List Int} (h:∀ p∈c,∃ i j:Int,p.1=[i,j]/\i+j<=d) (h':∀ p∈c',∃ i j:Int,p.1=[i,j]/\i+j<=d') (hk:dg k=d+d'):eV (il d c) (il d' c') k=eV c c' k:=by
 have no:∀ p∈c,∀ q∈c',qZ p.1 q.1=k->dg p.1=d/\dg q.1=d':=λp hp q hq z=>by
  obtain⟨i,j,e1,ij⟩:=h p hp;obtain⟨i',j',e2,ij'⟩:=h' q hq;rw [e1,e2] at z ⊢;have z:[i+i',j+j']=k:=z;rw [<- z] at hk;have hk:i+i'+(j+j')=d+d':=hk
  show i+j=d/\i'+j'=d'
  omega
 rw [hV,hV];have row:∀ p∈c,dA p (il d' c') k 0=dA p c' k 0:=λp hp=>by
  rw [i4,i4];refine g_ λq hq e=>?_
  unfold lv;rw [if_neg λz=>?_]
  have:=(no p hp q hq z).2;simp [this] at e
 rw [iY (l:=il d c) λp hp=>row p (List.mem_filter.mp hp).1]
 refine g_ λp hp e=>mS λq hq z=>?_
 have:=(no p hp q hq z).1;simp [this] at e
theorem dQ {m:Int} {c:Zr} {p:List Int×Rat}:p∈il m c↔p∈c/\dg p.1=m:=by
 unfold il;rw [List.mem_filter];simp
theorem wK {φ ψ:List Int->Rat} {c:Zr} {m:Int} (r:dF φ c) (e:∀ k,(if dg k=m then φ k else 0)=ψ k):dF ψ (il m c):=⟨dj r.nd,λp hp=>r.two p (dQ.mp hp).1,λp hp=>r.n0 p (dQ.mp hp).1,λk=>by
 rw [<- e k];rcases lF (z:=(0:Rat)) k r.nd with q | q
 ·have:φ k=0:=by rw [<- r.at_ k]; exact bo q
  rw [this,ite_self];exact bo (w6 q)
 ·by_cases d:dg k=m
  ·rw [if_pos d,<- r.at_ k];exact eK (dj r.nd) (dQ.mpr ⟨q,d⟩)
  ·rw [if_neg d];refine bo λz=>d ?_
   obtain⟨p,hp,rfl⟩:=P5.mp z;exact(dQ.mp hp).2⟩
theorem Az {a b c d:List Int×Rat} {k:List Int} (h1:k≠a.1) (h2:k≠b.1) (h3:k≠c.1) (h4:k≠d.1):gR [a,b,c,d] k=0:=bo (by simp [h1,h2,h3,h4])
theorem Ew {a b:List Int×Rat} {k:List Int} (h1:k≠a.1) (h2:k≠b.1):gR [a,b] k=0:=bo (by simp [h1,h2])
abbrev LX:Zr:=[([2,1],-1),([0,3],-1)]
abbrev LY:Zr:=[([3,0],1),([1,2],1)]
abbrev RG:Zr:=[([6,0],1),([4,2],3),([2,4],3),([0,6],1)]
theorem oU {l:Zr} (nd:(l.map (·.1)).Nodup) (two:∀ p∈l,∃ i j,p.1=[i,j]) (n0:∀ p∈l,p.2≠0):dF (gR l) l:=⟨nd,two,n0,λ_=>rfl⟩
theorem I_:dF (gR LX) LX:=oU (by decide) (λp hp=>by
 simp only [P9,Qh,or_false] at hp;rcases hp with rfl | rfl <;> exact⟨_,_,rfl⟩) (by decide)
theorem KI:dF (gR LY) LY:=oU (by decide) (λp hp=>by
 simp only [P9,Qh,or_false] at hp;rcases hp with rfl | rfl <;> exact⟨_,_,rfl⟩) (by decide)
theorem jI:dF (gR RG) RG:=oU (by decide) (λp hp=>by
 simp only [P9,Qh,or_false] at hp;rcases hp with rfl | rfl | rfl | rfl <;> exact⟨_,_,rfl⟩) (by decide)
section
variable {z:Cp} {M1 M2:Int} (h:dX z M1 M2)
include h
theorem dX.xk (k:List Int):z.X k=eV (uN z.ox z.oy (z.cr*z.cr - (z.al*z.al+z.le*z.le)*z.s0)) (qX (-z.le) (z.al - 1) (-(z.px*-z.le+z.py*(z.al - 1)))) k - eV (uN z.px z.py (z.s1 - ((z.al - 1)*(z.al - 1)+z.le*z.le)*z.s0)) (qX (-z.le) z.al (-(z.ox*-z.le+z.oy*z.al))) k:=by
 rw [<- rM,ja h.okC.res h.okE.res,<- rM,ja h.okF.res h.okB.res]
 rfl
theorem dX.yk (k:List Int):z.Y k=eV (qX z.al z.le (-(z.ox*z.al+z.oy*z.le))) (uN z.px z.py (z.s1 - ((z.al - 1)*(z.al - 1)+z.le*z.le)*z.s0)) k - eV (qX (z.al - 1) z.le (-(z.px*(z.al - 1)+z.py*z.le))) (uN z.ox z.oy (z.cr*z.cr - (z.al*z.al+z.le*z.le)*z.s0)) k:=by
 rw [<- rM,ja h.okA.res h.okF.res,<- rM,ja h.okD.res h.okC.res]
 rfl
theorem dX.xt:z.X [3,0]=0/\z.X [2,1]=-1/\z.X [1,2]=0/\z.X [0,3]=-1:=by
 refine⟨?_,?_,?_,?_⟩ <;> rw [h.xk] <;> simp [eV,dA,lv,qZ] <;> grind
theorem dX.yt:z.Y [3,0]=1/\z.Y [2,1]=0/\z.Y [1,2]=1/\z.Y [0,3]=0:=by
 refine⟨?_,?_,?_,?_⟩ <;> rw [h.yk] <;> simp [eV,dA,lv,qZ] <;> grind
theorem dX.topX {g:Zr} (r:dF z.X g):dF (gR LX) (il 3 g):=wK r λk=>by
 obtain⟨x0,x1,x2,x3⟩:=h.xt
 by_cases k0:k=[3,0]
 ·subst k0; rw [x0,ite_self]; rfl
 by_cases k1:k=[2,1]
 ·subst k1; rw [x1]; rfl
 by_cases k2:k=[1,2]
 ·subst k2; rw [x2,ite_self]; rfl
 by_cases k3:k=[0,3]
 ·subst k3; rw [x3]; rfl
 rw [Ew k1 k3]
 split
 ·rename_i d
  refine Classical.byContradiction λn=>?_
  obtain⟨i,j,rfl,i0,j0,ij⟩:=h.wX.dg k n;have d:i+j=3:=d;have c:i=0\/i=1\/i=2\/i=3:=by omega
  rcases c with rfl | rfl | rfl | rfl
  ·exact k3 (by rw [show j=3 by omega])
  ·exact k2 (by rw [show j=2 by omega])
  ·exact k1 (by rw [show j=1 by omega])
  ·exact k0 (by rw [show j=0 by omega])
 ·rfl
theorem dX.topY {g:Zr} (r:dF z.Y g):dF (gR LY) (il 3 g):=wK r λk=>by
 obtain⟨x0,x1,x2,x3⟩:=h.yt
 by_cases k0:k=[3,0]
 ·subst k0; rw [x0]; rfl
 by_cases k1:k=[2,1]
 ·subst k1; rw [x1,ite_self]; rfl
 by_cases k2:k=[1,2]
 ·subst k2; rw [x2]; rfl
 by_cases k3:k=[0,3]
 ·subst k3; rw [x3,ite_self]; rfl
 rw [Ew k0 k2]
 split
 ·rename_i d
  refine Classical.byContradiction λn=>?_
  obtain⟨i,j,rfl,i0,j0,ij⟩:=h.wY.dg k n;have d:i+j=3:=d;have c:i=0\/i=1\/i=2\/i=3:=by omega
  rcases c with rfl | rfl | rfl | rfl
  ·exact k3 (by rw [show j=3 by omega])
  ·exact k2 (by rw [show j=2 by omega])
  ·exact k1 (by rw [show j=1 by omega])
  ·exact k0 (by rw [show j=0 by omega])
 ·rfl
theorem dX.u6 {k:List Int} (hk:dg k=6):z.U k=eV LX LX k+eV LY LY k:=by
 obtain⟨gx,rx⟩:=fC h.wX (by decide)
 obtain⟨gy,ry⟩:=fC h.wY (by decide)
 obtain⟨gv,rv⟩:=fC h.wV (by decide)
 have ds:∀ {φ:List Int->Rat} {g:Zr} {M:Int} {T:Nat},dF φ g->Wf 3 M T φ->∀ p∈g,∃ i j:Int,p.1=[i,j]/\i+j<=3:=λr w p hp=>by
  have q:=r.mem.mp hp;obtain⟨i,j,e,i0,j0,ij⟩:=w.dg p.1 (by rw [q.2]; exact q.1)
  exact⟨i,j,e,ij⟩
 have V0:bE z.V z.V k=0:=Classical.byContradiction λn=>by
  obtain⟨i,j,e,i0,j0,ij⟩:=(Wf.prod rv rv h.wV h.wV (h.okV rv).len (h.okV rv).len).dg k n;rw [e] at hk;have hk:i+j=6:=hk;omega
 have pX:=(h.topX rx).perm I_;have pY:=(h.topY ry).perm KI
 show(bE z.X z.X k+bE z.Y z.Y k) - bE z.V z.V k*(4*z.s0)=_
 rw [V0,<- ja rx rx,<- ja ry ry,<- vx (ds rx h.wX) (ds rx h.wX) hk,<- vx (ds ry h.wY) (ds ry h.wY) hk,mZ pX pX,mZ pY pY];grind
theorem dX.topU {g:Zr} (r:dF z.U g):dF (gR RG) (il 6 g):=wK r λk=>by
 obtain⟨gx,rx⟩:=fC h.wX (by decide)
 obtain⟨gy,ry⟩:=fC h.wY (by decide)
 obtain⟨gv,rv⟩:=fC h.wV (by decide)
 by_cases k0:k=[6,0]
 ·subst k0; rw [if_pos (show dg [6,0]=6 from rfl),h.u6 rfl]; decide +kernel
 by_cases k1:k=[5,1]
 ·subst k1; rw [if_pos (show dg [5,1]=6 from rfl),h.u6 rfl]; decide +kernel
 by_cases k2:k=[4,2]
 ·subst k2; rw [if_pos (show dg [4,2]=6 from rfl),h.u6 rfl]; decide +kernel
 by_cases k3:k=[3,3]
 ·subst k3; rw [if_pos (show dg [3,3]=6 from rfl),h.u6 rfl]; decide +kernel
 by_cases k4:k=[2,4]
 ·subst k4; rw [if_pos (show dg [2,4]=6 from rfl),h.u6 rfl]; decide +kernel
 by_cases k5:k=[1,5]
 ·subst k5; rw [if_pos (show dg [1,5]=6 from rfl),h.u6 rfl]; decide +kernel
 by_cases k6:k=[0,6]
 ·subst k6; rw [if_pos (show dg [0,6]=6 from rfl),h.u6 rfl]; decide +kernel
 rw [Az k0 k2 k4 k6]
 split
 ·rename_i d
  refine Classical.byContradiction λn=>?_
  obtain⟨i,j,rfl,i0,j0,ij⟩:=(h.wU rx ry rv).dg k n;have d:i+j=6:=d;have c:i=0\/i=1\/i=2\/i=3\/i=4\/i=5\/i=6:=by omega
  rcases c with rfl | rfl | rfl | rfl | rfl | rfl | rfl
  ·exact k6 (by rw [show j=6 by omega])
  ·exact k5 (by rw [show j=5 by omega])
  ·exact k4 (by rw [show j=4 by omega])
  ·exact k3 (by rw [show j=3 by omega])
  ·exact k2 (by rw [show j=2 by omega])
  ·exact k1 (by rw [show j=1 by omega])
  ·exact k0 (by rw [show j=0 by omega])
 ·rfl
end
structure Nu (z:Cp) (g:Zr) (ns:Zi):Prop where
 r:dF z.U g
 n:yS g ns
 bt:∀ p∈ns,Bt 465 p.2
 cg:Cv 28 900 6 g
 cv:Cv 28 900 6 (jU ns)
theorem dX.nu {z:Cp} {M1 M2:Int} (h:dX z M1 M2) {g:Zr} {ns:Zi} (r:dF z.U g) (n:yS g ns):Nu z g ns:=by
 obtain⟨gx,rx⟩:=fC h.wX (by decide)
 obtain⟨gy,ry⟩:=fC h.wY (by decide)
 obtain⟨gv,rv⟩:=fC h.wV (by decide)
 have w:=h.wU rx ry rv;have bNN:Bt 280 (M2*M1*(M2*M1)):=((h.b2.mul h.b1).mul (h.b2.mul h.b1)).mono (by decide)
 have NN0:0 < M2*M1*(M2*M1):=Int.mul_pos (h.okX rx).M0 (h.okX rx).M0;have cg:Cv 28 900 6 g:=r.cv w NN0 (bNN.mono (by decide)) (by decide) (by decide) (by decide)
 have dn:=r.dn w;exact⟨r,n,Fq n NN0 dn,cg,Ks n cg (by decide) NN0 dn (by decide)⟩
section
variable {z:Cp} {g:Zr} {ns:Zi}
theorem Nu.dn (h:Nu z g ns):Dn 1 465 (jU ns):=λp hp=>by
 obtain⟨r,hr,rfl⟩:=P5.mp hp;exact⟨r.2,h.bt r hr,by show((1:Int):Rat)*(r.2:Rat)=_; grind⟩
theorem Nu.sc (h:Nu z g ns):∃ t:Rat,t≠0/\(∀ p∈g,(p.1,t*p.2)∈jU ns)/\∀ p∈jU ns,∃ q,(p.1,q)∈g/\p.2=t*q:=by
 obtain⟨t,t0,f1,f2⟩:=h.n.sc;refine⟨t,t0,λp hp=>?_,λp hp=>?_⟩
 ·obtain⟨n,hm,e⟩:=f2 p hp;rw [<- e];exact AN hm
 ·obtain⟨r,hr,rfl⟩:=P5.mp hp;exact f1 r hr
theorem Nu.n0 (h:Nu z g ns):∀ p∈jU ns,p.2≠0:=λp hp=>by
 obtain⟨t,t0,f1,f2⟩:=h.sc;obtain⟨q,hm,e⟩:=f2 p hp;have:=h.r.n0 _ hm;rw [e];grind
theorem Nu.top_in {M1 M2:Int} (c:dX z M1 M2) (h:Nu z g ns):([6,0],(1:Rat))∈g:=by
 have m:([6,0],(1:Rat))∈il 6 g:=(c.topU h.r).mem.mpr ⟨by decide,rfl⟩
 exact(dQ.mp m).1
theorem Nu.deg {M1 M2:Int} (c:dX z M1 M2) (h:Nu z g ns):J4 (jU ns) 6:=by
 obtain⟨t,t0,f1,f2⟩:=h.sc;refine⟨⟨_,f1 _ (h.top_in c),rfl⟩,λp hp=>?_⟩
 obtain⟨q,hm,e⟩:=f2 p hp;obtain⟨gx,rx⟩:=fC c.wX (by decide)
 obtain⟨gy,ry⟩:=fC c.wY (by decide)
 obtain⟨gv,rv⟩:=fC c.wV (by decide)
 have z:=h.r.mem.mp hm;obtain⟨i,j,e,i0,j0,ij⟩:=(c.wU rx ry rv).dg p.1 (by rw [z.2]; exact z.1)
 rw [e];exact ij
theorem Nu.self (h:Nu z g ns) {ns':Zi} (n:yS (jU ns) ns'):Jq (B8 ns') (B8 ns) true:=by
 obtain⟨t,t0,f1,f2⟩:=h.sc;exact AB h.n n t0 h.r.two h.cv.two f1 f2 h.r.nd h.cv.nd
abbrev OM:Zi:=[([6,0],1),([4,2],3),([2,4],3),([0,6],1)]
theorem y_:yS RG OM:=⟨rfl,⟨1,by decide,by
 intro p hp;simp only [P9,Qh,or_false] at hp;rcases hp with rfl | rfl | rfl | rfl
 ·exact⟨1,by simp,(Rat.one_mul _).symm⟩
 ·exact⟨3,by simp,(Rat.one_mul _).symm⟩
 ·exact⟨3,by simp,(Rat.one_mul _).symm⟩
 ·exact⟨1,by simp,(Rat.one_mul _).symm⟩,by
 intro p hp;simp only [P9,Qh,or_false] at hp;rcases hp with rfl | rfl | rfl | rfl
 ·exact⟨1,by simp,(Rat.one_mul _).symm⟩
 ·exact⟨3,by simp,(Rat.one_mul _).symm⟩
 ·exact⟨3,by simp,(Rat.one_mul _).symm⟩
 ·exact⟨1,by simp,(Rat.one_mul _).symm⟩⟩,λd hd=>hd ([6,0],1) (by simp),⟨([6,0],1),by simp,by decide,by decide⟩⟩
theorem Nu.round {M1 M2:Int} (c:dX z M1 M2) (h:Nu z g ns) {ns':Zi} (n:yS (il 6 (jU ns)) ns') {g2:Zr} (r2:dF (gR RG) g2):Jq (B8 ns') (dG g2) true:=by
 obtain⟨t,t0,f1,f2⟩:=h.sc;have rU:=c.topU h.r;have two:∀ p∈il 6 (jU ns),∃ i j,p.1=[i,j]:=λp hp=>h.cv.two p (dQ.mp hp).1
 have nd:((il 6 (jU ns)).map (·.1)).Nodup:=dj h.cv.nd;have m1:∀ p∈RG,(p.1,t*p.2)∈il 6 (jU ns):=λp hp=>by
  have q:=dQ.mp (rU.mem.mpr (jI.mem.mp hp));exact dQ.mpr ⟨f1 p q.1,q.2⟩
 have m2:∀ p∈il 6 (jU ns),∃ q,(p.1,q)∈RG/\p.2=t*q:=λp hp=>by
  obtain⟨q,hm,e⟩:=f2 p (dQ.mp hp).1;exact⟨q,jI.mem.mpr (rU.mem.mp (dQ.mpr ⟨hm,(dQ.mp hp).2⟩)),e⟩
 have k1:=AB y_ n t0 jI.two two m1 m2 jI.nd nd;have a:=pC y_ n t0 jI.two two m1 m2 jI.nd nd;have b:=pC n y_ (s:=t⁻¹) (λz=>t0 (by grind)) two jI.two (λp hp=>by
  obtain⟨q,hq,e⟩:=m2 p hp;rw [e];have:t⁻¹*(t*q)=q:=by grind
  rw [this];exact hq) (λp hp=>⟨t*p.2,m1 p hp,by grind⟩) nd jI.nd
 have eR:jU OM=RG:=rfl;have sa:=rE a;have sb:=rE b;rw [eR] at sa sb
 rw [yF];obtain⟨r,hr,e⟩:=O5 (c:=jU ns') (c':=g2) (by rw [mG,n.keys]; exact nd) r2.nd
 rw [e.mpr ⟨λp hp=>r2.mem.mpr (jI.mem.mp (sa p hp)),λp hp=>sb p (jI.mem.mpr (r2.mem.mp hp))⟩] at hr
 exact hr
theorem Nu.on (h:Nu z g ns) {u:Rat} {x y:Q} (v:vφ u x y z.U=(0,0)):lT u x y (jU ns) (0,0)=(0,0):=by
 obtain⟨t,t0,e⟩:=Hw h.n h.cg h.cv u x y;rw [e,Ac h.cg,mR λk=>h.r.at_ k,v]
 exact(BE t0).mpr rfl
end
set_option maxHeartbeats 4000000
theorem EA {a b r:Rat} (k:List Int):gR (qX a b r) k=if k=[1,0] then a else if k=[0,1] then b else if k=[0,0] then r else 0:=by
 by_cases h1:k=[1,0]
 ·subst h1; rfl
 by_cases h2:k=[0,1]
 ·subst h2; rfl
 by_cases h3:k=[0,0]
 ·subst h3; rfl
 rw [if_neg h1,if_neg h2,if_neg h3];exact bo (by simp only [Qe,List.map_nil,P9,Qh,or_false]; exact λz=>by rcases z with z | z | z <;> contradiction)
abbrev OQ (p q r a b c:Rat):Zr:=[([2,0],p),([0,2],q),([1,1],r),([1,0],a),([0,1],b),([0,0],c)]
theorem zH {p q r a b c:Rat} (k:List Int):gR (OQ p q r a b c) k=if k=[2,0] then p else if k=[0,2] then q else if k=[1,1] then r else if k=[1,0] then a else if k=[0,1] then b else if k=[0,0] then c else 0:=by
 by_cases h1:k=[2,0]
 ·subst h1; rfl
 by_cases h2:k=[0,2]
 ·subst h2; rfl
 by_cases h3:k=[1,1]
 ·subst h3; rfl
 by_cases h4:k=[1,0]
 ·subst h4; rfl
 by_cases h5:k=[0,1]
 ·subst h5; rfl
 by_cases h6:k=[0,0]
 ·subst h6; rfl
 rw [if_neg h1,if_neg h2,if_neg h3,if_neg h4,if_neg h5,if_neg h6];exact bo (by simp only [Qe,List.map_nil,P9,Qh,or_false]; exact λz=>by rcases z with z | z | z | z | z | z <;> contradiction)
theorem FT {x y s:Rat} (k:List Int):gR (OQ 1 1 0 (-(x+x)) (-(y+y)) (x*x+y*y - s)) k=gR (uN x y s) k:=by
 rw [zH]
 by_cases h1:k=[2,0]
 ·subst h1; rfl
 by_cases h2:k=[0,2]
 ·subst h2; rfl
 by_cases h3:k=[1,1]
 ·subst h3; rfl
 by_cases h4:k=[1,0]
 ·subst h4; rfl
 by_cases h5:k=[0,1]
 ·subst h5; rfl
 by_cases h6:k=[0,0]
 ·subst h6; rfl
 rw [if_neg h1,if_neg h2,if_neg h3,if_neg h4,if_neg h5,if_neg h6];exact(bo (by simp only [Qe,List.map_nil,P9,Qh,or_false]; exact λz=>by rcases z with z | z | z | z | z <;> contradiction)).symm
structure Sd (n m:Nat) (q:Rat):Prop where
 num:Bt n q.num
 den:Bt m (q.den:Int)
theorem Sd.sz {n m k:Nat} {q:Rat} (h:Sd n m q) (hn:n<=k) (hm:m<=k):Sz k q:=⟨h.num.mono hn,h.den.mono hm⟩
theorem Sd.divInt {n m:Nat} {t b:Int} (ht:Bt n t) (hb:Bt m b) (h:b≠0):Sd n m (Rat.divInt t b):=
 ⟨by rw [<- oO h]; exact ht.le (HM.aS _ _),by rw [<- pj h]; exact hb.le (HM.aS _ _)⟩
def lB:ce:=λds S k=>∃ (ns:List Int) (i:Int),ds=[.rl (List.map D.int ns),.int i]/\0<=i/\∀ c:Int,k (.int c) S
theorem q_:ar ["script","k"] ["script","k"] (aj iS):=dP
theorem qR (Fn:FN K "_law_cell_at" iS f fd) (fF:mg "len"=none):
  aL P w K mg base cN 1 f fd ["script","k"] (cX K lB):=by
 refine Fn.okJ q_ (λds S k h=>?_) (λcdv A outer s H E hr=>⟨_,(af (aK (aG zn (ai 1) (cm qg rfl fF lQ (aw 0 ac)) (aM _)) (ag (am (cA du (ai 0) (ai 1) Zf))) aO) (ag (am ak))),λds S k h=>?_⟩)
 ·obtain⟨_,_,rfl,_⟩:=h
  rfl
 ·obtain⟨ns,i,rfl,h0,q⟩:=h;refine bq (λhl=>?_) (λ_=>q 0)
  obtain⟨n,rfl⟩:=Int.eq_ofNat_of_zero_le h0;have hn:n < ns.length:=by rw [P6] at hl; omega
  have e:L2.atI (List.map D.int ns) (n:Int)=some (.int ns[n]):=mT (by rw [Qt,Qr hn] <;> rfl)
  exact⟨_,e,q _⟩
def ou:ce:=λds S k=>∃ ns i,ds=[.rl (List.map D.int ns),.int i]/\0<=i/\∀ (p:Rh) (n:Int) (b:Rr),S p=none->(b=false->0<=n/\n < 2147483647)->k (.ref p) (put S p (.lst [.int n,.bl b]))
theorem nD:ar ["script","k","cell"] ["script","k"] (aj kW):=dP
theorem uy (Fn:FN K "_law_state" kW f fd) (iX:aN P w K mg base "_law_cell_at" 1 lB):
  aL P w K mg base cN 2 f fd ["script","k"] (cX K ou):=by
 refine Fn.okJ nD (λds S k h=>?_) (λcdv A outer s H E hr=>⟨_,(af (ah (i:=2) nD.nd (dq iX hr (aw 0 (aw 1 ac)))) (af (aK (aG Ob (ai 2) (az Iw ak ak) (aM _)) (ag (am (fX (aa (az yH (ai 2) (az Iw ak ak)) (aa pk ac))))) aO) (ag (am (fX (aa (az o0 (ai 2) ak) (aa pk ac))))))),λds S k h=>?_⟩)
 ·obtain⟨_,_,rfl,_⟩:=h
  rfl
 ·obtain⟨ns,i,rfl,h0,q⟩:=h;have hp:CM 10 18:=⟨by decide,by decide,by decide⟩
  refine⟨ns,i,rfl,h0,λc=>⟨hp,bq (λhl=>⟨hp,few,λp hn=>?_⟩) (λhl=>⟨(by show(2147483647:Int)≠0; decide),few,λp hn=>?_⟩)⟩⟩
  ·exact q p _ _ hn (λz=>by cases z)
  ·exact q p _ _ hn (λ_=>⟨QP _ (by decide),Q7 _ (by decide)⟩)
def hJ:ce:=λds S k=>∃ a m,ds=[.ref a,.int m]/\0 < m/\Bt 200 m/\vm S a/\∀ r S',0<=r->r < m->Dr a S S'->k (.int r) S'
theorem iM:ar ["state","many","mixed","found"] ["state","many"] (aj lR):=dP
theorem wI (Fn:FN K "_law_take" lR f fd):
  aL P w K mg base cN 1 f fd ["state","many"] (cX K hJ):=by
 refine Fn.okJ iM (λds S k h=>?_) (λcdv A outer s H E hr=>⟨_,(af (aK (fo (aJ 0)) (af (ah (i:=3) iM.nd (az o0 (aJ 0) (ai 1))) (af (dU (az hG (aJ 0) (ai 1)) (Bm (ai 0) ak)) (ag (am (ai 3))))) aO) (af (dU (az o0 (az eO (az bT (aJ 0) ak) ak) ak) (Bm (ai 0) ak)) (af (ah (i:=2) iM.nd (az o0 (az eO (az eO (az bT (aJ 0) (aJ 0)) (az bT ak (aJ 0))) ak) ak)) (af (ah (i:=2) iM.nd (az o0 (az eO (az bT (ai 2) (ai 2)) (az bT ak (ai 2))) ak)) (ag (am (az o0 (az hG (ai 2) ak) (ai 1)))))))),λds S k h=>?_⟩)
 ·obtain⟨_,_,rfl,_⟩:=h
  rfl
 ·obtain⟨a,m,rfl,hm,hb,⟨n,b,hS,hn⟩,q⟩:=h;have put_dr:∀ (n':Int) (b':Rr),(b'=false->0<=n'/\n' < 2147483647)->Dr a S (put S a (.lst [.int n',.bl b'])):=λn' b' h'=>
   ⟨⟨n',b',aq,h'⟩,λc o z e=>by rw [bV z]; exact e⟩
  refine⟨_,_,hS,HY,?_⟩;cases b with
  | true=>
   refine⟨_,_,hS,m_,(show m≠0 by omega),_,_,hS,m_,zr (by omega) hb,_,_,hS,Nw,?_⟩
   exact q _ _ (QP _ hm) (Q7 _ hm) (put_dr _ _ λz=>by cases z)
  | false=>
   obtain⟨n0,n1⟩:=hn rfl;have b31:=BX n0 (by omega)
   refine⟨_,_,hS,m_,kZ (n:=31) b31 (BX (by decide) (by decide)),(show (2147483647:Int)≠0 by decide),_,_,hS,Nw,?_⟩
   have c0:0<=(n*48271+29).fmod 2147483647:=QP _ (by decide)
   have c1:(n*48271+29).fmod 2147483647 < 2147483647:=Q7 _ (by decide)
   have bx:=BX c0 (by omega)
   refine⟨_,_,aq,m_,_,_,aq,m_,kZ bx bx,_,_,aq,m_,kZ (m:=31) (BX (by decide) (by decide)) bx,(show (2147483629:Int)≠0 by decide),?_⟩
   have d0:0<=((n*48271+29).fmod 2147483647*(n*48271+29).fmod 2147483647+39373*(n*48271+29).fmod 2147483647+7).fmod 2147483629:=QP _ (by decide)
   have d1:((n*48271+29).fmod 2147483647*(n*48271+29).fmod 2147483647+39373*(n*48271+29).fmod 2147483647+7).fmod 2147483629 < 2147483629:=Q7 _ (by decide)
   have by':=BX d0 (by omega)
   refine⟨kZ by' by',kZ (m:=31) (BX (by decide) (by decide)) by',(show (2147483587:Int)≠0 by decide),⟨by decide,by decide +kernel⟩,(show m≠0 by omega),?_⟩
   exact q _ _ (QP _ hm) (Q7 _ hm) (put_dr _ _ λ_=>⟨c0,c1⟩)
theorem GT (a b:Int):Int.gcd (uc a) (uc b)=Int.gcd a b:=by
 have e:∀ x:Int,(uc x).natAbs=x.natAbs:=λx=>by unfold uc; split <;> omega
 unfold Int.gcd;rw [e,e]
def lP:ce:=λds S k=>∃ a b,ds=[.int a,.int b]/\k (.int ((Int.gcd a b:Nat):Int)) S
theorem fu:ar ["one","other"] ["one","other"] (aj i6):=dP
theorem qS (Fn:FN K "_law_divisor" i6 f fd) (nc:mg "abs"=none):
  aL P w K mg base cN 1 f fd ["one","other"] (cX K lP):=by
 refine Fn.okJ fu (λds S k h=>?_) (λcdv A outer s H E hr=>⟨_,(af (ah (i:=0) fu.nd (cm Bh rfl nc vK (aw 0 ac))) (af (ah (i:=1) fu.nd (cm Bh rfl nc vK (aw 1 ac))) (af (kL PassesOwn.never (aG Jp (ai 1) ak (aM _)) (ag (DR (i:=0) (j:=1) rfl fu.nd (by decide) (aw 1 (aa (az o0 (ai 0) (ai 1)) ac))))) (ag (am (ai 0)))))),λds S k h=>?_⟩)
 ·obtain⟨_,_,rfl,_⟩:=h
  rfl
 ·obtain⟨a,b,rfl,q⟩:=h;refine⟨λm L S'=>S'=S/\∃ x y,L=[some (.int x),some (.int y)]/\m=y.natAbs/\0<=x/\0<=y/\Int.gcd x y=Int.gcd a b,⟨_,rfl,uc a,uc b,rfl,rfl,AI a,AI b,GT a b⟩,?_⟩
  rintro m L S' ⟨rfl,x,y,rfl,rfl,hx,hy,e⟩;refine bq (λhl=>⟨λL' S''=>∃ m',m' < y.natAbs/\S''=S'/\∃ x y,L'=[some (.int x),some (.int y)]/\m'=y.natAbs/\0<=x/\0<=y/\Int.gcd x y=Int.gcd a b,λ_ _ z=>z,by omega,?_⟩) (λhl=>?_)
  ·exact⟨_,AC x y (by omega),rfl,y,x.fmod y,rfl,rfl,hy,QP _ hl,(xJ x y).trans e⟩
  ·have z:y=0:=by omega
   subst z;have e2:=yd x;rw [e,if_neg (by omega)] at e2
   rw [e2] at q;exact q
def fb:ce:=λds S k=>∃ t b,ds=[.int t,.int b]/\b≠0/\Bt 8000 b/\k (fr (Rat.divInt t b)) S
theorem jM:ar ["top","bottom","by"] ["top","bottom"] (aj kO):=dP
theorem uo (Fn:FN K "_law_ratio" kO f fd) (je:aN P w K mg base "_law_divisor" 1 lP):
  aL P w K mg base cN 2 f fd ["top","bottom"] (cX K fb):=by
 refine Fn.okJ jM (λds S k h=>?_) (λcdv A outer s H E hr=>⟨_,(af (ah (i:=2) jM.nd (dq je hr (aw 0 (aw 1 ac)))) (af (aK (aG zn (ai 1) ak (aM _)) (ag (ah (i:=2) jM.nd (az yH ak (ai 2)))) aO) (ag (am (au (aa (az hG (ai 0) (ai 2)) (aa (az hG (ai 1) (ai 2)) ac))))))),λds S k h=>?_⟩)
 ·obtain⟨_,_,rfl,_⟩:=h
  rfl
 ·obtain⟨t,b,rfl,h0,hb,q⟩:=h;have hg:=y8 (t:=t) h0 hb;have hs:=De (t:=t) h0;have e1:=oO (t:=t) h0;have e2:=pj (t:=t) h0;have qq:k (.tup [.int (t.fdiv (CW t b)),.int (b.fdiv (CW t b))]) S:=by rw [e1,e2]; exact q
  unfold CW at qq hs
  refine⟨t,b,rfl,bq (λhl=>?_) (λhl=>?_)⟩
  ·rw [if_pos hl] at qq hs
   rw [<- Int.zero_sub] at qq hs
   have hd:∀ x:Int,uU x (0 - ((Int.gcd t b:Nat):Int)):=λx=>zr hs (by rw [Int.zero_sub]; exact hg.neg)
   exact⟨hd _,hd _,few,qq⟩
  ·rw [if_neg hl] at qq hs
   exact⟨zr hs hg,zr hs hg,few,qq⟩
def oE:ce:=λds S k=>∃ (a b c d:Int) (q:Rat),ds=[pr a b,pr c d]/\b*d≠0/\Bt 4000 a/\Bt 4000 b/\Bt 4000 c/\Bt 4000 d/\Rat.divInt (a*c) (b*d)=q/\k (fr q) S
theorem uf:ar ["one","other"] ["one","other"] (aj kQ):=dP
theorem uD (Fn:FN K "_law_times" kQ f fd) (bz:aN P w K mg base "_law_ratio" 2 fb):
  aL P w K mg base cN 3 f fd ["one","other"] (cX K oE):=by
 refine Fn.okJ uf (λds S k h=>?_) (λcdv A outer s H E hr=>⟨_,(ag (am (dq bz hr (aa (az bT (aJ 0) (aJ 1)) (aa (az bT (aJ 0) (aJ 1)) ac))))),λds S k h=>?_⟩)
 ·obtain⟨_,_,_,_,_,rfl,_⟩:=h
  rfl
 ·obtain⟨a,b,c,d,_,rfl,h0,h1,h2,h3,h4,rfl,q⟩:=h;exact⟨kZ h1 h3,kZ h2 h4,_,_,rfl,h0,(h2.mul h4).mono (by decide),q⟩
def kl:ce:=λds S k=>∃ a,ds=[.ref a]/\vm S a/\∀ q S',Sd 4 3 q->Dr a S S'->k (fr q) S'
theorem uh:ar ["state"] ["state"] (aj kI):=dP
theorem uK (Fn:FN K "_law_small" kI f fd) (bz:aN P w K mg base "_law_ratio" 2 fb) (aV:aN P w K mg base "_law_take" 1 hJ):
  aL P w K mg base cN 3 f fd ["state"] (cX K kl):=by
 refine Fn.okJ uh (λds S k h=>?_) (λcdv A outer s H E hr=>⟨_,(ag (am (dq bz hr (aa (az yH (dq aV hr (aw 0 (aa ak ac))) ak) (aa (az eO ak (cA du (fX (aa ak (aa ak (aa (dq aV hr (aw 0 (aa ak ac))) ac)))) (dq aV hr (aw 0 (aa ak ac))) Zf)) ac))))),λds S k h=>?_⟩)
 ·obtain⟨_,rfl,_⟩:=h
  rfl
 ·obtain⟨a,rfl,hS,q⟩:=h;refine⟨a,19,rfl,by decide,by decide,hS,λr1 S1 h1 h1' d1=>⟨a,6,rfl,by decide,by decide,d1.1,λr2 S2 h2 h2' d2=>⟨few,λp hp=>⟨a,3,rfl,by decide,by decide,d2.1.new hp,λr3 S3 h3 h3' d3=>?_⟩⟩⟩⟩
  have hp3:=d3.2 p _ (d2.1.ne hp) aq;obtain⟨c,hc,hm⟩:=rL (ds:=[.int 0,.int 0,.int r2]) h3 h3';have hc2:∃ s:Int,c=.int s/\0<=s/\s < 6:=by
   simp only [P9,Qh,or_false] at hm;rcases hm with rfl | rfl | rfl
   ·exact⟨0,rfl,by decide,by decide⟩
   ·exact⟨0,rfl,by decide,by decide⟩
   ·exact⟨r2,rfl,h2,h2'⟩
  obtain⟨s,rfl,s0,s1⟩:=hc2;have b1:Bt 4 (r1 - 9):=by unfold Bt; omega
  have b2:Bt 3 (1+s):=by unfold Bt; omega
  exact⟨_,_,hp3,hc,_,_,rfl,by omega,b2.mono (by decide),q _ _ (Sd.divInt b1 b2 (by omega)) (d1.trans (d2.trans ((Dr.new d2.1 hp).trans d3)))⟩
def pd:ce:=λds S k=>∃ a,ds=[.ref a]/\vm S a/\∀ q S',Sd 4 3 q->Dr a S S'->k (fr q) S'
theorem uF:ar ["state"] ["state"] (aj kd):=dP
theorem uj (Fn:FN K "_law_above" kd f fd) (bz:aN P w K mg base "_law_ratio" 2 fb) (aV:aN P w K mg base "_law_take" 1 hJ):
  aL P w K mg base cN 3 f fd ["state"] (cX K pd):=by
 refine Fn.okJ uF (λds S k h=>?_) (λcdv A outer s H E hr=>⟨_,(ag (am (dq bz hr (aa (az eO ak (dq aV hr (aw 0 (aa ak ac)))) (aa (az eO ak (cA du (fX (aa ak (aa ak (aa (dq aV hr (aw 0 (aa ak ac))) ac)))) (dq aV hr (aw 0 (aa ak ac))) Zf)) ac))))),λds S k h=>?_⟩)
 ·obtain⟨_,rfl,_⟩:=h
  rfl
 ·obtain⟨a,rfl,hS,q⟩:=h;refine⟨a,12,rfl,by decide,by decide,hS,λr1 S1 h1 h1' d1=>⟨a,6,rfl,by decide,by decide,d1.1,λr2 S2 h2 h2' d2=>⟨few,λp hp=>⟨a,3,rfl,by decide,by decide,d2.1.new hp,λr3 S3 h3 h3' d3=>?_⟩⟩⟩⟩
  have hp3:=d3.2 p _ (d2.1.ne hp) aq;obtain⟨c,hc,hm⟩:=rL (ds:=[.int 0,.int 0,.int r2]) h3 h3';have hc2:∃ s:Int,c=.int s/\0<=s/\s < 6:=by
   simp only [P9,Qh,or_false] at hm;rcases hm with rfl | rfl | rfl
   ·exact⟨0,rfl,by decide,by decide⟩
   ·exact⟨0,rfl,by decide,by decide⟩
   ·exact⟨r2,rfl,h2,h2'⟩
  obtain⟨s,rfl,s0,s1⟩:=hc2;have b1:Bt 4 (1+r1):=by unfold Bt; omega
  have b2:Bt 3 (1+s):=by unfold Bt; omega
  exact⟨_,_,hp3,hc,_,_,rfl,by omega,b2.mono (by decide),q _ _ (Sd.divInt b1 b2 (by omega)) (d1.trans (d2.trans ((Dr.new d2.1 hp).trans d3)))⟩
theorem Ct {S:DH} {k:DK} {t b:Int} {q:Rat} (e:Rat.divInt t b=q) (h0:b≠0) (hb:Bt 8000 b) (h:k (fr q) S):fb [.int t,.int b] S k:=by subst e; exact⟨_,_,rfl,h0,hb,h⟩
theorem vm.set {a q:Rh} {S:DH} {o:DO} (h:vm S a) (z:q≠a):vm (put S q o) a:=by
 obtain⟨n,b,e,w⟩:=h;exact⟨n,b,by rw [bV (Ne.symm z)]; exact e,w⟩
def qL:ce:=λds S k=>∃ (a b c d:Int) (q:Rat),ds=[pr a b,pr c d]/\b*d≠0/\Bt 4000 a/\Bt 4000 b/\Bt 4000 c/\Bt 4000 d/\Rat.divInt (a*d+c*b) (b*d)=q/\k (fr q) S
theorem vQ:ar ["one","other"] ["one","other"] (aj lH):=dP
theorem vT (Fn:FN K "_law_plus" lH f fd) (bz:aN P w K mg base "_law_ratio" 2 fb):
  aL P w K mg base cN 3 f fd ["one","other"] (cX K qL):=by
 refine Fn.okJ vQ (λds S k h=>?_) (λcdv A outer s H E hr=>⟨_,(ag (am (dq bz hr (aa (az eO (az bT (aJ 0) (aJ 1)) (az bT (aJ 1) (aJ 0))) (aa (az bT (aJ 0) (aJ 1)) ac))))),λds S k h=>?_⟩)
 ·obtain⟨_,_,_,_,_,rfl,_⟩:=h
  rfl
 ·obtain⟨a,b,c,d,q,rfl,h0,h1,h2,h3,h4,e,w⟩:=h;exact⟨kZ h1 h4,kZ h3 h2,kZ h2 h4,Ct e h0 ((h2.mul h4).mono (by decide)) w⟩
theorem Dr.putN {a p:Rh} {S T:DH} {o:DO} (d:Dr a S T) (hp:S p=none) (n:p≠a):Dr a S (put T p o):=⟨d.1.set n,λb u nb e=>by
 rw [bV (λz=>by rw [z,hp] at e; cases e)]
 exact d.2 b u nb e⟩
theorem Dr.keep {a p:Rh} {S S':DH} {o:DO} (h:Dr a S S') (n:p≠a) (e:S p=some o):S' p=some o:=h.2 p o n e
structure Fr (z:Cp):Prop where
 ox:Sd 4 3 z.ox
 oy:Sd 4 3 z.oy
 px:Sd 5 3 z.px
 py:Sd 4 3 z.py
 cr:Sd 4 3 z.cr
 al:Sd 4 3 z.al
 le:Sd 4 3 z.le
def Pa (z:Cp):D:=.tup [W z.ox z.oy,W z.px z.py,fr z.cr,.tup [fr z.s0,fr z.s1],W z.al z.le]
def jX:ce:=λds S k=>∃ a,ds=[.ref a]/\vm S a/\∀ z S',Fr z->Sd 8 3 z.s0->Sd 8 3 z.s1->Dr a S S'->k (Pa z) S'
theorem ca:ar ["state","one","other","squares","places"] ["state"] (aj gB):=dP
theorem oK (Fn:FN K "_law_four_rods" gB f fd) (aY:aN P w K mg base "_law_small" 3 kl) (mB:aN P w K mg base "_law_plus" 3 qL) (iF:aN P w K mg base "_law_times" 3 oE) (fO:aN P w K mg base "_law_above" 3 pd) (aV:aN P w K mg base "_law_take" 1 hJ):
  aL P w K mg base cN 4 f fd ["state"] (cX K jX):=by
 refine Fn.okJ ca (λds S k h=>?_) (λcdv A outer s H E hr=>⟨_,(af (ah (i:=1) ca.nd (au (aa (dq aY hr (aw 0 ac)) (aa (dq aY hr (aw 0 ac)) ac)))) (af (ah (i:=2) ca.nd (au (aa (dq aY hr (aw 0 ac)) (aa (dq aY hr (aw 0 ac)) ac)))) (af (aK (aG (C5 hr) (ai 1) (ai 2) (aM _)) (ag (ah (i:=2) ca.nd (au (aa (dq mB hr (aa (cA yO (ai 2) ak Zf) (aa (au (aa ak (aa ak ac))) ac))) (aa (cA yO (ai 2) ak Zf) ac))))) aO) (af (ah (i:=3) ca.nd (au (aa (dq iF hr (aa (dq fO hr (aw 0 ac)) (aa (au (aa ak (aa ak ac))) ac))) (aa (dq iF hr (aa (dq fO hr (aw 0 ac)) (aa (au (aa ak (aa ak ac))) ac))) ac)))) (af (ah (i:=4) ca.nd (fX (aa (au (aa (dq aY hr (aw 0 ac)) (aa (dq aY hr (aw 0 ac)) ac))) (aa (au (aa (au (aa ak (aa ak ac))) (aa (au (aa ak (aa ak ac))) ac))) (aa (au (aa (au (aa ak (aa ak ac))) (aa (dq aY hr (aw 0 ac)) ac))) (aa (au (aa (au (aa ak (aa ak ac))) (aa (au (aa ak (aa ak ac))) ac))) ac)))))) (ag (am (au (aw 1 (aw 2 (aa (dq fO hr (aw 0 ac)) (aw 3 (aa (cA yO (ai 4) (dq aV hr (aw 0 (aa ak ac))) Zf) ac))))))))))))),λds S k h=>?_⟩)
 ·obtain⟨_,rfl,_⟩:=h
  rfl
 ·obtain⟨a,rfl,hS,w⟩:=h;refine⟨a,rfl,hS,λox S1 hox d1=>⟨a,rfl,d1.1,λoy S2 hoy d2=>⟨few,a,rfl,d2.1,λpx S3 hpx d3=>⟨a,rfl,d3.1,λpy S4 hpy d4=>⟨few,?_⟩⟩⟩⟩⟩
  dsimp only;refine Ba (λL S'=>S'=S4/\∃ px',L=[some (.ref a),some (W ox oy),some (W px' py),none,none]/\Sd 5 3 px') ?_ (λgo=>?_)
  rotate_left
  ·refine⟨_,Ee (n:=7) (Df (n:=6)) (Df (n:=6)),AA (λ_=>?_) (λ_=>go [some (.ref a),some (W ox oy),some (W px py),none,none] _ ⟨rfl,px,rfl,hpx.num.mono (by decide),hpx.den⟩)⟩
   have n1:(px.den:Int)*1≠0:=by have:=cj px; omega
   have b1:Bt 5 (px.num*1+1*(px.den:Int)):=by
    have h1:=hpx.num;have h2:=hpx.den;unfold Bt at*
    omega
   have b2:Bt 3 ((px.den:Int)*1):=by rw [Int.mul_one]; exact hpx.den
   exact⟨_,rfl,few,_,_,1,1,_,rfl,n1,hpx.num.mono (by decide),hpx.den.mono (by decide),by decide,by decide,rfl,_,rfl,few,go [some (.ref a),some (W ox oy),some (W _ py),none,none] _ ⟨rfl,_,rfl,Sd.divInt b1 b2 n1⟩⟩
  rintro L S' ⟨rfl,px',rfl,hpx'⟩;have D4:=d1.trans (d2.trans (d3.trans d4));have nine:∀ {q:Rat},Sd 4 3 q->(q.den:Int)*1≠0/\Sd 8 3 (Rat.divInt (q.num*9) ((q.den:Int)*1)):=λ{q} hq=>by
   have n1:(q.den:Int)*1≠0:=by have:=cj q; omega
   exact⟨n1,Sd.divInt (hq.num.mul (show Bt 4 9 by decide)) (by rw [Int.mul_one]; exact hq.den) n1⟩
  refine⟨a,rfl,d4.1,λs0 S5 hs0 d5=>⟨few,_,_,9,1,_,rfl,(nine hs0).1,hs0.num.mono (by decide),hs0.den.mono (by decide),by decide,by decide,rfl,a,rfl,d5.1,λs1 S6 hs1 d6=>⟨few,_,_,9,1,_,rfl,(nine hs1).1,hs1.num.mono (by decide),hs1.den.mono (by decide),by decide,by decide,rfl,few,?_⟩⟩⟩
  refine⟨a,rfl,d6.1,λal S7 hal d7=>⟨a,rfl,d7.1,λle S8 hle d8=>⟨few,few,few,few,few,a,rfl,d8.1,λle2 S9 hle2 d9=>⟨few,few,few,few,few,λl hl=>?_⟩⟩⟩⟩
  have D9:=D4.trans (d5.trans (d6.trans (d7.trans (d8.trans d9))));refine⟨a,rfl,d9.1.new hl,λcr Sa hcr da=>⟨a,4,rfl,by decide,by decide,da.1,λr Sb r0 r1 db=>?_⟩⟩
  have yl:=db.keep (d9.1.ne hl) (da.keep (d9.1.ne hl) (aq (S:=S9) (a:=l) (o:=.lst [W al le,.tup [.tup [.int 1,.int 2],.tup [.int 0,.int 1]],.tup [.tup [.int 0,.int 1],fr le2],.tup [.tup [.int 1,.int 1],.tup [.int 0,.int 1]]])));obtain⟨c,hc,hm⟩:=rL (ds:=[W al le,.tup [.tup [.int 1,.int 2],.tup [.int 0,.int 1]],.tup [.tup [.int 0,.int 1],fr le2],.tup [.tup [.int 1,.int 1],.tup [.int 0,.int 1]]]) r0 r1;obtain⟨al',le',rfl,ha',hl'⟩:∃ al' le':Rat,c=W al' le'/\Sd 4 3 al'/\Sd 4 3 le':=by
   simp only [P9,Qh,or_false] at hm;have z0:Sd 4 3 (0:Rat):=⟨by decide,by decide⟩
   rcases hm with rfl | rfl | rfl | rfl
   ·exact⟨al,le,rfl,hal,hle⟩
   ·exact⟨⟨1,2,by decide,by decide⟩,0,rfl,⟨by decide,by decide⟩,z0⟩
   ·exact⟨0,le2,rfl,z0,hle2⟩
   ·exact⟨1,0,rfl,⟨by decide,by decide⟩,z0⟩
  have Dq:=D9.trans ((Dr.new d9.1 hl).trans (da.trans db));exact⟨_,_,yl,hc,few,w ⟨ox,oy,px',py,cr,_,_,al',le'⟩ Sb ⟨hox,hoy,hpx',hpy,hcr,ha',hl'⟩ (nine hs0).2 (nine hs1).2 Dq⟩
theorem Bi {a b r:Rat} {M:Int} {T:Nat} (ha:∃ t:Int,Bt T t/\(M:Rat)*a=t) (hb:∃ t:Int,Bt T t/\(M:Rat)*b=t) (hr:∃ t:Int,Bt T t/\(M:Rat)*r=t):Wf 1 M T (gR (qX a b r)):=⟨λk n=>by
 rw [EA] at n
 by_cases h1:k=[1,0]
 ·exact⟨1,0,h1,by decide,by decide,by decide⟩
 by_cases h2:k=[0,1]
 ·exact⟨0,1,h2,by decide,by decide,by decide⟩
 by_cases h3:k=[0,0]
 ·exact⟨0,0,h3,by decide,by decide,by decide⟩
 rw [if_neg h1,if_neg h2,if_neg h3] at n;exact absurd rfl n,λk=>by
 rw [EA]
 split
 ·exact ha
 split
 ·exact hb
 split
 ·exact hr
 ·exact⟨0,HM.Bt.zero,by rw [Rat.mul_zero]; rfl⟩⟩
def Dz (M:Int) (T:Nat) (q:Rat):Prop:=∃ t:Int,Bt T t/\(M:Rat)*q=t
theorem Dz.mono {M:Int} {T T':Nat} {q:Rat} (h:Dz M T q) (hT:T<=T'):Dz M T' q:=by
 obtain⟨t,bt,e⟩:=h;exact⟨t,bt.mono hT,e⟩
theorem Dz.add {M:Int} {T:Nat} {p q:Rat} (h:Dz M T p) (h':Dz M T q):Dz M (T+1) (p+q):=by
 obtain⟨t,bt,e⟩:=h;obtain⟨t',bt',e'⟩:=h';exact⟨t+t',bt.add1 bt',by rw [Rat.mul_add,e,e',Qj]⟩
theorem Dz.neg {M:Int} {T:Nat} {p:Rat} (h:Dz M T p):Dz M T (-p):=by
 obtain⟨t,bt,e⟩:=h;exact⟨-t,bt.neg',by rw [Rat.intCast_neg,<- e]; grind⟩
theorem Dz.sub {M:Int} {T:Nat} {p q:Rat} (h:Dz M T p) (h':Dz M T q):Dz M (T+1) (p - q):=by
 rw [show p - q=p+-q by grind]
 exact h.add h'.neg
theorem Dz.one {M:Int} {T:Nat} (h:Bt T M):Dz M T 1:=⟨M,h,Rat.mul_one _⟩
theorem Dz.num {M m:Int} {n s T:Nat} {q:Rat} (e:M=(q.den:Int)*m) (hn:Bt n q.num) (hm:Bt s m) (hT:n+s<=T):Dz M T q:=⟨q.num*m,(hn.mul hm).mono hT,by
 have d:=bv q;rw [e,P2,P2,<- d];grind⟩
theorem Dz.prod {M m:Int} {n n' s T:Nat} {p q:Rat} (e:M=(p.den:Int)*(q.den:Int)*m) (hn:Bt n p.num) (hn':Bt n' q.num) (hm:Bt s m) (hT:n+n'+s<=T):Dz M T (p*q):=⟨p.num*q.num*m,((hn.mul hn').mul hm).mono hT,by
 have d:=bv p;have d':=bv q;rw [e,P2,P2,P2,P2,<- d,<- d'];grind⟩
theorem Dz.prod3 {M m:Int} {n n' n2 s T:Nat} {p q r:Rat} (e:M=(p.den:Int)*(q.den:Int)*(r.den:Int)*m) (hn:Bt n p.num) (hn':Bt n' q.num) (hn2:Bt n2 r.num) (hm:Bt s m) (hT:n+n'+n2+s<=T):Dz M T (p*q*r):=⟨p.num*q.num*r.num*m,(((hn.mul hn').mul hn2).mul hm).mono hT,by
 have d:=bv p;have d':=bv q;have d2:=bv r;rw [e,P2,P2,P2,P2,P2,P2,<- d,<- d',<- d2];grind⟩
theorem IF {x y s:Rat} {M:Int} {T:Nat} (h1:Dz M T 1) (ha:Dz M T (-(x+x))) (hb:Dz M T (-(y+y))) (hr:Dz M T (x*x+y*y - s)):Wf 2 M T (gR (uN x y s)):=⟨λk n=>by
 rw [<- FT,zH] at n
 by_cases e1:k=[2,0]
 ·exact⟨2,0,e1,by decide,by decide,by decide⟩
 by_cases e2:k=[0,2]
 ·exact⟨0,2,e2,by decide,by decide,by decide⟩
 by_cases e3:k=[1,1]
 ·exact⟨1,1,e3,by decide,by decide,by decide⟩
 by_cases e4:k=[1,0]
 ·exact⟨1,0,e4,by decide,by decide,by decide⟩
 by_cases e5:k=[0,1]
 ·exact⟨0,1,e5,by decide,by decide,by decide⟩
 by_cases e6:k=[0,0]
 ·exact⟨0,0,e6,by decide,by decide,by decide⟩
 rw [if_neg e1,if_neg e2,if_neg e3,if_neg e4,if_neg e5,if_neg e6] at n;exact absurd rfl n,λk=>by
 have z:Dz M T 0:=⟨0,HM.Bt.zero,by rw [Rat.mul_zero]; rfl⟩
 rw [<- FT,zH]
 split
 ·exact h1
 split
 ·exact h1
 split
 ·exact z
 split
 ·exact ha
 split
 ·exact hb
 split
 ·exact hr
 ·exact z⟩
theorem Jf {M1 M2 R a b c d e f e0 k e1:Int} (m1:M1=a*b*c*d*(e*f)) (m2:M2=M1*M1*(e0*(k*k)*e1)):
  M2=a*(b*c*d*(e*f)*M1*(e0*(k*k)*e1))/\M2=b*(a*c*d*(e*f)*M1*(e0*(k*k)*e1))/\M2=c*(a*b*d*(e*f)*M1*(e0*(k*k)*e1))/\M2=d*(a*b*c*(e*f)*M1*(e0*(k*k)*e1))/\
  M2=a*a*(b*c*d*(e*f)*(b*c*d*(e*f))*(e0*(k*k)*e1))/\M2=b*b*(a*c*d*(e*f)*(a*c*d*(e*f))*(e0*(k*k)*e1))/\M2=c*c*(a*b*d*(e*f)*(a*b*d*(e*f))*(e0*(k*k)*e1))/\M2=d*d*(a*b*c*(e*f)*(a*b*c*(e*f))*(e0*(k*k)*e1))/\
  M2=k*k*(M1*M1*(e0*e1))/\M2=e1*(M1*M1*(e0*(k*k)))/\M2=e0*(M1*M1*(k*k*e1))/\M2=e*e0*(a*b*c*d*f*M1*(k*k*e1))/\
  M2=e*e*e0*(a*b*c*d*f*(a*b*c*d*f)*(k*k*e1))/\M2=f*f*e0*(a*b*c*d*e*(a*b*c*d*e)*(k*k*e1))/\
  M2*M2=M1*M1*e0*(M1*M1*(e0*(k*k*(k*k))*(e1*e1))):=by
 subst m2;refine⟨?_,?_,?_,?_,?_,?_,?_,?_,by grind,by grind,by grind,?_,?_,?_,by grind⟩ <;> (subst m1; grind)
theorem MK {z:Cp} (h:Fr z) (h0:Sd 31 24 z.s0) (h1:Sd 30 6 z.s1):∃ M1 M2,dX z M1 M2:=by
 have D1:=h.ox.den;have D2:=h.oy.den;have D3:=h.px.den;have D4:=h.py.den;have D5:=h.al.den;have D6:=h.le.den;have Dc:=h.cr.den;have E0:=h0.den;have E1:=h1.den;have q1:=cj z.ox;have q2:=cj z.oy;have q3:=cj z.px;have q4:=cj z.py;have q5:=cj z.al;have q6:=cj z.le;have qc:=cj z.cr;have r0:=cj z.s0;have r1:=cj z.s1;have M1e:∃ M1:Int,M1=(z.ox.den:Int)*z.oy.den*z.px.den*z.py.den*(z.al.den*z.le.den):=⟨_,rfl⟩;obtain⟨M1,m1⟩:=M1e;have p1:0 < M1:=by rw [m1]; exact Int.mul_pos (Int.mul_pos (Int.mul_pos (Int.mul_pos q1 q2) q3) q4) (Int.mul_pos q5 q6)
 have b1:Bt 18 M1:=by rw [m1]; exact(((D1.mul D2).mul D3).mul D4).mul (D5.mul D6)
 have M2e:∃ M2:Int,M2=M1*M1*(z.s0.den*(z.cr.den*z.cr.den)*z.s1.den):=⟨_,rfl⟩;obtain⟨M2,m2⟩:=M2e;have p2:0 < M2:=by rw [m2]; exact Int.mul_pos (Int.mul_pos p1 p1) (Int.mul_pos (Int.mul_pos r0 (Int.mul_pos qc qc)) r1)
 have b2:Bt 72 M2:=by rw [m2]; exact((b1.mul b1).mul ((E0.mul (Dc.mul Dc)).mul E1)).mono (by decide)
 have al1:Dz M1 40 z.al:=Dz.num (m:=(z.ox.den:Int)*z.oy.den*z.px.den*z.py.den*z.le.den) (by rw [m1]; grind) h.al.num ((((D1.mul D2).mul D3).mul D4).mul D6) (by decide)
 have le1:Dz M1 40 z.le:=Dz.num (m:=(z.ox.den:Int)*z.oy.den*z.px.den*z.py.den*z.al.den) (by rw [m1]; grind) h.le.num ((((D1.mul D2).mul D3).mul D4).mul D5) (by decide)
 have o1:Dz M1 40 1:=Dz.one (b1.mono (by decide))
 have x1:Dz M1 40 z.px:=Dz.num (m:=(z.ox.den:Int)*z.oy.den*z.py.den*(z.al.den*z.le.den)) (by rw [m1]; grind) h.px.num (((D1.mul D2).mul D4).mul (D5.mul D6)) (by decide)
 have y1:Dz M1 40 z.py:=Dz.num (m:=(z.ox.den:Int)*z.oy.den*z.px.den*(z.al.den*z.le.den)) (by rw [m1]; grind) h.py.num (((D1.mul D2).mul D3).mul (D5.mul D6)) (by decide)
 have oxal:Dz M1 40 (z.ox*z.al):=Dz.prod (m:=(z.oy.den:Int)*z.px.den*z.py.den*z.le.den) (by rw [m1]; grind) h.ox.num h.al.num (((D2.mul D3).mul D4).mul D6) (by decide)
 have oxle:Dz M1 40 (z.ox*z.le):=Dz.prod (m:=(z.oy.den:Int)*z.px.den*z.py.den*z.al.den) (by rw [m1]; grind) h.ox.num h.le.num (((D2.mul D3).mul D4).mul D5) (by decide)
 have oyal:Dz M1 40 (z.oy*z.al):=Dz.prod (m:=(z.ox.den:Int)*z.px.den*z.py.den*z.le.den) (by rw [m1]; grind) h.oy.num h.al.num (((D1.mul D3).mul D4).mul D6) (by decide)
 have oyle:Dz M1 40 (z.oy*z.le):=Dz.prod (m:=(z.ox.den:Int)*z.px.den*z.py.den*z.al.den) (by rw [m1]; grind) h.oy.num h.le.num (((D1.mul D3).mul D4).mul D5) (by decide)
 have pxal:Dz M1 40 (z.px*z.al):=Dz.prod (m:=(z.ox.den:Int)*z.oy.den*z.py.den*z.le.den) (by rw [m1]; grind) h.px.num h.al.num (((D1.mul D2).mul D4).mul D6) (by decide)
 have pxle:Dz M1 40 (z.px*z.le):=Dz.prod (m:=(z.ox.den:Int)*z.oy.den*z.py.den*z.al.den) (by rw [m1]; grind) h.px.num h.le.num (((D1.mul D2).mul D4).mul D5) (by decide)
 have pyal:Dz M1 40 (z.py*z.al):=Dz.prod (m:=(z.ox.den:Int)*z.oy.den*z.px.den*z.le.den) (by rw [m1]; grind) h.py.num h.al.num (((D1.mul D2).mul D3).mul D6) (by decide)
 have pyle:Dz M1 40 (z.py*z.le):=Dz.prod (m:=(z.ox.den:Int)*z.oy.den*z.px.den*z.al.den) (by rw [m1]; grind) h.py.num h.le.num (((D1.mul D2).mul D3).mul D5) (by decide)
 obtain⟨f1,f2,f3,f4,f5,f6,f7,f8,f9,f10,f11,f12,f13,f14,f15⟩:=Jf (R:=0) m1 m2;have R36:Bt 36 ((z.s0.den:Int)*(z.cr.den*z.cr.den)*z.s1.den):=((E0.mul (Dc.mul Dc)).mul E1).mono (by decide)
 have K12:Bt 12 ((z.cr.den:Int)*z.cr.den*z.s1.den):=((Dc.mul Dc).mul E1).mono (by decide)
 have o2:Dz M2 100 1:=Dz.one (b2.mono (by decide))
 have ox2:Dz M2 100 z.ox:=Dz.num f1 h.ox.num (((((D2.mul D3).mul D4).mul (D5.mul D6)).mul b1).mul R36) (by decide)
 have oy2:Dz M2 100 z.oy:=Dz.num f2 h.oy.num (((((D1.mul D3).mul D4).mul (D5.mul D6)).mul b1).mul R36) (by decide)
 have px2:Dz M2 100 z.px:=Dz.num f3 h.px.num (((((D1.mul D2).mul D4).mul (D5.mul D6)).mul b1).mul R36) (by decide)
 have py2:Dz M2 100 z.py:=Dz.num f4 h.py.num (((((D1.mul D2).mul D3).mul (D5.mul D6)).mul b1).mul R36) (by decide)
 have oxx:Dz M2 100 (z.ox*z.ox):=Dz.prod f5 h.ox.num h.ox.num (((((D2.mul D3).mul D4).mul (D5.mul D6)).mul (((D2.mul D3).mul D4).mul (D5.mul D6))).mul R36) (by decide)
 have oyy:Dz M2 100 (z.oy*z.oy):=Dz.prod f6 h.oy.num h.oy.num (((((D1.mul D3).mul D4).mul (D5.mul D6)).mul (((D1.mul D3).mul D4).mul (D5.mul D6))).mul R36) (by decide)
 have pxx:Dz M2 100 (z.px*z.px):=Dz.prod f7 h.px.num h.px.num (((((D1.mul D2).mul D4).mul (D5.mul D6)).mul (((D1.mul D2).mul D4).mul (D5.mul D6))).mul R36) (by decide)
 have pyy:Dz M2 100 (z.py*z.py):=Dz.prod f8 h.py.num h.py.num (((((D1.mul D2).mul D3).mul (D5.mul D6)).mul (((D1.mul D2).mul D3).mul (D5.mul D6))).mul R36) (by decide)
 have crr:Dz M2 100 (z.cr*z.cr):=Dz.prod f9 h.cr.num h.cr.num ((b1.mul b1).mul (E0.mul E1)) (by decide)
 have s1z:Dz M2 110 z.s1:=Dz.num f10 h1.num ((b1.mul b1).mul (E0.mul (Dc.mul Dc))) (by decide)
 have s0z:Dz M2 110 z.s0:=Dz.num f11 h0.num ((b1.mul b1).mul K12) (by decide)
 have als:Dz M2 110 (z.al*z.s0):=Dz.prod f12 h.al.num h0.num ((((((D1.mul D2).mul D3).mul D4).mul D6).mul b1).mul K12) (by decide)
 have aas:Dz M2 110 (z.al*z.al*z.s0):=Dz.prod3 f13 h.al.num h.al.num h0.num ((((((D1.mul D2).mul D3).mul D4).mul D6).mul ((((D1.mul D2).mul D3).mul D4).mul D6)).mul K12) (by decide)
 have lls:Dz M2 110 (z.le*z.le*z.s0):=Dz.prod3 f14 h.le.num h.le.num h0.num ((((((D1.mul D2).mul D3).mul D4).mul D5).mul ((((D1.mul D2).mul D3).mul D4).mul D5)).mul K12) (by decide)
 refine⟨M1,M2,⟨h.ox.sz (by decide) (by decide),h.oy.sz (by decide) (by decide),h.px.sz (by decide) (by decide),h.py.sz (by decide) (by decide),h.cr.sz (by decide) (by decide),h0.sz (by decide) (by decide),h1.sz (by decide) (by decide),h.al.sz (by decide) (by decide),h.le.sz (by decide) (by decide),p1,p2,b1,b2,?_,?_,?_,?_,?_,?_,⟨_,f15,((b1.mul b1).mul ((E0.mul ((Dc.mul Dc).mul (Dc.mul Dc))).mul (E1.mul E1))).mono (by decide)⟩⟩⟩
 ·exact Bi (al1.mono (by decide)) (le1.mono (by decide)) ((oxal.add oyle).neg.mono (by decide))
 ·refine Bi (le1.neg.mono (by decide)) (al1.mono (by decide)) ?_
  rw [show -(z.ox*-z.le+z.oy*z.al)=z.ox*z.le - z.oy*z.al by grind]
  exact(oxle.sub oyal).mono (by decide)
 ·refine Bi ((al1.sub o1).mono (by decide)) (le1.mono (by decide)) ?_
  rw [show -(z.px*(z.al - 1)+z.py*z.le)=z.px - z.px*z.al - z.py*z.le by grind]
  exact((x1.sub pxal).sub (pyle.mono (by decide))).mono (by decide)
 ·refine Bi (le1.neg.mono (by decide)) ((al1.sub o1).mono (by decide)) ?_
  rw [show -(z.px*-z.le+z.py*(z.al - 1))=z.px*z.le - z.py*z.al+z.py by grind]
  exact((pxle.sub pyal).add (y1.mono (by decide))).mono (by decide)
 ·refine IF (o2.mono (by decide)) ((ox2.add ox2).neg.mono (by decide)) ((oy2.add oy2).neg.mono (by decide)) ?_
  rw [show z.ox*z.ox+z.oy*z.oy - (z.cr*z.cr - (z.al*z.al+z.le*z.le)*z.s0)=(z.ox*z.ox+z.oy*z.oy - z.cr*z.cr)+(z.al*z.al*z.s0+z.le*z.le*z.s0) by grind]
  exact((((oxx.add oyy).sub (crr.mono (by decide))).mono (T':=111) (by decide)).add (aas.add lls)).mono (by decide)
 ·refine IF (o2.mono (by decide)) ((px2.add px2).neg.mono (by decide)) ((py2.add py2).neg.mono (by decide)) ?_
  rw [show z.px*z.px+z.py*z.py - (z.s1 - ((z.al - 1)*(z.al - 1)+z.le*z.le)*z.s0)=((z.px*z.px+z.py*z.py)+(z.al*z.al*z.s0+z.le*z.le*z.s0))+((z.s0 - z.s1) - (z.al*z.s0+z.al*z.s0)) by grind]
  exact((((pxx.add pyy).mono (T':=111) (by decide)).add (aas.add lls)).add ((s0z.sub s1z).sub (als.add als))).mono (by decide)
set_option maxHeartbeats 4000000
def Cp.pm (z:Cp):Pm:=⟨z.ox,z.oy,z.px,z.py,z.cr,z.s0,z.s1,z.al,z.le⟩
def Li (o:Ri Rat):Prop:=∀ t,o=some t->Sd 4 3 t
theorem Li.ok {o:Ri Rat} (h:Li o):BB o:=λt e=>(h t e).sz (by decide) (by decide)
theorem G3 (o:Ri Rat):qM o*qM o+qN o*qN o=1:=by
 cases o with
 | none=>decide +kernel
 | some t=>
  have h:=gQ t;unfold qM qN;dsimp only;grind
theorem GQ {o:Ri Rat} (h:Li o):∃ W A B:Int,0 < W/\Bt 9 W/\Bt 8 A/\Bt 8 B/\qM o*(W:Rat)=A/\qN o*(W:Rat)=B:=by
 cases o with
 | none=>exact⟨1,-1,0,by decide,by decide,by decide,by decide,by decide +kernel,by decide +kernel⟩
 | some t=>
  have s:=h t rfl;have n1:=s.num;have d1:=s.den;have d0:=cj t;have e:=bv t;generalize t.num=p at*
  generalize (t.den:Int)=q at*
  have b1:p.natAbs < 16:=n1;have b2:q.natAbs < 8:=d1;have pp:p*p=((p.natAbs*p.natAbs:Nat):Int):=Int.natAbs_mul_self.symm;have qq:q*q=((q.natAbs*q.natAbs:Nat):Int):=Int.natAbs_mul_self.symm;have m1:p.natAbs*p.natAbs<=15*15:=Nat.mul_le_mul (by omega) (by omega)
  have m2:q.natAbs*q.natAbs<=7*7:=Nat.mul_le_mul (by omega) (by omega)
  have m3:1*1<=q.natAbs*q.natAbs:=Nat.mul_le_mul (by omega) (by omega)
  have m4:p.natAbs*q.natAbs<=15*7:=Nat.mul_le_mul (by omega) (by omega)
  have pq:(p*q).natAbs=p.natAbs*q.natAbs:=QZ _ _;refine⟨q*q+p*p,q*q - p*p,2*(p*q),by omega,by unfold Bt; omega,by unfold Bt; omega,by unfold Bt; omega,?_,?_⟩
  ·have h0:=gQ t;simp only [Qj,P2,Rat.intCast_sub];rw [<- e];unfold qM;dsimp only;generalize (q:Rat)=r;grind
  ·have h0:=gQ t;have e2:((2:Int):Rat)=2:=rfl;simp only [Qj,P2];rw [<- e,e2];unfold qN;dsimp only;generalize (q:Rat)=r;grind
theorem AF {x y c d:Rat} {W A a b e f g:Int} {m n l:Int} (hx:((a:Int):Rat)*x=(m:Rat)) (hy:((b:Int):Rat)*y=(n:Rat)) (hc:((e:Int):Rat)*c=(l:Rat)) (hd:d*(W:Rat)=A):
  (x - (y+d*c))*((W*(a*b*e*f*g):Int):Rat)=((m*(W*(b*e*f*g)) - (n*(W*(a*e*f*g))+A*l*(a*b*f*g)):Int):Rat):=by
 simp only [Qj,P2,Rat.intCast_sub];rw [<- hx,<- hy,<- hc,<- hd];grind
theorem Lp {a b c d:Int} (ha:Bt 3 a) (hb:Bt 3 b) (hc:Bt 3 c) (hd:Bt 3 d):Bt 12 (a*b*c*d):=((ha.mul hb).mul hc).mul hd
theorem LK {z:Cp} (h:Fr z) (h0:Sd 8 3 z.s0) (h1:Sd 8 3 z.s1) {o:Ri Rat} (ho:Li o):HC z.pm o:=by
 have dk:=ho.ok;have sx:=Am dk;have sy:=AT dk;have ox:=h.ox.sz (k:=4) (by decide) (by decide)
 have oy:=h.oy.sz (k:=4) (by decide) (by decide)
 have px:=h.px.sz (k:=5) (by decide) (by decide)
 have py:=h.py.sz (k:=4) (by decide) (by decide)
 have cr:=h.cr.sz (k:=4) (by decide) (by decide)
 have ax:=ox.add (sx.mul cr);have ay:=oy.add (sy.mul cr);have e:Sz 66 (cT (z.pm.ax o) (z.pm.ay o) z.s0 z.px z.py z.s1)/\Sz 134 (cE (z.pm.ax o) (z.pm.ay o) z.s0 z.px z.py z.s1):=by
  by_cases A0:(z.px - z.pm.ax o)*(z.px - z.pm.ax o)+(z.py - z.pm.ay o)*(z.py - z.pm.ay o)=0
  ·have t0:cT (z.pm.ax o) (z.pm.ay o) z.s0 z.px z.py z.s1=0:=by
    unfold cT;rw [A0];exact Rat.div_def _ _▸by rw [show (0:Rat)+0=0 by decide +kernel,Rat.inv_zero,Rat.mul_zero]
   have e0:cE (z.pm.ax o) (z.pm.ay o) z.s0 z.px z.py z.s1=0:=by
    unfold cE;rw [t0,A0,Rat.div_def,Rat.inv_zero,Rat.mul_zero]
    decide +kernel
   rw [t0,e0];exact⟨Sz.zero.mono (by decide),Sz.zero.mono (by decide)⟩
  ·obtain⟨W,A,B,W0,bW,bA,bB,eA,eB⟩:=GQ ho;have pos:=Int.mul_pos W0 (Int.mul_pos (Int.mul_pos (Int.mul_pos (Int.mul_pos (cj z.px) (cj z.ox)) (cj z.cr)) (cj z.py)) (cj z.oy));have w1:=AF (f:=z.py.den) (g:=z.oy.den) (bv z.px) (bv z.ox) (bv z.cr) eA;have w2:=AF (f:=z.px.den) (g:=z.ox.den) (bv z.py) (bv z.oy) (bv z.cr) eB;rw [show W*((z.py.den:Int)*z.oy.den*z.cr.den*z.px.den*z.ox.den)=W*((z.px.den:Int)*z.ox.den*z.cr.den*z.py.den*z.oy.den) by grind] at w2
   have bK:Bt 24 (W*((z.px.den:Int)*z.ox.den*z.cr.den*z.py.den*z.oy.den)):=bW.mul ((((h.px.den.mul h.ox.den).mul h.cr.den).mul h.py.den).mul h.oy.den);have bP:=((h.px.num.mul (bW.mul (Lp h.ox.den h.cr.den h.py.den h.oy.den))).sub ((h.ox.num.mul (bW.mul (Lp h.px.den h.cr.den h.py.den h.oy.den))).add ((bA.mul h.cr.num).mul (Lp h.px.den h.ox.den h.py.den h.oy.den)))).mono (show _<=27 by decide)
   have bQ:=((h.py.num.mul (bW.mul (Lp h.oy.den h.cr.den h.px.den h.ox.den))).sub ((h.oy.num.mul (bW.mul (Lp h.py.den h.cr.den h.px.den h.ox.den))).add ((bB.mul h.cr.num).mul (Lp h.py.den h.oy.den h.px.den h.ox.den)))).mono (show _<=27 by decide)
   exact Mh pos bK w1 w2 bP bQ h0.num h0.den h1.num h1.den A0
 exact⟨ox.mono (by decide),oy.mono (by decide),cr.mono (by decide),(h.al.sz (k:=4) (by decide) (by decide)).mono (by decide),(h.le.sz (k:=4) (by decide) (by decide)).mono (by decide),dk,⟨ax.mono (by decide),ay.mono (by decide),(h0.sz (k:=8) (by decide) (by decide)).mono (by decide),px.mono (by decide),py.mono (by decide),(h1.sz (k:=8) (by decide) (by decide)).mono (by decide),(px.sub ax).mono (by decide),(py.sub ay).mono (by decide),e.1,e.2⟩⟩
structure O7 (z:Cp) (o:Ri Rat) (i:Nat) (u:Rat) (X Y P R:Q):Prop where
 b:Bp (Al (z.pm.cl o) i) u X Y
 p:P=vA u (qo (z.pm.ax o)) (qo (z.pm.ay o)) X Y (qo z.al) (qo z.le)
 q:R=uP u (qo (z.pm.ax o)) (qo (z.pm.ay o)) X Y (qo z.al) (qo z.le)
 sp:Sq 830 P
 sq:Sq 830 R
 on:vφ u P R z.U=(0,0)
theorem Kd {z:Cp} {M1 M2:Int} (h:dX z M1 M2) {o:Ri Rat} (k:HC z.pm o) {i:Nat} (hi:i < 2) (a0:z.pm.ap o≠0) (c0:z.pm.cl o≠[]):∃ u X Y P R,O7 z o i u X Y P R:=by
 obtain⟨u,X,Y,j⟩:=ME hi k.cz a0 c0;have hb:=j.bp;have hx:Sm 50 (qo (z.pm.ax o)).1 (qo (z.pm.ax o)).2:=⟨k.cz.hx.mono (by decide),Sz.zero.mono (by decide)⟩
 have hy:Sm 50 (qo (z.pm.ay o)).1 (qo (z.pm.ay o)).2:=⟨k.cz.hy.mono (by decide),Sz.zero.mono (by decide)⟩
 have h1:Wy false 1 299 151 (qs X (qo (z.pm.ax o))):=⟨hb.xa.sub hx.a,hb.xb.sub hx.b⟩;have h2:Wy false 1 299 151 (qs Y (qo (z.pm.ay o))):=⟨hb.ya.sub hy.a,hb.yb.sub hy.b⟩;have m1:Wy false 31 329 181 (qm u (qo z.al) (qs X (qo (z.pm.ax o)))):=h1.scale k.al;have m2:Wy false 31 329 181 (qm u (qo z.le) (qs Y (qo (z.pm.ay o)))):=h2.scale k.le;have m3:Wy false 31 329 181 (qm u (qo z.al) (qs Y (qo (z.pm.ay o)))):=h2.scale k.al;have m4:Wy false 31 329 181 (qm u (qo z.le) (qs X (qo (z.pm.ax o)))):=h1.scale k.le;have d1:=m1.sub m2;have d2:=m3.add m4;refine⟨u,X,Y,_,_,hb,rfl,rfl,⟨(hx.a.add d1.1).mono (by decide),(hx.b.add d1.2).mono (by decide)⟩,⟨(hy.a.add d2.1).mono (by decide),(hy.b.add d2.2).mono (by decide)⟩,?_⟩
 refine Lb h ?_ j.one j.two;have e:=G3 o
 show(z.ox+qM o*z.cr - z.ox)*(z.ox+qM o*z.cr - z.ox)+(z.oy+qN o*z.cr - z.oy)*(z.oy+qN o*z.cr - z.oy)=z.cr*z.cr
 grind
set_option maxHeartbeats 4000000
def nE:ce:=λds S k=>∃ (z:Pm) (i:Nat),ds=[W z.ox z.oy,W z.px z.py,fr z.cr,.tup [fr z.s0,fr z.s1],W z.al z.le,.int i]/\k (z.mc i) S
theorem sO:ar ["one","other","crank","squares","place","side"] ["one","other","crank","squares","place","side"] (aj jx):=dP
theorem tN (Fn:FN K "pen_machine" jx f fd):
  aL P w K mg base cN 1 f fd ["one","other","crank","squares","place","side"] (cX K nE):=by
 refine Fn.okJ sO (λds S k h=>?_) (λcdv A outer s H E hr=>⟨_,(ag (am (au (aa (au (aa ik (aa (aJ 0) (aa (aJ 0) ac)))) (aa (au (aa ik (aa (aJ 1) (aa (aJ 1) ac)))) (aa (au (aa ik (aa ak (aw 2 ac)))) (aa (au (aa ik (aa ak (aa ak (aa (aJ 3) (aa (aJ 3) (aw 5 ac))))))) (aa (au (aa ik (aa ak (aa ak (aa (aJ 4) (aa (aJ 4) ac)))))) ac)))))))),λds S k h=>?_⟩)
 ·obtain⟨_,_,rfl,_⟩:=h
  rfl
 ·obtain⟨z,i,rfl,w⟩:=h;exact⟨few,few,few,few,few,few,w⟩
def ng:ce:=λds S k=>∃ (a:Rh) (z:Pm) (i:Nat),ds=[.ref a,z.mc i]/\vm S a/\∀ o S',Li o->Dr a S S'->k (.tup [Lm o]) S'
theorem iR:ar ["state","machine","found","step"] ["state","machine"] (aj jQ):=dP
theorem rN (Fn:FN K "_law_drives" jQ f fd) (aY:aN P w K mg base "_law_small" 3 kl) (aV:aN P w K mg base "_law_take" 1 hJ) (xg:mg "tuple"=none):
  aL P w K mg base cN 4 f fd ["state","machine"] (cX K ng):=by
 refine Fn.okJ iR (λds S k h=>?_) (λcdv A outer s H E hr=>⟨_,(af (ah (i:=2) iR.nd (fX ac)) (af (iN PassesOwn.never rfl (ai 1) (aB (i:=3) iR.nd) (ag (aK (aG (LO hr) (cA yO (ai 3) ak Zf) ik (aM _)) (ag (cS (jy (ai 2) (cA yO (fX (aa fT (aa (dq aY hr (aw 0 ac)) (aa (dq aY hr (aw 0 ac)) (aa (dq aY hr (aw 0 ac)) ac))))) (dq aV hr (aw 0 (aa ak ac))) Zf)))) aO))) (ag (am (xA Gq rfl xg C0 (aw 2 ac)))))),λds S k h=>?_⟩)
 ·obtain⟨_,_,_,rfl,_⟩:=h
  rfl
 ·obtain⟨a,z,i,rfl,hS,w⟩:=h;refine⟨few,λp hp=>⟨(_,none),rfl,trivial,_,m_,trivial,_,m_,trivial,_,m_,⟨_,aq⟩,a,rfl,hS.new hp,λt1 S1 h1 d1=>⟨a,rfl,d1.1,λt2 S2 h2 d2=>⟨a,rfl,d2.1,λt3 S3 h3 d3=>⟨few,λl hl=>⟨a,4,rfl,by decide,by decide,d3.1.new hl,λr S4 r0 r1 d4=>?_⟩⟩⟩⟩⟩⟩
  have np:p≠a:=hS.ne hp;have nl:l≠a:=d3.1.ne hl;have D3:=(Dr.new hS hp).trans (d1.trans (d2.trans d3));have D4:=D3.trans ((Dr.new d3.1 hl).trans d4);have yl:=d4.keep nl (aq (S:=S3) (a:=l) (o:=.lst [D.non,fr t1,fr t2,fr t3]));have yp:S4 p=some (.lst []):=d4.keep np (by rw [bV (λz=>by rw [<- z,d3.keep np (d2.keep np (d1.keep np aq))] at hl; cases hl)]; exact d3.keep np (d2.keep np (d1.keep np aq)))
  obtain⟨c,hc,hm⟩:=rL (ds:=[D.non,fr t1,fr t2,fr t3]) r0 r1;obtain⟨o,rfl,ho⟩:∃ o,c=Lm o/\Li o:=by
   simp only [P9,Qh,or_false] at hm;rcases hm with rfl | rfl | rfl | rfl
   ·exact⟨none,rfl,λt e=>by cases e⟩
   ·exact⟨some t1,rfl,λt e=>by cases e; exact h1⟩
   ·exact⟨some t2,rfl,λt e=>by cases e; exact h2⟩
   ·exact⟨some t3,rfl,λt e=>by cases e; exact h3⟩
  refine⟨_,_,yl,hc,_,yp,lim (by show 0<=100; decide),?_⟩
  show fJ _ _ _ _ [_,_] [some _,some _,some _,some _] (put S4 p (.lst [_]))
  exact⟨trivial,_,m_,trivial,_,m_,trivial,_,aq,w o _ ho (D4.putN hp np)⟩
def sT:ce:=λds S k=>∃ (z:Cp) (o:Ri Rat) (i:Nat) (M1 M2:Int),ds=[z.pm.mc i,.tup [Lm o]]/\i < 2/\dX z M1 M2/\HC z.pm o/\(∀ S',cn S S'->k .non S')/\∀ S' u X Y P R,cn S S'->O7 z o i u X Y P R->k (Pq u P R) S'
theorem jm:ar ["machine","drives","found"] ["machine","drives"] (aj nW):=dP
theorem yC {dy aX cZ:Rh} (Fn:FN K "_law_pen" nW f fd) (t9:uG P w K mg base "stand" 9 (yc dy aX cZ)) (mP:mg "Stuck"=some (.ref cZ)) (lM:PySem.W.exmOne K (.ref cZ) (.ref cZ)=some true):
  aL P w K mg base cN 10 f fd ["machine","drives"] (cX K sT):=by
 refine Fn.okJ jm (λds S k h=>?_) (λcdv A outer s H E hr=>⟨_,(af (ah (i:=2) jm.nd fT) (af (BH (i:=2) (λex=>(Jy du (yq t9 (hr.mono (by decide)) rfl (aw 0 (aw 1 ac))) ak Zf)) (λ_=>hr.hd) rfl rfl rfl rfl mP jm.nd rfl (.inl rfl) (λv=>(ag (ah (i:=2) jm.nd fT)))) (ag (am (ai 2))))),λds S k h=>?_⟩)
 ·obtain⟨_,_,_,_,_,rfl,_⟩:=h
  rfl
 ·obtain⟨z,o,i,M1,M2,rfl,hi,h1,h2,w0,w1⟩:=h;refine⟨z.pm,o,i,rfl,hi,h2,λ_ S' e=>⟨lM,w0 S' e⟩,λa0 c0=>?_⟩
  obtain⟨u,X,Y,P,R,hp⟩:=Kd h1 h2 hi a0 c0;refine⟨u,X,Y,hp.b,λS' p e hq=>⟨_,_,hq,rfl,?_⟩⟩
  have:=w1 S' u X Y P R e hp;rw [hp.p,hp.q] at this;exact this
abbrev RL:Zr:=[([2,0],1),([0,2],1)]
abbrev R2:Zr:=[([4,0],1),([2,2],2),([0,4],1)]
theorem Fa:dF (gR R2) R2:=oU (by decide) (λp hp=>by
 simp only [P9,Qh,or_false] at hp;rcases hp with rfl | rfl | rfl <;> exact⟨_,_,rfl⟩) (by decide)
theorem JY (k:List Int):eV RL RL k=gR R2 k:=by
 by_cases k0:k=[4,0]
 ·subst k0; decide +kernel
 by_cases k1:k=[2,2]
 ·subst k1; decide +kernel
 by_cases k2:k=[0,4]
 ·subst k2; decide +kernel
 rw [show gR R2 k=0 from bo (by simp [k0,k1,k2])]
 simp [eV,dA,lv,qZ,Ne.symm k0,Ne.symm k1,Ne.symm k2]
 decide +kernel
theorem Jr (k:List Int):eV R2 RL k=gR RG k:=by
 by_cases k0:k=[6,0]
 ·subst k0; decide +kernel
 by_cases k1:k=[4,2]
 ·subst k1; decide +kernel
 by_cases k2:k=[2,4]
 ·subst k2; decide +kernel
 by_cases k3:k=[0,6]
 ·subst k3; decide +kernel
 rw [Az k0 k1 k2 k3];simp [eV,dA,lv,qZ,Ne.symm k0,Ne.symm k1,Ne.symm k2,Ne.symm k3]
 decide +kernel
theorem yf {n:Nat} {b:Int} {c:Zr} (nd:(c.map (·.1)).Nodup) (hl:c.length<=n) (h:∀ p∈c,∃ i j v:Int,p=([i,j],(v:Rat))/\0<=i/\0<=j/\i<=b/\j<=b/\Bt 10 v):Cv n 900 b c/\Dn 1 500 c:=⟨⟨nd,hl,λp hp=>by
 obtain⟨i,j,v,rfl,a1,a2,a3,a4,_⟩:=h p hp;exact⟨i,j,rfl,a1,a2,a3,a4⟩,λp hp=>by
 obtain⟨i,j,v,rfl,_,_,_,_,bt⟩:=h p hp;exact⟨by show Bt 900 (v:Rat).num; rw [Rat.num_intCast]; exact bt.mono (by decide),by show Bt 900 (((v:Rat).den:Nat):Int); rw [Rat.den_intCast]; exact(show Bt 1 1 by decide).mono (by decide)⟩⟩,λp hp=>by
 obtain⟨i,j,v,rfl,_,_,_,_,bt⟩:=h p hp;exact⟨v,bt.mono (by decide),by show((1:Int):Rat)*(v:Rat)=_; grind⟩⟩
theorem Ny:Cv 10 900 2 RL/\Dn 1 500 RL:=yf (by decide) (by decide) λp hp=>by
 simp only [P9,Qh,or_false] at hp;rcases hp with rfl | rfl
 ·exact⟨2,0,1,rfl,by decide,by decide,by decide,by decide,by decide⟩
 ·exact⟨0,2,1,rfl,by decide,by decide,by decide,by decide,by decide⟩
theorem Ms {g:Zr} (r:dF (λk=>eV RL RL k) g):dF (gR R2) g/\Cv 10 900 4 g/\Dn 1 500 g:=by
 have r:=r.congr JY;have p:=r.perm Fa;have l:=p.length_eq;refine⟨r,yf r.nd (by rw [l]; decide) λq hq=>?_⟩
 have hp:=p.mem_iff.mp hq;simp only [P9,Qh,or_false] at hp;rcases hp with rfl | rfl | rfl
 ·exact⟨4,0,1,rfl,by decide,by decide,by decide,by decide,by decide⟩
 ·exact⟨2,2,2,rfl,by decide,by decide,by decide,by decide,by decide⟩
 ·exact⟨0,4,1,rfl,by decide,by decide,by decide,by decide,by decide⟩
theorem J2 {g g':Zr} (r:dF (gR R2) g) (r':dF (λk=>eV g RL k) g'):dF (gR RG) g':=r'.congr λk=>by
 rw [mZ (r.perm Fa) (List.Perm.refl RL),Jr]
def lN:ce:=λds S k=>∃ (a:Rh) (ep:Nat) (z:Cp) (M1 M2:Int) (g:Zr) (ns:Zi),ds=[.ref a]/\S a=some (dS (B8 ns) ep)/\dX z M1 M2/\Nu z g ns/\∀ S',cn S S'->k (.bl true) S'
theorem lu:ar ["curve","ring"] ["curve"] (aj i8):=dP
theorem rf (Fn:FN K "_law_rounded" i8 f fd) (jc:aN P w K mg base "normal" 4 tS) (fD:aN P w K mg base "degree_of" 1 lJ) (nH:aN P w K mg base "top_part" 2 sv) (aU:aN P w K mg base "curve_times" 4 gW):
  aL P w K mg base cN 5 f fd ["curve"] (cX K lN):=by
 refine Fn.okJ lu (λds S k h=>?_) (λcdv A outer s H E hr=>⟨_,(af (aK (WJ.pt (wu (aG JH (dq fD hr (aw 0 ac)) ak (aM _)) (rp (aG (JB hr) (dq jc hr (aw 0 ac)) (ai 0) (aM _))))) (ag (am pk)) aO) (af (ah (i:=1) lu.nd (w9 hr (gZ (au (aa ak (aa ak ac))) (au (aa ak (aa ak ac))) (gZ (au (aa ak (aa ak ac))) (au (aa ak (aa ak ac))) zV)))) (ag (am (wJ (KE hr) (dq jc hr (aa (dq nH hr (aw 0 ac)) ac)) (dq aU hr (aa (dq aU hr (aw 1 (aw 1 ac))) (aw 1 ac))) (aM _)))))),λds S k h=>?_⟩)
 ·obtain⟨_,_,_,_,_,_,_,rfl,_⟩:=h
  rfl
 ·obtain⟨a,ep,z,M1,M2,g,ns,rfl,ha,c,n,w⟩:=h;have ha':S a=some (dS (dG (jU ns)) ep):=by rw [<- yF]; exact ha
  have hl:=n.cv.hl;have dg6:=n.deg c;have ne:jU ns≠[]:=λz=>by
   obtain⟨⟨p,hp,_⟩,_⟩:=dg6;rw [z] at hp;cases hp
  refine⟨a,jU ns,ep,rfl,ha',by omega,n.cv.small (by decide),λe=>absurd e ne,λS1 m x1 hm=>?_⟩
  have m6:=hm.uniq dg6;subst m6;have ha1:=x1 _ _ ha';refine⟨a,jU ns,ep,1,rfl,ha1,n.cv.nd,by omega,ne,n.cv.two,n.n0,by decide,by decide,n.dn.mono (by decide),λS2 p2 e2 ns2 x2 hn2 h2=>⟨_,_,_,_,true,h2,x2 _ _ (x1 _ _ ha),n.self hn2,GN ?_⟩⟩
  have X2:=x1.trans x2;refine λq hq f0=>⟨few,few,few,few,f0,dG RL,aq,rfl,by show 2<=15; decide,λf1=>?_⟩
  have x3:cn S2 (put (put S2 q (dS [] f0)) q (dS (kM [] (dG RL)) f1)):=(cn.new hq).put hq;have y3:put (put S2 q (dS [] f0)) q (dS (kM [] (dG RL)) f1) q=some (dS (dG RL) f1):=aq;generalize put (put S2 q (dS [] f0)) q (dS (kM [] (dG RL)) f1)=S3 at x3 y3 ⊢
  have X3:=X2.trans x3;refine⟨a,jU ns,ep,rfl,X3 _ _ ha',n.cv.nd,by omega,ne,n.cv.small (by decide),λS4 p4 e4 m x4 n4 hm4 h4=>?_⟩
  have m6:=hm4.uniq dg6;subst m6;have tl:(il 6 (jU ns)).length<=(jU ns).length:=List.length_filter_le _ _;have tne:il 6 (jU ns)≠[]:=λz=>by
   obtain⟨⟨p,hp,e⟩,_⟩:=dg6;have:=dQ.mpr ⟨hp,e⟩;rw [z] at this;cases this
  refine⟨p4,il 6 (jU ns),e4,1,rfl,h4,dj n.cv.nd,by omega,tne,λp hp=>n.cv.two p (dQ.mp hp).1,λp hp=>n.n0 p (dQ.mp hp).1,by decide,by decide,λp hp=>(n.dn.mono (by decide)) p (dQ.mp hp).1,λS5 p5 e5 ns5 x5 hn5 h5=>?_⟩
  have X5:=x4.trans x5;obtain⟨cR,dR⟩:=Ny;have c3:=cR.mono (n':=10) (m':=900) (b':=3) (by decide) (by decide) (by decide)
  refine⟨q,q,RL,RL,f1,f1,1,1,rfl,X5 _ _ y3,X5 _ _ y3,⟨3,3,by decide,c3,c3⟩,by decide,by decide,by decide,by decide,dR,dR,λS6 p6 e6 g6 x6 n6 r6 h6=>?_⟩
  obtain⟨r2,c2,d2⟩:=Ms r6;refine⟨p6,q,g6,RL,e6,f1,1,1,rfl,h6,x6 _ _ (X5 _ _ y3),⟨4,2,by decide,c2,cR⟩,by decide,by decide,by decide,by decide,d2,dR,λS7 p7 e7 g7 x7 n7 r7 h7=>?_⟩
  exact⟨_,_,_,_,true,x7 _ _ (x6 _ _ h5),h7,n.round c hn5 (J2 r2 r7),w _ ((X3.trans X5).trans (x6.trans x7))⟩
set_option maxHeartbeats 4000000
theorem rA {S S':DH} {a:Rh} (h:vm S a) (x:cn S S'):vm S' a:=by
 obtain⟨n,b,e,w⟩:=h;exact⟨n,b,x _ _ e,w⟩
def yE:ce:=λds _ k=>∃ ns:List Int,ds=[.rl (List.map D.int ns)]/\ns.length<=63/\∀ S',k (.bl true) S'
theorem gG:ar ["script","k","state","curve","side","one","other","crank","squares","place","machine","turn","pen"] ["script"] (aj DN):=dP
theorem K8 (Fn:FN K "law" DN f fd) (kx:aN P w K mg base "_law_state" 2 ou) (gC:aN P w K mg base "_law_four_rods" 4 jX) (im:aN P w K mg base "coupler_curve" 7 lr) (jd:aN P w K mg base "_law_rounded" 5 lN) (jB:aN P w K mg base "pen_machine" 1 nE) (nX:aN P w K mg base "_law_pen" 10 sT) (jJ:aN P w K mg base "_law_drives" 4 ng) (og:aN P w K mg base "on_curve" 8 sk) (rF:mg "range"=none) (lg:mg "max"=none) (Dw:mg "min"=none) (fF:mg "len"=none):
  aL P w K mg base cN 11 f fd ["script"] (cX K yE):=by
 refine Fn.okJ gG (λds S k h=>?_) (λcdv A outer s H E hr=>⟨_,(af (u_ PassesOwn.never rfl rfl rF (aa (cm Ii rfl lg wO (aa ak (aa (cm MD rfl Dw K2 (aa (cm qg rfl fF lQ (aw 0 ac)) (aa ak ac))) ac))) ac) (aB (i:=1) gG.nd) (af (ah (i:=2) gG.nd (dq kx hr (aw 0 (aw 1 ac)))) (af (dU (dq gC hr (aw 2 ac)) (eC (n:=5) rfl (aH (aB (i:=5) gG.nd) (aH (aB (i:=6) gG.nd) (aH (aB (i:=7) gG.nd) (aH (aB (i:=8) gG.nd) (aH (aB (i:=9) gG.nd) cW))))))) (af (ah (i:=3) gG.nd (dq im hr (aw 5 (aw 6 (aw 7 (aw 8 (aw 9 ac))))))) (af (aK (kf (fo (dq jd hr (aw 3 ac)))) (ag (am pk)) aO) (ag (iN PassesOwn.never rfl (au (aa ak (aa ak ac))) (aB (i:=4) gG.nd) (af (ah (i:=10) gG.nd (dq jB hr (aw 5 (aw 6 (aw 7 (aw 8 (aw 9 (aw 4 ac)))))))) (ag (u_ PassesOwn.never rfl rfl rF (aa ak ac) (aB (i:=11) gG.nd) (af (ah (i:=12) gG.nd (dq nX hr (aw 10 (aa (dq jJ hr (aw 2 (aw 10 ac))) ac)))) (ag (aK (WJ.pt (HA (aG vN (ai 12) fT (aM _)) (Dg (aG vN (dq og hr (aw 3 (aw 12 ac))) pk (aM _))))) (ag (am pk)) aO))))))))))))) (ag (am pk))),λds S k h=>?_⟩)
 ·obtain⟨_,rfl,_⟩:=h
  rfl
 ·obtain⟨ns,rfl,hl,w⟩:=h;have hb:∀ z:Int,0<=z->z<=63->-(2 ^ 62)<=z/\z < 2 ^ 62:=λz _ _=>by omega
  refine⟨hb _ (by split <;> (try split) <;> omega) (by rw [P6]; split <;> (try split) <;> omega),?_⟩
  refine pi (P:=λd=>∃ i:Int,d=.int i/\0<=i) (λL _=>∃ r1 r2 r3 r4 r5 r6 r7 r8 r9 r10 r11 r12,L=[some (.rl (List.map D.int ns)),r1,r2,r3,r4,r5,r6,r7,r8,r9,r10,r11,r12]) (λ_ _ _=>trivial) ?_ (λL S' _=>w S') _ ?_ _ _ ⟨_,_,_,_,_,_,_,_,_,_,_,_,rfl⟩
  ·rintro d L S1 N1 ⟨i,rfl,hi⟩ ⟨r1,r2,r3,r4,r5,r6,r7,r8,r9,r10,r11,r12,rfl⟩ hN;refine⟨ns,i,rfl,hi,λp n b hp hnb=>?_⟩
   have hS:vm (put S1 p (.lst [.int n,.bl b])) p:=⟨n,b,aq,hnb⟩;refine⟨p,rfl,hS,λz S2 fz s0 s1 d2=>?_⟩
   obtain⟨M1,M2,ck⟩:=MK fz ⟨s0.num.mono (by decide),s0.den.mono (by decide)⟩ ⟨s1.num.mono (by decide),s1.den.mono (by decide)⟩
   refine⟨([W z.ox z.oy,W z.px z.py,fr z.cr,.tup [fr z.s0,fr z.s1],W z.al z.le],none),rfl,rfl,rfl,z,M1,M2,rfl,ck,λS3 pc ec g nn x3 rU hn hpc=>?_⟩
   have nu:=ck.nu rU hn;refine⟨pc,ec,z,M1,M2,g,nn,rfl,hpc,ck,nu,λS4 x4=>GN ?_⟩
   have hS4:=rA d2.1 (x3.trans x4);have npc:pc≠p:=λe=>by
    obtain⟨_,_,e1,_⟩:=rA d2.1 x3;rw [e,e1] at hpc;cases hpc
   refine⟨few,(_,none),rfl,?_⟩;refine pi (P:=λd=>∃ j:Nat,d=.int j/\j < 2) (λL S'=>(∃ r4 r10 r11 r12,L=[some (.rl (List.map D.int ns)),some (.int i),some (.ref p),some (.ref pc),r4,some (W z.ox z.oy),some (W z.px z.py),some (fr z.cr),some (.tup [fr z.s0,fr z.s1]),some (W z.al z.le),r10,r11,r12])/\vm S' p/\S' pc=some (dS (B8 nn) ec)) (λ_ _ _=>trivial) ?_ (λL S' z9=>by obtain⟨⟨_,_,_,_,e⟩,_⟩:=z9; exact hN _ _ ⟨_,_,_,_,_,_,_,_,_,_,_,_,e⟩) _ ?_ _ _ ⟨⟨_,_,_,_,rfl⟩,hS4,x4 _ _ hpc⟩
   ·rintro d L S5 N5 ⟨j,rfl,hj⟩ ⟨⟨r4,r10,r11,r12,rfl⟩,hS5,hp5⟩ hN5;refine⟨z.pm,j,rfl,?_⟩;refine⟨⟨by decide,by decide⟩,?_⟩
    refine pi (P:=λ_=>True) (λL S'=>(∃ r11 r12,L=[some (.rl (List.map D.int ns)),some (.int i),some (.ref p),some (.ref pc),some (.int j),some (W z.ox z.oy),some (W z.px z.py),some (fr z.cr),some (.tup [fr z.s0,fr z.s1]),some (W z.al z.le),some (z.pm.mc j),r11,r12])/\vm S' p/\S' pc=some (dS (B8 nn) ec)) (λ_ _ _=>trivial) ?_ (λL S' z9=>by obtain⟨⟨_,_,e⟩,h1,h2⟩:=z9; exact hN5 _ _ ⟨⟨_,_,_,_,e⟩,h1,h2⟩) _ (λ_ _=>trivial) _ _ ⟨⟨_,_,rfl⟩,hS5,hp5⟩
    rintro d L S6 N6 _ ⟨⟨r11,r12,rfl⟩,hS6,hp6⟩ hN6;refine⟨p,z.pm,j,rfl,hS6,λo S7 ho d7=>⟨z,o,j,M1,M2,rfl,hj,ck,LK fz s0 s1 ho,λS8 x8=>?_,λS8 u X Y P R x8 hp=>?_⟩⟩
    ·exact hN6 _ _ ⟨⟨_,_,rfl⟩,rA d7.1 x8,x8 _ _ (d7.keep npc hp6)⟩
    ·have h8:S8 pc=some (dS (dG (jU nn)) ec):=by rw [<- yF]; exact x8 _ _ (d7.keep npc hp6)
     refine⟨u,P,R,830,600,pc,jU nn,ec,1,1,rfl,h8,nu.cv,by decide,by decide,by decide,Jm,hp.b.f.pos,hp.b.f.sz,by decide,hp.sp,hp.sq,by decide,by decide,λS9 x9=>?_⟩
     rw [decide_eq_true (nu.on hp.on)];exact hN6 _ _ ⟨⟨_,_,rfl⟩,rA d7.1 (x8.trans x9),(x8.trans x9) _ _ (d7.keep npc hp6)⟩
   ·intro d hd;have hd:d∈[D.int 0,D.int 1]:=hd;simp only [P9,Qh,or_false] at hd;rcases hd with rfl | rfl
    ·exact⟨0,rfl,by decide⟩
    ·exact⟨1,rfl,by decide⟩
  ·intro d hd;obtain⟨z,_,rfl⟩:=P5.mp hd;exact⟨_,rfl,by omega⟩
theorem Hv (ns:List Int) (h:ns.length<=63):yE [.rl (List.map D.int ns)] (λ_=>none) (λd _=>d=.bl true):=⟨ns,rfl,h,λ_=>rfl⟩
end My
def PySem.W.Fast.tw17363615628327019839:Unit:=()
def PySem.W.Fast.tw3758539572034560307:Unit:=()
def PySem.W.Fast.tw3007332537389018145:Unit:=()
def PySem.W.Fast.tw2775602744381267724:Unit:=()
def PySem.W.Fast.tw2252861752532123506:Unit:=()
def PySem.W.Fast.tw3242120594664073078:Unit:=()
def PySem.W.Fast.tw6447959810427416305:Unit:=()
def PySem.W.Fast.tw2964046609030531392:Unit:=()
def PySem.W.Fast.tw10313311003521644634:Unit:=()
def PySem.W.Fast.tw11757205113579219973:Unit:=()
def PySem.W.Fast.tw13189734881826675969:Unit:=()
def PySem.W.Fast.tw10920134083348512825:Unit:=()
def PySem.W.Fast.tw4863122544697686369:Unit:=()
def PySem.W.Fast.tw5804109424497639464:Unit:=()
def PySem.W.Fast.tw6944057204645553746:Unit:=()
def PySem.W.Fast.tw18185600929696734881:Unit:=()
def PySem.W.Fast.tw16033296194583218102:Unit:=()
def PySem.W.Fast.tw3604565717521348129:Unit:=()
def PySem.W.Fast.tw3052778690191732241:Unit:=()
def PySem.W.Fast.tw6743772319624679195:Unit:=()
def PySem.W.Fast.tw2960306182750401179:Unit:=()
def PySem.W.Fast.tw1597197713960014349:Unit:=()
def PySem.W.Fast.tw2582600606997000305:Unit:=()
def PySem.W.Fast.tw10818023926411706748:Unit:=()
def PySem.W.Fast.tw14798694964995952128:Unit:=()
def PySem.W.Fast.tw6452484874099637619:Unit:=()
def PySem.W.Fast.tw12524764552465914985:Unit:=()
def PySem.W.Fast.tw11085449318655733246:Unit:=()
def PySem.W.Fast.tw4254114510054508708:Unit:=()
def PySem.W.Fast.tw4773504743737685140:Unit:=()
def PySem.W.Fast.tw13784735605380171165:Unit:=()
def PySem.W.Fast.tw11777161239426136452:Unit:=()
def PySem.W.Fast.tw4895113430583759125:Unit:=()
def PySem.W.Fast.tw12407612910189435705:Unit:=()
def PySem.W.Fast.tw16750586483744225820:Unit:=()
def PySem.W.Fast.tw7603402347691254255:Unit:=()
def PySem.W.Fast.tw5037950593736178584:Unit:=()
def PySem.W.Fast.tw2056811919725443143:Unit:=()
def PySem.W.Fast.tw6091147142647914719:Unit:=()
def PySem.W.Fast.tw337031534264737037:Unit:=()
def PySem.W.Fast.tw3997340133105990031:Unit:=()
def PySem.W.Fast.tw721114634049185899:Unit:=()
def PySem.W.Fast.tw5724027905170372178:Unit:=()
def PySem.W.Fast.tw4218651132731452556:Unit:=()
def PySem.W.Fast.tw13017497392819473680:Unit:=()
def PySem.W.Fast.tw12619730772492089535:Unit:=()
def PySem.W.Fast.tw13868250815821622916:Unit:=()
def PySem.W.Fast.tw1305937499116619882:Unit:=()
def PySem.W.Fast.tw10487592150036449980:Unit:=()
def PySem.W.Fast.tw16564610934928366093:Unit:=()
def PySem.W.Fast.tw4402991144689111984:Unit:=()
def PySem.W.Fast.tw5595446265290572920:Unit:=()
def PySem.W.Fast.tw14205612603069427977:Unit:=()
def PySem.W.Fast.tw15649974440709559762:Unit:=()
def PySem.W.Fast.tw3154795982825543043:Unit:=()
def PySem.W.Fast.tw14286927584841772109:Unit:=()
def PySem.W.Fast.tw18342244146257108198:Unit:=()
def PySem.W.Fast.tw11604117204074522654:Unit:=()
def PySem.W.Fast.tw14540760534054618:Unit:=()
def PySem.W.Fast.tw3143729671722456732:Unit:=()
def PySem.W.Fast.tw5829763327340925741:Unit:=()
def PySem.W.Fast.tw1560417139403648250:Unit:=()
def PySem.W.Fast.tw11569995513484629773:Unit:=()
def PySem.W.Fast.tw16272384571530283097:Unit:=()
def PySem.W.Fast.tw536313889058818674:Unit:=()
def PySem.W.Fast.tw10586480938353687234:Unit:=()
namespace My
open PySem PySem.Spec PyProof.Rows L2 DL HM
set_option maxHeartbeats 4000000
theorem Ji {l:PySem.W.OpenLaw} {w:Rn} {K:Fg} {h:Ro} {mg:Str->Ri Rg} {fa:Rh} (X:K.In h) (G:h.Ns mainGlobals mg) (hfa:mg "law"=some (.ref fa))
  {f1 f2 f3 f4 f5 f6 f7 f8 f9 f10 f11 f12 f13 f14 f15 f16 f17 f18 f19 f20 f21 f22 f23 f24 f25 f26 f27 f28 f29 f30 f31 f32 f33 f34 f35 f36 f37 f38 f39 f40 f41 f42 f43 f44 f45 f46 f47 f48 f49 f50 f51 f52 f53 f54 f55 f56 f57 f58 f59 f60 f61 f62 f63 f64 f65 f66 f67 f68 f69 f70 f71 f72 f73 f74 f75 f76 f77 f78:Rh} {cd1 cd2 cd3 cd4 cd5 cd6 cd7 cd8 cd9 cd10 cd11 cd12 cd13 cd14 cd15 cd16 cd17 cd18 cd19 cd20 cd21 cd22 cd23 cd24 cd25 cd26 cd27 cd28 cd29 cd30 cd31 cd32 cd33 cd34 cd35 cd36 cd37 cd38 cd39 cd40 cd41 cd42 cd43 cd44 cd45 cd46 cd47 cd48 cd49 cd50 cd51 cd52 cd53 cd54 cd55 cd56 cd57 cd58 cd59 cd60 cd61 cd62 cd63 cd64 cd65 cd66 cd67 cd68 cd69 cd70 cd71 cd72 cd73 cd74 cd75 cd76 cd77 cd78:Rg}
  {sD:Rh} {CP:Ri Rh} {CO:Rq (Ri Rg)} {FO:Nat} {CI B_:Tok}
  {DJ:Rh} {KC:Ri Rh} {KL:Rq (Ri Rg)} {Nm:Nat} {KM KS:Tok}
  {cZ:Rh}
  {aX:Rh}
  {dy:Rh}
  {fi_Stuck:Rh} {cdi_Stuck:Rg}
  (d1:DI K "common_divisor" gL f1 cd1)
  (d2:DI K "ratio" vU f2 cd2)
  (d3:DI K "plus" Aa f3 cd3)
  (d4:DI K "minus" vO f4 cd4)
  (d5:DI K "times" wM f5 cd5)
  (d6:DI K "over" zd f6 cd6)
  (d7:DI K "negative" nY f7 cd7)
  (d8:DI K "without_sign" i_ f8 cd8)
  (d9:DI K "whole_root" j7 f9 cd9)
  (d10:DI K "square_root_or_none" eu f10 cd10)
  (d11:DI K "root_in" qe f11 cd11)
  (d12:DI K "is_plain" nS f12 cd12)
  (d13:DI K "with_sign_of" iQ f13 cd13)
  (d14:DI K "made" zf f14 cd14)
  (d15:DI K "field_base" kR f15 cd15)
  (d16:DI K "share" vI f16 cd16)
  (d17:DI K "joined" tR f17 cd17)
  (d18:DI K "root_negative" ir f18 cd18)
  (d19:DI K "root_plus" mr f19 cd19)
  (d20:DI K "root_minus" ku f20 cd20)
  (d21:DI K "root_times" ke f21 cd21)
  (d22:DI K "one_field" mD f22 cd22)
  (d23:DI K "ask_one_field" ip f23 cd23)
  (d24:DI K "way_between" jC f24 cd24)
  (d25:DI K "like_at" qh f25 cd25)
  (d26:DI K "plain_point" jK f26 cd26)
  (d27:DI K "place_of" nR f27 cd27)
  (d28:DI K "plain_way" mz f28 cd28)
  (d29:DI K "product_of_ways" fU f29 cd29)
  (d30:DI K "moved" wx f30 cd30)
  (d31:DI K "moved_by_root" iu f31 cd31)
  (d32:DI K "both_moved" kj f32 cd32)
  (d33:DI K "square_of_unlike" dI f33 cd33)
  (d34:DI K "without_noughts" fZ f34 cd34)
  (d35:DI K "common_multiple" fN f35 cd35)
  (d36:DI K "common_bottom" iq f36 cd36)
  (d37:DI K "tops_over" mw f37 cd37)
  (d38:DI K "normal_of_tops" gK f38 cd38)
  (d39:DI K "normal" sL f39 cd39)
  (d40:DI K "line_from" mo f40 cd40)
  (d41:DI K "round_about" jH f41 cd41)
  (d42:DI K "curve_plus" kH f42 cd42)
  (d43:DI K "curve_grown" jN f43 cd43)
  (d44:DI K "curve_minus" jS f44 cd44)
  (d45:DI K "product_of_tops" gw f45 cd45)
  (d46:DI K "curve_times" jG f46 cd46)
  (d47:DI K "difference_of_products" cY f47 cd47)
  (d48:DI K "rod_curves" kh f48 cd48)
  (d49:DI K "coupler_curve" ie f49 cd49)
  (d50:DI K "surd_times" kU f50 cd50)
  (d51:DI K "surd_power" kT f51 cd51)
  (d52:DI K "surd_over" lW f52 cd52)
  (d53:DI K "powers_over" jT f53 cd53)
  (d54:DI K "side_over" mf f54 cd54)
  (d55:DI K "on_curve" oh f55 cd55)
  (d56:DI K "circles_meet" fS f56 cd56)
  (d57:DI K "direction_of" iP f57 cd57)
  (d58:DI K "crank_end" lV f58 cd58)
  (d59:DI K "is_plain_point" gM f59 cd59)
  (d60:DI K "pair_point" iL f60 cd60)
  (d61:DI K "stand" rm f61 cd61)
  (d62:DI K "degree_of" lA f62 cd62)
  (d63:DI K "top_part" nN f63 cd63)
  (d64:DI K "_law_cell_at" iS f64 cd64)
  (d65:DI K "_law_state" kW f65 cd65)
  (d66:DI K "_law_take" lR f66 cd66)
  (d67:DI K "_law_divisor" i6 f67 cd67)
  (d68:DI K "_law_ratio" kO f68 cd68)
  (d69:DI K "_law_times" kQ f69 cd69)
  (d70:DI K "_law_small" kI f70 cd70)
  (d71:DI K "_law_above" kd f71 cd71)
  (d72:DI K "_law_plus" lH f72 cd72)
  (d73:DI K "_law_four_rods" gB f73 cd73)
  (d74:DI K "pen_machine" jx f74 cd74)
  (d75:DI K "_law_drives" jQ f75 cd75)
  (d76:DI K "_law_pen" nW f76 cd76)
  (d77:DI K "_law_rounded" i8 f77 cd77)
  (d78:DI K "law" DN f78 cd78)
  (pJ:PySem.W.nsIn K mainGlobals "NOUGHT"=some (some (.ref sD))) (qr:K.lookup sD=some ⟨.type "tuple",CP,.seq #[.int 0 CI,.int 1 B_] FO,CO⟩)
  (zJ:PySem.W.nsIn K mainGlobals "ONE"=some (some (.ref DJ))) (zq:K.lookup DJ=some ⟨.type "tuple",KC,.seq #[.int 1 KM,.int 1 KS] Nm,KL⟩)
  (rO:PySem.W.nsIn K mainGlobals "Stuck"=some (some (.ref cZ)))
  (pR:PySem.W.nsIn K mainGlobals "NoMeet"=some (some (.ref aX)))
  (nP:PySem.W.nsIn K mainGlobals "NoField"=some (some (.ref dy)))
  (mW:PySem.W.excIn K aX [.type "ValueError",.type "Exception",.type "BaseException",.type "object"] "ValueError.__new__"=true)
  (ei_Stuck:EI K [.type "ValueError",.type "Exception",.type "BaseException",.type "object"] "Stuck.__init__" "step" Br cZ fi_Stuck cdi_Stuck)
  (nZ:PySem.W.excIn K dy [.type "ValueError",.type "Exception",.type "BaseException",.type "object"] "ValueError.__new__"=true)
  (lM:PySem.W.exmOne K (.ref cZ) (.ref cZ)=some true)
  (j3:PySem.W.exmOne K (.ref aX) (.ref aX)=some true)
  (Gf:PySem.W.nsIn K mainGlobals "abs"=some none) (FL:PySem.W.nsIn K mainGlobals "zip"=some none) (Fh:PySem.W.nsIn K mainGlobals "max"=some none) (DC:PySem.W.nsIn K mainGlobals "len"=some none) (zL:PySem.W.nsIn K mainGlobals "list"=some none) (zR:PySem.W.nsIn K mainGlobals "dict"=some none) (rW:PySem.W.nsIn K mainGlobals "sorted"=some none) (EO:PySem.W.nsIn K mainGlobals "set"=some none) (lL:PySem.W.nsIn K mainGlobals "enumerate"=some none) (wL:PySem.W.nsIn K mainGlobals "tuple"=some none) (wt:PySem.W.nsIn K mainGlobals "range"=some none) (ED:PySem.W.nsIn K mainGlobals "min"=some none):
  ∃ fd:FuncData,(∀ (s:Rf) (v:Rg),BindsTo s fd ⟨[v],[]⟩ [("script",v)])/\∀ base:Ro,K.In base->base.Ns mainGlobals mg->aL l.prog w K mg base cN 11 fa fd ["script"] (cX K yE):=by
 have e:=hfa.symm.trans (PySem.W.mg_of X G d78.a);cases e;have nc:=QM X G Gf;have Ge:=QM X G FL;have lg:=QM X G Fh;have fF:=QM X G DC;have jA:=QM X G zL;have zh:=QM X G zR;have tQ:=QM X G rW;have Fk:=QM X G EO;have fH:=QM X G lL;have xg:=QM X G wL;have rF:=QM X G wt;have Dw:=QM X G ED;have mP:=PySem.W.mg_of X G rO;have jZ:=PySem.W.mg_of X G pR;have pO:=PySem.W.mg_of X G nP;have qi_Stuck:F9 K mg "Stuck" cZ:=ei_Stuck.err mP PySem.F.excBase_ValueError PySem.F.store_ValueError Do ⟨_,_,_,_,rfl⟩ (by rw [typeLookup_type,builtinLookup_eq_fast]; kernel_rfl)
 have bF:qv K mg "NOUGHT" [0,1]:=⟨sD,_,_,_,PySem.W.mg_of X G pJ,qr,rfl,rfl,Qi rfl,.cons ⟨_,rfl⟩ (.cons ⟨_,rfl⟩ (.nil))⟩
 have iW:qv K mg "ONE" [1,1]:=⟨DJ,_,_,_,PySem.W.mg_of X G zJ,zq,rfl,rfl,Qi rfl,.cons ⟨_,rfl⟩ (.cons ⟨_,rfl⟩ (.nil))⟩
 obtain⟨fd,Fn,hc,hb⟩:=d78.fn;refine⟨fd,hb,λbase _ _=>?_⟩
 have zb:Bs l.prog w base:=.mk;have bg:=d1.own zb X G λ_ F _=>pf F nc
 have dO:=d2.own zb X G λ_ F _=>Fi F bg
 have aW:=d3.own zb X G λ_ F _=>Hz F dO
 have bJ:=d4.own zb X G λ_ F _=>Ex F dO
 have aI:=d5.own zb X G λ_ F _=>Dj F dO
 have c_:=d6.own zb X G λ_ F _=>HS F dO
 have aA:=d7.own zb X G λ_ F _=>xY F
 have aR:=d8.own zb X G λ_ F _=>rj F nc
 have ko:=d9.own zb X G λ_ F _=>ut F
 have cM:=d10.own zb X G λ_ F _=>kz F ko
 have eZ:=d11.own zb X G λ_ F _=>zG F cM
 have a8:=d12.own zb X G λ_ F _=>xC F
 have aT:=d13.own zb X G λ_ F _=>rg F aA
 have zt:=d14.own zb X G λ_ F _=>GP F eZ aR aW aT bF
 have cs:=d15.own zb X G λ_ F _=>ux F aR a8
 have fW:=d16.own zb X G λ_ F _=>Eo F a8 eZ c_ aR aT bF
 have j5:=d17.own zb X G λ_ F _=>BL F aI aT
 have h_:=d18.own zb X G λ_ F _=>qt F aA
 have dH:=d19.own zb X G λ_ F _=>vF F cs aW fW j5
 have dN:=d20.own zb X G λ_ F _=>ui F dH h_
 have eU:=d21.own zb X G λ_ F _=>ur F cs fW aW aI j5
 have mF:=d22.own zb X G λ_ F _=>vH F a8 eZ c_ aR
 have ig:=d23.own zb X G λ_ F _=>pP F a8 mF
 have jz:=d24.own zb X G λ_ F _=>tm F dN
 have iO:=d25.own zb X G λ_ F _=>yZ F ig jz dN eU dH bF
 have bc:=d26.own zb X G λ_ F _=>sF F bF
 have cF:=d27.own zb X G λ_ F _=>xB F
 have fG:=d28.own zb X G λ_ F _=>wg F bJ
 have aD:=d29.own zb X G λ_ F _=>nK F aW aI
 have iK:=d30.own zb X G λ_ F _=>Ej F aW aI
 have fq:=d31.own zb X G λ_ F _=>pI F aI zt aT Ge
 have fc:=d32.own zb X G λ_ F _=>uw F bc aA fq
 have fA:=d33.own zb X G λ_ F _=>m8 F aD
 have ff:=d33.ownX zb X G λ_ F=>lX F aD jZ mW
 have aE:=d34.own zb X G λ_ F _=>nI F
 have b_:=d35.own zb X G λ_ F _=>nO F bg
 have a_:=d36.own zb X G λ_ F _=>qi F b_
 have cw:=d37.own zb X G λ_ F _=>wQ F
 have gU:=d38.own zb X G λ_ F _=>oq F bg lg
 have jc:=d39.own zb X G λ_ F _=>By F gU cw a_ fF jA
 have jo:=d40.own zb X G λ_ F _=>wc F aE aA aD
 have jL:=d41.own zb X G λ_ F _=>sZ F aW bJ aD aE aA iW
 have eQ:=d42.own zb X G λ_ F _=>uA F aW aE zh bF
 have dZ:=d43.own zb X G λ_ F _=>sV F aI aE
 have d_:=d44.own zb X G λ_ F _=>tW F eQ dZ aA iW
 have fR:=d45.own zb X G λ_ F _=>nL F
 have aU:=d46.own zb X G λ_ F _=>sR F a_ fR cw dO aE jA
 have bu:=d47.own zb X G λ_ F _=>jg F d_ aU
 have iB:=d48.own zb X G λ_ F _=>uB F jo aA jL bJ aI aD
 have im:=d49.own zb X G λ_ F _=>pK F iB aI bJ bu eQ aU jc d_ dZ iW
 have bZ:=d50.own zb X G λ_ F _=>uH F
 have fP:=d51.own zb X G λ_ F _=>uq F bZ
 have lS:=d52.own zb X G λ_ F _=>wn F c_ fW b_
 have gX:=d53.own zb X G λ_ F _=>tJ F lS bZ fP lg tQ Fk
 have lx:=d54.own zb X G λ_ F _=>wo F gX a_ cw bZ jA
 have og:=d55.own zb X G λ_ F _=>ym F lx cs fF
 have C_:=d56.own zb X G λ_ F _=>qU F cF fG fA c_ aW bJ aI fc aA iK
 have io:=d56.ownX zb X G λ_ F=>pQ F fc aA iK bJ aI c_ aW fG cF ff
 have i7:=d57.own zb X G λ_ F _=>rb F aA aI aW c_ bJ bF iW
 have fE:=d58.own zb X G λ_ F _=>xm F bc iK i7 cF
 have bH:=d59.own zb X G λ_ F _=>oF F a8
 have ki:=d60.own zb X G λ_ F _=>uu F bH fF
 have jF:=d60.ownX zb X G λ_ F=>tj F bH io fF mP qi_Stuck jZ mW pO nZ j3
 have NI:=d61.own zb X G λ_ F _=>F7 F bc fE ki iO fH
 have t9:=d61.ownX zb X G λ_ F=>Cg F bc fE iO jF fH
 have fD:=d62.own zb X G λ_ F _=>xj F lg
 have nH:=d63.own zb X G λ_ F _=>yx F fD
 have iX:=d64.own zb X G λ_ F _=>qR F fF
 have kx:=d65.own zb X G λ_ F _=>uy F iX
 have aV:=d66.own zb X G λ_ F _=>wI F
 have je:=d67.own zb X G λ_ F _=>qS F nc
 have bz:=d68.own zb X G λ_ F _=>uo F je
 have iF:=d69.own zb X G λ_ F _=>uD F bz
 have aY:=d70.own zb X G λ_ F _=>uK F bz aV
 have fO:=d71.own zb X G λ_ F _=>uj F bz aV
 have mB:=d72.own zb X G λ_ F _=>vT F bz
 have gC:=d73.own zb X G λ_ F _=>oK F aY mB iF fO aV
 have jB:=d74.own zb X G λ_ F _=>tN F
 have jJ:=d75.own zb X G λ_ F _=>rN F aY aV xg
 have nX:=d76.own zb X G λ_ F _=>yC F t9 mP lM
 have jd:=d77.own zb X G λ_ F _=>rf F jc fD nH aU
 exact K8 Fn kx gC im jd jB nX jJ og rF lg Dw fF
theorem walk {l:PySem.W.OpenLaw} {q:Rk} {loose:List Str} {XP:(Str->Ri Rg)->Ro->Prop} {YP:Rn->Ro->Prop} {d:DefRec} {K:Params->Fg} (hn:l.most=some 63) (hdf:d.params.defaults=[])
  (hY:∀ (w:Rn) (h:Ro),YP w h->(K w.params).In h)
  (F:∀ (w:Rn) (mg:Str->Ri Rg) (fa:Rh) (h:Ro),(K w.params).In h->h.Ns mainGlobals mg->mg d.name=some (.ref fa)->
   ∃ fd:FuncData,(∀ (s:Rf) (u:Rg),BindsTo s fd ⟨[u],[]⟩ [("script",u)])/\∀ base:Ro,(K w.params).In base->base.Ns mainGlobals mg->aL l.prog w (K w.params) mg base cN 11 fa fd ["script"] (cX (K w.params) yE)):
  PySem.W.WalkO q loose XP YP l.row.toRowW d [] (λf vs=>PySem.call f vs):=
 L2.HK (n:=63) (k:=11) (x:="script") (CX:=λ_=>cN) (sp:=λw=>cX (K w.params) yE) hn (by decide) hdf ⟨rfl,by decide,by decide⟩ hY F
  (λw H a ns hl ho hS=>DL.JC ho hS (Hv ns hl)) λ_ _ _ _ _ z=>z
end My
open PySem PySem.W PyProof.Rows
set_option maxRecDepth 100000 in
set_option maxHeartbeats 0 in
theorem PySem.Challenge.cw_hingedraw_k66_whole_pens_run_on_their_cu_holds : PySem.Challenge.rw_hingedraw_k66_whole_pens_run_on_their_cu.Holds := by
 w_on; o_law; k_head; (case hw=>w_witness2)
 k_fill
 refine My.walk (l := PySem.Challenge.rw_hingedraw_k66_whole_pens_run_on_their_cu) rfl rfl (λw h Y => PySem.W.kIn_of Y) ?F
 case F=>
  intro w mg fa h KX G hmg;refine' My.Ji KX G hmg ?d1 ?d2 ?d3 ?d4 ?d5 ?d6 ?d7 ?d8 ?d9 ?d10 ?d11 ?d12 ?d13 ?d14 ?d15 ?d16 ?d17 ?d18 ?d19 ?d20 ?d21 ?d22 ?d23 ?d24 ?d25 ?d26 ?d27 ?d28 ?d29 ?d30 ?d31 ?d32 ?d33 ?d34 ?d35 ?d36 ?d37 ?d38 ?d39 ?d40 ?d41 ?d42 ?d43 ?d44 ?d45 ?d46 ?d47 ?d48 ?d49 ?d50 ?d51 ?d52 ?d53 ?d54 ?d55 ?d56 ?d57 ?d58 ?d59 ?d60 ?d61 ?d62 ?d63 ?d64 ?d65 ?d66 ?d67 ?d68 ?d69 ?d70 ?d71 ?d72 ?d73 ?d74 ?d75 ?d76 ?d77 ?d78 ?pJ ?qr ?zJ ?zq ?rO ?pR ?nP ?mW ?ei_Stuck ?nZ ?lM ?j3 ?Gf ?FL ?Fh ?DC ?zL ?zR ?rW ?EO ?lL ?wL ?wt ?ED
  case d1 | d2 | d3 | d4 | d5 | d6 | d7 | d8 | d9 | d10 | d11 | d12 | d13 | d14 | d15 | d16 | d17 | d18 | d19 | d20 | d21 | d22 | d23 | d24 | d25 | d26 | d27 | d28 | d29 | d30 | d31 | d32 | d33 | d34 | d35 | d36 | d37 | d38 | d39 | d40 | d41 | d42 | d43 | d44 | d45 | d46 | d47 | d48 | d49 | d50 | d51 | d52 | d53 | d54 | d55 | d56 | d57 | d58 | d59 | d60 | d61 | d62 | d63 | d64 | d65 | d66 | d67 | d68 | d69 | d70 | d71 | d72 | d73 | d74 | d75 | d76 | d77 | d78=>refine' ⟨?a,.mk ?l,?e,?k⟩; (case a=>k_is); (case l=>k_is); (case e=>k_is); (case k=>k_is)
  (case pJ=>k_is)
  (case qr=>k_is)
  (case zJ=>k_is)
  (case zq=>k_is)
  (case rO=>k_is)
  (case pR=>k_is)
  (case nP=>k_is)
  (case mW=>kernel_rfl)
  (case ei_Stuck=>refine' ⟨?b,.mk ?l,?e,?k,?i⟩; (case b=>k_is); (case l=>k_is); (case e=>k_is); (case k=>k_is); (case i=>kernel_rfl))
  (case nZ=>kernel_rfl)
  (case lM=>kernel_rfl)
  (case j3=>kernel_rfl)
  (case Gf=>k_is)
  (case FL=>k_is)
  (case Fh=>k_is)
  (case DC=>k_is)
  (case zL=>k_is)
  (case zR=>k_is)
  (case rW=>k_is)
  (case EO=>k_is)
  (case lL=>k_is)
  (case wL=>k_is)
  (case wt=>k_is)
  (case ED=>k_is)
