import PyProof.Rows.All
import Wide.All
import OpenK.AllK
import Wide.FinOn
import Lean
import PyProof.EqAt
import PyProof.EqKinds
import PyProof.TupleCall
import PySem.Challenge.RW_hingedraw_k86_whole_pens_run_on_lines
set_option compiler.extract_closed false
set_option genSizeOfSpec false
set_option Elab.async false
set_option linter.all false
set_option maxRecDepth 100000
set_option Elab.async false
set_option linter.all false
set_option maxRecDepth 100000
section
open PySem PySem.Spec PyProof.Rows
abbrev gt:=@wpAny_bind
abbrev pp:=@Heap.get?_push_of_some
abbrev PZ:=@wpAny_pure
abbrev P0:=@Heap.get?_push_size
abbrev P1:=@Rat.intCast_mul
abbrev P2:=@Heap.lt_size
abbrev P3:=@Nat.le_refl
abbrev P4:=@List.mem_map
abbrev P5:=@List.length_map
abbrev P6:=@Bool.false_ne_true
abbrev P7:=@List.size_toArray
abbrev P8:=@List.mem_cons
abbrev P9:=@Nat.ne_of_lt
abbrev P_:=@List.mem_cons_self
abbrev Qa:=@List.mem_cons_of_mem
abbrev Qb:=@Nat.lt_of_lt_of_le
abbrev Qc:=@List.mem_append_right
abbrev Qd:=@List.map_cons
abbrev Qe:=@List.length_cons
abbrev Qf:=@Rat.mul_eq_zero
abbrev Qg:=@List.find?_cons
abbrev Qh:=@List.not_mem_nil
abbrev Qi:=@Nat.le_of_ble_eq_true
abbrev Qj:=@Rat.intCast_add
abbrev Qk:=@Prod.ext
abbrev Ql:=@List.length_append
abbrev Qm:=@Around.under_plainId
abbrev Qn:=@List.append_nil
abbrev Qo:=@Rat.mul_nonneg
abbrev Qp:=@wpAny_setField_rec
abbrev Qq:=@wpAny_holding
abbrev Qr:=@List.getElem?_eq_getElem
abbrev Qs:=@wpAny_newObj_type
abbrev Qt:=@List.getElem?_map
abbrev Qu:=@Rat.mul_pos
abbrev Qv:=@F.plain_max_loop
abbrev Qw:=@Heap.get?_update_other
abbrev Qx:=@Option.some.inj
abbrev Qy:=@wpAny_seqItems
abbrev Qz:=@codeAny_builtin
abbrev QA:=@Rat.intCast_sub
abbrev QB:=@List.getD_eq_getElem?_getD
abbrev QC:=@Rat.divInt_eq_div
abbrev QD:=@List.getElem?_eq_some_iff
abbrev QE:=@wpAny_mono
abbrev QF:=@wpAny_field
abbrev QG:=@Rat.intCast_neg
abbrev QH:=@Nat.le_trans
abbrev QI:=@Bool.and_eq_true
abbrev QJ:=@List.map_map
abbrev QK:=@PySem.mem_of_lookup
abbrev QL:=@Heap.get?_update_self
abbrev QM:=@List.nodup_cons
abbrev QN:=@Rat.intCast_inj
abbrev QO:=@PySem.W.mg_none_of
abbrev QP:=@wpAny_call_entry
abbrev QQ:=@Option.map_eq_some_iff
abbrev QR:=@Int.fmod_nonneg_of_pos
abbrev QS:=@List.drop_eq_getElem_cons
abbrev QT:=@wpAny_dictEntries
abbrev QU:=@Int.natAbs_dvd_natAbs
abbrev QV:=@decide_eq_false
abbrev QW:=@Nat.zero_le
abbrev QX:=@Nat.lt_irrefl
abbrev QY:=@Heap.size_push
abbrev QZ:=@List.all_eq_true
abbrev Q0:=@List.mem_range
abbrev Q1:=@Int.natAbs_mul
abbrev Q2:=@wpAny_tryCatch
abbrev Q3:=@wpAny_callSpecial?_slot
abbrev Q4:=@Int.toNat_natCast
abbrev Q5:=@decide_eq_true_eq
abbrev Q6:=@Array.length_toList
abbrev Q7:=@List.mem_map_of_mem
abbrev Q8:=@wpAny_letGo
abbrev Q9:=@List.getElem_mem
abbrev Q_:=@Int.fmod_lt_of_pos
abbrev Ra:=@List.getElem?_toArray
abbrev Rb:=@Bool.false_eq_true
abbrev Rc:=@Option.isSome_iff_exists
abbrev Re:=@List.length_nil
abbrev Rf:=@Rat.num_eq_zero
abbrev Rg:=@List.length_eq_zero_iff
abbrev Rh:=@Heap.SameBut.update
end
namespace L2
open PySem PySem.Spec PyProof.Rows
abbrev dJ:=Sum Int Str
def u6:dJ->Value->Bool
 | .inl k,v=>Value.isInt k v
 | .inr x,v=>Value.isStrOf x v
def NS (w:World):dJ->Int
 | .inl k=>hashInt k
 | .inr x=>hashStr w x
theorem cK:∀ {k:dJ} {v:Value},u6 k v=true->(∃ i t,k=Sum.inl i/\v=Value.int i t)\/(∃ x t,k=Sum.inr x/\v=Value.str x t)
 | .inl i,v,h=>by
  obtain⟨t,e⟩:=Value.isInt_shape (k:=i) (v:=v) h;exact .inl ⟨i,t,rfl,e⟩
 | .inr x,v,h=>by
  obtain⟨t,e⟩:=Value.isStrOf_shape (x:=x) (v:=v) h;exact .inr ⟨x,t,rfl,e⟩
theorem Br (i:Int) (t:Tok):u6 (.inl i) (.int i t)=true:=by simp [u6,Value.isInt]
theorem A6 (x:Str) (t:Tok):u6 (.inr x) (.str x t)=true:=by simp [u6,Value.isStrOf]
theorem KA (a b:Int):decide ((Sum.inl a:dJ)=Sum.inl b)=(a == b):=by
 by_cases e:a=b
 ·subst e; simp
 ·have h:¬ (Sum.inl a:dJ)=Sum.inl b:=λq=>e (Sum.inl.inj q)
  rw [QV h];exact(beq_eq_false_iff_ne.mpr e).symm
theorem KY (a b:Str):decide ((Sum.inr a:dJ)=Sum.inr b)=decide (a=b):=by
 by_cases e:a=b
 ·subst e; simp
 ·have h:¬ (Sum.inr a:dJ)=Sum.inr b:=λq=>e (Sum.inr.inj q)
  rw [QV h,QV e]
theorem JM (a:Int) (b:Str):decide ((Sum.inl a:dJ)=Sum.inr b)=false:=QV (λq=>nomatch q)
theorem Km (a:Str) (b:Int):decide ((Sum.inr a:dJ)=Sum.inl b)=false:=QV (λq=>nomatch q)
def dR (prog:Program) (w:World):PySem.KeyKind prog w dJ where
 is:=u6
 hash:=NS w
 inj:=λv a b ha hb=>by
  rcases cK ha with ⟨i,t,rfl,rfl⟩ | ⟨x,t,rfl,rfl⟩
  ·rcases cK hb with ⟨j,u,rfl,e⟩ | ⟨y,u,rfl,e⟩
   ·injection e with e1 _; rw [e1]
   ·exact nomatch e
  ·rcases cK hb with ⟨j,u,rfl,e⟩ | ⟨y,u,rfl,e⟩
   ·exact nomatch e
   ·injection e with e1 _; rw [e1]
 byValue:=λk v h=>by
  rcases cK h with ⟨i,t,rfl,rfl⟩ | ⟨x,t,rfl,rfl⟩ <;> rfl
 pyHash:=λhv h=>by
  rcases cK hv with ⟨i,t,rfl,rfl⟩ | ⟨x,t,rfl,rfl⟩
  ·exact wpAny_pyHash_int h
  ·exact wpAny_pyHash_str h
 eqBool:=λhu hv h=>by
  rcases cK hu with ⟨i,t,rfl,rfl⟩ | ⟨x,t,rfl,rfl⟩
  ·rcases cK hv with ⟨j,u,rfl,rfl⟩ | ⟨y,u,rfl,rfl⟩
   ·rw [KA] at h; exact wpAny_eqBool_int h
   ·rw [JM] at h; exact SeqAt.EqAt.int_str i t y u _ _ _ _ h
  ·rcases cK hv with ⟨j,u,rfl,rfl⟩ | ⟨y,u,rfl,rfl⟩
   ·rw [Km] at h; exact SeqAt.EqAt.str_int x t j u _ _ _ _ h
   ·rw [KY] at h; exact wpAny_eqBool_str h
 «strs»:=λk x t v h=>by
  rcases cK h with ⟨i,u,rfl,e⟩ | ⟨y,u,rfl,e⟩
  ·exact nomatch e
  ·injection e with e1 _
   subst e1;cases v <;> rfl
theorem xC (prog:Program) (w:World) (i:Int) (t:Tok):(dR prog w).is (.inl i) (.int i t)=true:=Br i t
theorem yd (prog:Program) (w:World) (x:Str) (t:Tok):(dR prog w).is (.inr x) (.str x t)=true:=A6 x t
inductive V where
 | non | bl (b:Bool) | int (i:Int) | str (x:Str) | byt (b:Array UInt8) | flt (b:UInt64) | ref (a:Addr) | ty (n:String)
 deriving DecidableEq
def aS:V->Value->Prop
 | .non,u=>u=Value.none
 | .bl b,u=>u=Value.bool b
 | .int i,u=>∃ t,u=Value.int i t
 | .str x,u=>∃ t,u=Value.str x t
 | .byt b,u=>∃ t,u=Value.bytes b t
 | .flt b,u=>∃ t,u=Value.float b t
 | .ref a,u=>u=Value.ref a
 | .ty n,u=>u=Value.type n
abbrev a_:List V->List Value->Prop:=Paired aS
theorem a_.length {xs:List V} {us:List Value} (r:a_ xs us):xs.length=us.length:=Paired.length r
theorem a_.get:∀ {xs:List V} {us:List Value} {i:Nat} {x:V},a_ xs us->xs[i]?=some x->∃ u,us[i]?=some u/\aS x u
 | _,_,_,_,.nil,e=>by simp at e
 | _,_,0,_,.cons r _,e=>by simp at e; subst e; exact⟨_,rfl,r⟩
 | _,_,i+1,x,.cons _ t,e=>by
  obtain⟨u,h1,h2⟩:=a_.get (i:=i) (x:=x) t (by simpa using e)
  exact⟨u,by simpa using h1,h2⟩
theorem a_.set {x:V} {u:Value} (r:aS x u):∀ {xs:List V} {us:List Value} (i:Nat),a_ xs us->a_ (xs.set i x) (us.set i u)
 | _,_,_,.nil=>.nil
 | _,_,0,.cons _ t=>.cons r t
 | _,_,i+1,.cons q t=>.cons q (a_.set r i t)
theorem a_.append:∀ {xs ys:List V} {us ws:List Value},a_ xs us->a_ ys ws->a_ (xs++ys) (us++ws)
 | _,_,_,_,.nil,s=>s
 | _,_,_,_,.cons r t,s=>.cons r (a_.append t s)
theorem a_.take:∀ {xs:List V} {us:List Value} (n:Nat),a_ xs us->a_ (xs.take n) (us.take n)
 | _,_,0,_=>.nil
 | _,_,_+1,.nil=>.nil
 | _,_,n+1,.cons r t=>.cons r (a_.take n t)
theorem a_.drop:∀ {xs:List V} {us:List Value} (n:Nat),a_ xs us->a_ (xs.drop n) (us.drop n)
 | _,_,0,r=>r
 | _,_,_+1,.nil=>.nil
 | _,_,n+1,.cons _ t=>a_.drop n t
def uD:Option V->Option Value->Prop
 | some v,some u=>aS v u
 | none,none=>True
 | _,_=>False
def KV {κ:Type}:List (κ×V)->List (κ×Value)->Prop:=Paired fun(p:κ×V) (q:κ×Value)=>p.1=q.1/\aS p.2 q.2
def kV:dJ->V
 | .inl i=>.int i
 | .inr x=>.str x
inductive HO where
 | lst (xs:List V)
 | tup (xs:List V)
 | dK (kvs:List (dJ×V)) | dT (kvs:List (List dJ×V))
 | set (S:Int->Bool) (n:Nat)
 | ins (C dx:Addr) (fs:List (Str×V))
 | own (x:Addr)
 | xd (fs:List (Str×V))
 | met (f x:Addr)
 | rng (lo hi:Int)
 | frz (o:Obj) (u:HO)
 | tbl (ps:Array Value)
 | ext (φ:Heap->Prop)
abbrev Hp:=Addr->Option HO
def bz (H:Hp) (a:Addr) (o:HO):Hp:=λb=>if b=a then some o else H b
theorem bu {H:Hp} {a:Addr} {o:HO}:bz H a o a=some o:=by unfold bz; rw [if_pos rfl]
theorem aK {H:Hp} {a b:Addr} {o:HO} (h:b≠a):bz H a o b=H b:=by unfold bz; rw [if_neg h]
theorem LO {H:Hp} {a b:Addr} {o u:HO} (h:H a=some o) (h':H b=some u) (d:o≠u):a≠b:=by
 intro e; subst e; rw [h] at h'; exact d (Qx h')
theorem bf {H:Hp} {a b:Addr} {o:HO} (h:H a=some o) (h':H b=none):a≠b:=by
 intro e; subst e; rw [h] at h'; cases h'
section
variable (P:Program) (w:World)
def dc (H:Hp) (h:Heap) (a:Addr):HO->Prop
 | .lst xs=>xs.length<=sizeLine/\∃ (its:List Value) (n:Nat),a_ xs its/\h.get? a=some {cls:=.type "list",data:=.seq its.toArray n}
 | .tup xs=>xs.length<=sizeLine/\∃ its:List Value,a_ xs its/\IsTup h a its.toArray
 | .dK kvs=>kvs.length<=sizeLine/\(a == sysModules)=false/\∃ vs,KV kvs vs/\h.DictOf (dR P w) a vs
 | .dT kvs=>kvs.length<=sizeLine/\(a == sysModules)=false/\∃ xs:List (List dJ×Addr×Value),
   Paired (λ(p:List dJ×V) (q:List dJ×Addr×Value)=>p.1=q.1/\H q.2.1=some (.tup (p.1.map kV))/\aS p.2 q.2.2) kvs xs/\
   ∃ o es ep,h.get? a=some o/\o.ExactDict/\o.data=.dict es ep/\es.toList=xs.map (entryOfKey (tupleKind (dR P w)))/\(xs.map (·.1)).Nodup
 | .set S n=>h.SetOf (intKind P w) a S n
 | .ins C dx fs=>H dx=some (.own a)/\fs.length<=1000/\dx≠a/\h.get? a=some (PySem.W.instObj C dx)/\
   ∃ mA,h.Ns1 dx mA/\(∀ f,uD (fs.lookup f) (mA f))/\PySem.Within mA (fs.map (·.1))
 | .own _=>∃ o,h.get? a=some o
 | .xd fs=>∃ mA,h.Ns1 a mA/\∀ f,uD (fs.lookup f) (mA f)
 | .rng lo hi=>∃ t u v,h.get? a=some {cls:=.type "range",data:=.fields #[.int lo t,.int hi u,.int 1 v]}
 | .frz o u=>h.get? a=some o/\dc H h a u
 | .tbl ps=>h.get? a=some {cls:=.none,data:=.fields ps}
 | .met f x=>h.get? a=some (PySem.W.methodObj (.ref f) (.ref x))
 | .ext φ=>φ h/\(∃ o,h.get? a=some o)/\∀ h1 h2:Heap,φ h1->(∀ o,h1.get? a=some o->h2.get? a=some o)->φ h2
def mQ (H:Hp) (h:Heap):Prop:=∀ a o,H a=some o->dc P w H h a o
end
section
variable {P:Program} {w:World} {H H':Hp} {h h':Heap} {a:Addr} {o:HO}
theorem dc.lt (x:dc P w H h a o):a < h.objs.size:=by
 cases o with
 | lst xs=>obtain⟨_,_,_,_,e⟩:=x; exact P2 e
 | tup xs=>obtain⟨_,_,_,p⟩:=x; exact p.lt
 | dK kvs=>obtain⟨_,_,_,_,o,_,_,e,_⟩:=x; exact P2 e
 | dT kvs=>obtain⟨_,_,_,_,o,_,_,e,_⟩:=x; exact P2 e
 | set S n=>obtain⟨o,_,_,_,e,_⟩:=x; exact P2 e
 | ins C dx fs=>obtain⟨_,_,_,e,_⟩:=x; exact P2 e
 | own y=>obtain⟨_,e⟩:=x; exact P2 e
 | xd fs=>obtain⟨_,⟨_,_,_,e,_⟩,_⟩:=x; exact P2 e
 | rng lo hi=>obtain⟨_,_,_,e⟩:=x; exact P2 e
 | frz ob u=>obtain⟨e,_⟩:=x; exact P2 e
 | tbl ps=>exact P2 (show h.get? a=some _ from x)
 | met f y=>exact P2 (show h.get? a=some _ from x)
 | ext φ=>obtain⟨_,⟨_,e⟩,_⟩:=x; exact P2 e
theorem Paired.mapP {α β:Type} {F G:α->β->Prop}:∀ {l₁:List α} {l₂:List β},Paired F l₁ l₂->(∀ a b,F a b->G a b)->Paired G l₁ l₂
 | _,_,.nil,_=>.nil
 | _,_,.cons r t,f=>.cons (f _ _ r) (Paired.mapP t f)
theorem dc.stay (x:dc P w H h a o) (k:∀ b u,(b=a\/H b=some (.own a))->h.get? b=some u->h'.get? b=some u)
  (ho:∀ b,H b=some (.own a)->H' b=some (.own a)) (ht:∀ b xs,H b=some (.tup xs)->H' b=some (.tup xs)):dc P w H' h' a o:=by
 induction o with
 | lst xs=>obtain⟨z,its,n,r,e⟩:=x; exact⟨z,its,n,r,k _ _ (.inl rfl) e⟩
 | tup xs=>obtain⟨z,its,r,ob,e,c⟩:=x; exact⟨z,its,r,ob,k _ _ (.inl rfl) e,c⟩
 | dK kvs=>obtain⟨z,y,vs,r,ob,es,ep,e,c⟩:=x; exact⟨z,y,vs,r,ob,es,ep,k _ _ (.inl rfl) e,c⟩
 | dT kvs=>
  obtain⟨z,y,xs,r,ob,es,ep,e,c⟩:=x;exact⟨z,y,xs,Paired.mapP r λp q z=>⟨z.1,ht _ _ z.2.1,z.2.2⟩,ob,es,ep,k _ _ (.inl rfl) e,c⟩
 | set S n=>obtain⟨ob,es,ep,t,e,c⟩:=x; exact⟨ob,es,ep,t,k _ _ (.inl rfl) e,c⟩
 | ins C dx fs=>
  obtain⟨d,z,ne,e,mA,⟨od,es,ep,e2,c⟩,r⟩:=x;exact⟨ho _ d,z,ne,k _ _ (.inl rfl) e,mA,⟨od,es,ep,k _ _ (.inr d) e2,c⟩,r⟩
 | own y=>obtain⟨ob,e⟩:=x; exact⟨ob,k _ _ (.inl rfl) e⟩
 | xd fs=>obtain⟨mA,⟨od,es,ep,e,c⟩,r⟩:=x; exact⟨mA,⟨od,es,ep,k _ _ (.inl rfl) e,c⟩,r⟩
 | rng lo hi=>obtain⟨t,u,v,e⟩:=x; exact⟨t,u,v,k _ _ (.inl rfl) e⟩
 | frz ob u ih=>obtain⟨e,q⟩:=x; exact⟨k _ _ (.inl rfl) e,ih q⟩
 | tbl ps=>
  have e:h.get? a=some {cls:=.none,data:=.fields ps}:=x
  show h'.get? a=some {cls:=.none,data:=.fields ps}
  exact k a _ (.inl rfl) e
 | met f y=>
  have e:h.get? a=some (PySem.W.methodObj (.ref f) (.ref y)):=x
  show h'.get? a=some (PySem.W.methodObj (.ref f) (.ref y))
  exact k a _ (.inl rfl) e
 | ext φ=>obtain⟨p,⟨o,e⟩,st⟩:=x; exact⟨st _ _ p λo q=>k _ _ (.inl rfl) q,⟨o,k _ _ (.inl rfl) e⟩,st⟩
theorem mQ.lt (x:mQ P w H h) (e:H a=some o):a < h.objs.size:=(x a o e).lt
theorem mQ.fresh (x:mQ P w H h) (e:h.objs.size<=a):H a=none:=by
 cases q:H a with
 | none=>rfl
 | some u=>exact absurd (Qb (x.lt q) e) (QX _)
theorem mQ.kept (x:mQ P w H h) (k:∀ b u,h.get? b=some u->h'.get? b=some u):mQ P w H h':=λa o e=>
 (x a o e).stay (λb u _ q=>k b u q) (λ_ q=>q) λ_ _ q=>q
theorem mQ.laid (x:mQ P w H h) (k:∀ b u,h.get? b=some u->h'.get? b=some u) (hp:h.objs.size<=a) (new:dc P w (bz H a o) h' a o):mQ P w (bz H a o) h':=λb u e=>by
 have hn:=x.fresh hp
 by_cases hb:b=a
 ·subst hb; rw [bu] at e; cases e; exact new
 ·rw [aK hb] at e;exact(x b u e).stay (λc v _ q=>k c v q) (λc q=>by rw [aK (bf q hn)]; exact q) λc xs q=>by rw [aK (bf q hn)]; exact q
end
def Rd (H:Hp) (a:Addr) (u:HO):Prop:=H a=some u\/∃ o,H a=some (.frz o u)
theorem Rd.ok {P:Program} {w:World} {H:Hp} {h:Heap} {a:Addr} {u:HO} (r:Rd H a u) (x:mQ P w H h):dc P w H h a u:=by
 rcases r with r | ⟨o,r⟩
 ·exact x a u r
 ·obtain⟨_,q⟩:=x a _ r;exact q
def LI:Option HO->Prop
 | some (.lst _)=>True
 | some (.dK _)=>True
 | some (.dT _)=>True
 | some (.set _ _)=>True
 | some (.ins _ _ _)=>True
 | some (.ext _)=>True
 | _=>False
section
variable {P:Program} {w:World} {H:Hp} {h h':Heap} {x e:Addr} {o':HO}
theorem mQ.write (ok:mQ P w H h) (mu:LI (H x)) (he:e=x\/H e=some (.own x)) (k:∀ b u,b≠e->h.get? b=some u->h'.get? b=some u) (heo:∃ u,h'.get? e=some u)
  (new:dc P w (bz H x o') h' x o'):mQ P w (bz H x o') h':=λb u q=>by
 have nown:∀ c y,H c=some (.own y)->c≠x:=λc y r z=>by subst z; rw [r] at mu; exact mu
 have ntup:∀ c xs,H c=some (.tup xs)->c≠x:=λc xs r z=>by subst z; rw [r] at mu; exact mu
 by_cases hb:b=x
 ·subst hb; rw [bu] at q; cases q; exact new
 ·rw [aK hb] at q
  by_cases hbe:b=e
  ·have q':H b=some (.own x):=by
    rcases he with z | z
    ·exact absurd (hbe.trans z) hb
    ·rw [hbe]; exact z
   rw [q] at q'; cases q'
   obtain⟨v,hv⟩:=heo;exact⟨v,by rw [hbe]; exact hv⟩
  ·refine(ok b u q).stay (λc v hc r=>k c v ?_ r) (λc r=>by rw [aK (nown c b r)]; exact r) λc xs r=>by rw [aK (ntup c xs r)]; exact r
   rcases hc with rfl | hc
   ·exact hbe
   ·rintro rfl;rcases he with z | z
    ·exact nown c b hc z
    ·rw [hc] at z; cases z; exact hb rfl
end
structure Un (fs ex:List Addr) (H H':Hp) (h h':Heap):Prop where
 keep:∀ b o,h.get? b=some o->H b=none->b∉fs->b∉ex->h'.get? b=some o
 slot:∀ b o,h.get? b=some o->H b=none->b∈fs->b∉ex->∃ sl,h'.get? b=some {o with slots:=sl}
 free:∀ b o,h.get? b=some o->H b=none->b∉ex->H' b=none
 there:∀ b o,h.get? b=some o->b∉ex->∃ o',h'.get? b=some o'
 tups:∀ b xs,H b=some (.tup xs)->H' b=some (.tup xs)
 frzs:∀ b o u,H b=some (.frz o u)->H' b=some (.frz o u)
 tbls:∀ b ps,H b=some (.tbl ps)->∃ more,H' b=some (.tbl (ps++more))
section
variable {fs fs' ex ex':List Addr} {H H1 H2:Hp} {h h1 h2 h':Heap} {a x e:Addr} {o:HO}
theorem Un.any (u:Un fs ex H H1 h h1) {b:Addr} {ob:Obj} (q:h.get? b=some ob) (n:H b=none) (hx:b∉ex):∃ sl,h1.get? b=some {ob with slots:=sl}:=by
 by_cases hb:b∈fs
 ·exact u.slot b ob q n hb hx
 ·exact⟨ob.slots,u.keep b ob q n hb hx⟩
theorem Un.trans (a:Un fs ex H H1 h h1) (b:Un fs ex H1 H2 h1 h2):Un fs ex H H2 h h2 where
 keep:=λc ob q n hc hx=>b.keep c ob (a.keep c ob q n hc hx) (a.free c ob q n hx) hc hx
 slot:=λc ob q n hc hx=>by
  obtain⟨sl,e1⟩:=a.slot c ob q n hc hx;obtain⟨sl',e2⟩:=b.slot c _ e1 (a.free c ob q n hx) hc hx;exact⟨sl',e2⟩
 free:=λc ob q n hx=>by
  obtain⟨o',e1⟩:=a.there c ob q hx;exact b.free c o' e1 (a.free c ob q n hx) hx
 there:=λc ob q hx=>by
  obtain⟨o',e1⟩:=a.there c ob q hx;exact b.there c o' e1 hx
 tups:=λc xs q=>b.tups c xs (a.tups c xs q)
 frzs:=λc ob xs q=>b.frzs c ob xs (a.frzs c ob xs q)
 tbls:=λc ps q=>by
  obtain⟨m1,e1⟩:=a.tbls c ps q;obtain⟨m2,e2⟩:=b.tbls c _ e1;exact⟨m1++m2,by rw [e2,Array.append_assoc]⟩
theorem Un.kept (k:∀ b u,h.get? b=some u->h'.get? b=some u):Un fs ex H H h h':=
 ⟨λb ob q _ _ _=>k b ob q,λb ob q _ _ _=>⟨ob.slots,k b ob q⟩,λ_ _ _ n _=>n,λb ob q _=>⟨ob,k b ob q⟩,λ_ _ q=>q,λ_ _ _ q=>q,λ_ ps q=>⟨#[],by rw [q]; simp⟩⟩
theorem Un.refl:Un fs ex H H h h:=Un.kept λ_ _ q=>q
theorem Un.laid (k:∀ b u,h.get? b=some u->h'.get? b=some u) (hp:h.objs.size<=a) (hn:H a=none):Un fs ex H (bz H a o) h h' where
 keep:=λb u q _ _ _=>k b u q
 slot:=λb u q _ _ _=>⟨u.slots,k b u q⟩
 free:=λb u q n _=>by rw [aK (P9 (Qb (P2 q) hp))]; exact n
 there:=λb u q _=>⟨u,k b u q⟩
 tups:=λb xs q=>by rw [aK (bf q hn)]; exact q
 frzs:=λb u xs q=>by rw [aK (bf q hn)]; exact q
 tbls:=λb ps q=>⟨#[],by rw [aK (bf q hn),q]; simp⟩
theorem Un.write (mu:LI (H x)) (he:e=x\/H e=some (.own x)) (k:∀ b u,b≠e->h.get? b=some u->h'.get? b=some u) (heo:∃ u,h'.get? e=some u):Un fs ex H (bz H x o) h h':=by
 have hx:∀ b,H b=none->b≠x:=λb n z=>by subst z; rw [n] at mu; exact mu
 have hb:∀ b,H b=none->b≠e:=λb n z=>by
  subst z;rcases he with r | r
  ·exact hx b n r
  ·rw [n] at r; cases r
 have hm:∀ b u,H b=some u->¬ LI (some u)->b≠x:=λb u q nm z=>by subst z; rw [q] at mu; exact nm mu
 refine⟨λb u q n _ _=>k b u (hb b n) q,λb u q n _ _=>⟨u.slots,k b u (hb b n) q⟩,λb u q n _=>by rw [aK (hx b n)]; exact n,λb u q _=>?_,
  λb xs q=>by rw [aK (hm b _ q λz=>z)]; exact q,λb u xs q=>by rw [aK (hm b _ q λz=>z)]; exact q,λb ps q=>⟨#[],by rw [aK (hm b _ q λz=>z),q]; simp⟩⟩
 by_cases hbe:b=e
 ·subst hbe; exact heo
 ·exact⟨u,k b u hbe q⟩
end
def ND (h:Heap) (H:Hp):List Addr:=(List.range h.objs.size).filter λa=>(H a).isSome
def tP (h:Heap) (H:Hp):Heap:=PySem.W.hideAll h (ND h H)
theorem B9 (h:Heap) (H:Hp):(tP h H).objs.size=h.objs.size:=PySem.W.hideAll_size _ _
theorem Fm {h:Heap} {H:Hp} {b:Addr} {o:Obj} (e:h.get? b=some o) (n:H b=none):(tP h H).get? b=some o:=
 PySem.W.hideAll_get _ e λhm=>by
  have q:(H b).isSome=true:=(List.mem_filter.mp hm).2;rw [n] at q; simp at q
theorem F8 {h:Heap} {H:Hp} {b:Addr} {o:Obj} (e:(tP h H).get? b=some o):h.get? b=some o/\H b=none:=by
 have e':h.get? b=some o:=PySem.W.of_hideAll (ND h H) e;refine⟨e',?_⟩;cases q:H b with
 | none=>rfl
 | some x=>
  have hm:b∈ND h H:=List.mem_filter.mpr ⟨Q0.mpr (P2 e'),by simp [q]⟩
  have z:(tP h H).get? b=none:=PySem.W.hideAll_none (ND h H) hm;rw [z] at e; cases e
def HG (g h:Heap) (L:Addr):List (Addr×Obj):=(List.range h.objs.size).filterMap λa=>if a=L\/(g.get? a).isSome=true then none else(h.get? a).map λo=>(a,o)
def aw (g h:Heap) (L d:Addr):List (Addr×Obj):=(HG g h L).filter λp=>decide (p.1≠d)
structure Mod (K:PySem.W.Frag) (mg:Str->Option Value) (base:Heap):Prop where
 kin:K.In base
 glob:base.Ns mainGlobals mg
 blt:∃ mb,base.Ns builtinsNs mb/\∀ x:Str,x≠"__name__"->mb x=bootBuiltins x
 nolimit:base.NoLimit
structure Cx where
 prog:Program
 w:World
 K:PySem.W.Frag
 mg:Str->Option Value
 base:Heap
 A:Around
 N:List Str
 s₀:Shared
 H₀:Hp
 env:Env
 outer:List Env
 stack:List Env
 ex:List Addr
 fn:Str->Bool
 calm:Bool
 pn:List (Addr×Obj)
 xe:Value->Shared->Prop
def kS (l:List Env):List Addr:=l.filterMap (·.frame)
abbrev Cx.fs (X:Cx):List Addr:=kS X.outer
def Ny (sc:Scope) (x:Str):Prop:=sc.names.lookup x=some .local\/sc.names.lookup x=some .cell\/sc.names.lookup x=some .free
def FY (sc:Scope) (x:Str):Prop:=sc.names.lookup x=some .local\/sc.names.lookup x=some .cell
def N2 (env:Env) (h:Heap) (m:Str->Option Value) (x:Str) (u:Value):Prop:=
 (env.kindOf x=some .local/\m x=some u)\/((env.kindOf x=some .cell\/env.kindOf x=some .free)/\∃ c,env.cells.lookup x=some c/\h.IsCell c (some u))
structure Cx.Ok (X:Cx):Prop where
 mod:Mod X.K X.mg X.base
 kind:X.env.scope.kind=.function
 glob:X.env.globals=mainGlobals
 blt:X.env.builtins=builtinsNs
 above:X.s₀.heap.objs.size<=X.env.locals
 inj:∀ x y c,X.env.cells.lookup x=some c->X.env.cells.lookup y=some c->x=y
 has:∀ x,(X.env.kindOf x=some .cell\/X.env.kindOf x=some .free)->∃ c,X.env.cells.lookup x=some c
 cab:∀ x c,X.fn x=true->X.env.cells.lookup x=some c->X.s₀.heap.objs.size<=c
 hd:X.calm=true->X.A.handled=none
 frames:X.A.frames=some X.stack
 stk:X.stack=X.outer\/(X.stack=X.env::X.outer/\X.env.frame=some X.env.locals)
 exf:∀ b∈X.ex,b≠X.env.locals/\∀ x c,X.env.cells.lookup x=some c->c≠b
 bs:∀ b o,X.base.get? b=some o->X.s₀.heap.get? b=some o/\X.H₀ b=none
 bsz:X.base.objs.size<=X.s₀.heap.objs.size
 noex:∀ b o,X.base.get? b=some o->b∉X.ex
 exfs:∀ b∈X.ex,b∉X.fs
 funs:X.s₀.heap.FunFrames X.base X.outer
 frf:∀ b∈X.fs,X.H₀ b=none
structure ay (X:Cx) (pins:List (Addr×Obj)) (σ:List (Option V)) (H:Hp) (s:Shared):Prop where
 ok:X.Ok
 os:s.os=X.s₀.os
 bare:AllBare s.gens
 base:Un X.fs X.ex X.H₀ H X.s₀.heap s.heap
 loc:∃ m,s.heap.Ns X.env.locals m/\∀ (i:Nat) (x:Str) (v:V),X.N[i]?=some x->σ[i]?=some (some v)->Ny X.env.scope x->∃ u,aS v u/\N2 X.env s.heap m x u
 cell:∀ x c,X.env.cells.lookup x=some c->∃ v,s.heap.IsCell c v
 free:H X.env.locals=none
 freeC:∀ x c,X.env.cells.lookup x=some c->H c=none
 pin:∀ p∈X.pn++pins,s.heap.get? p.1=some p.2/\H p.1=none/\p.1≠X.env.locals/\p.1∉X.fs/\∀ v,p.2.data≠.cell v
 hok:mQ X.prog X.w H s.heap
 len:σ.length=X.N.length
section
variable {X:Cx} {pins:List (Addr×Obj)} {σ:List (Option V)} {H H':Hp} {s:Shared} {h':Heap}
theorem Cx.Ok.nofr (ok:X.Ok) {b:Addr} {o:Obj} (e:X.base.get? b=some o):b∉X.fs:=λhb=>by
 have:=(ok.funs.mem hb).1;rw [e] at this; cases this
theorem ay.bs (I:ay X pins σ H s):∀ b o,X.base.get? b=some o->s.heap.get? b=some o/\H b=none:=λb o e=>
 ⟨I.base.keep b o (I.ok.bs b o e).1 (I.ok.bs b o e).2 (I.ok.nofr e) (I.ok.noex b o e),I.base.free b o (I.ok.bs b o e).1 (I.ok.bs b o e).2 (I.ok.noex b o e)⟩
theorem ay.bk (I:ay X pins σ H s):∀ b o,X.base.get? b=some o->s.heap.get? b=some o:=λb o e=>(I.bs b o e).1
theorem ay.mod (I:ay X pins σ H s):Mod X.K X.mg X.base:=I.ok.mod
theorem ay.kIn (I:ay X pins σ H s):X.K.In s.heap:=I.ok.mod.kin.keeps I.bk
theorem ay.nolimit (I:ay X pins σ H s):s.heap.NoLimit:=I.ok.mod.nolimit.keeps I.bk
theorem ay.lt (I:ay X pins σ H s):X.env.locals < s.heap.objs.size:=let ⟨_,hn,_⟩:=I.loc; hn.lt
theorem ay.sz (I:ay X pins σ H s):X.s₀.heap.objs.size<=s.heap.objs.size:=QH I.ok.above (Nat.le_of_lt I.lt)
theorem ay.nofs (I:ay X pins σ H s) {a:Addr} (h:s.heap.objs.size<=a):a∉X.fs:=λhb=>by
 obtain⟨_,o,ho,_⟩:=I.ok.funs.mem hb;exact absurd (Qb (P2 ho) (QH I.sz h)) (QX _)
theorem ay.cne (I:ay X pins σ H s):∀ x c,X.env.cells.lookup x=some c->c≠X.env.locals:=λx c e z=>by
 obtain⟨v,o,ho,hd⟩:=I.cell x c e;obtain⟨m,⟨o',es,ep,ho',hd',_⟩,_⟩:=I.loc;rw [z,ho'] at ho; cases ho; rw [hd'] at hd; cases hd
theorem ay.funs (I:ay X pins σ H s):s.heap.FunFrames X.base X.outer:=by
 have all:∀ (l:List Env),(∀ b∈kS l,b∈X.fs)->X.s₀.heap.FunFrames X.base l->s.heap.FunFrames X.base l:=by
  intro l
  induction l with
  | nil=>intro _ _; trivial
  | cons env r ih=>
   intro hs hl;obtain⟨hk,⟨L,o,hf,hn,ho,hd⟩,hr⟩:=hl;have hL:L∈X.fs:=hs L (by unfold kS; rw [List.filterMap_cons,hf]; exact P_)
   obtain⟨sl,e⟩:=I.base.slot L o ho (I.ok.frf L hL) hL λz=>I.ok.exfs L z hL
   exact⟨hk,⟨L,_,hf,hn,e,hd⟩,ih (λb hb=>hs b (by unfold kS; rw [List.filterMap_cons,hf]; exact Qa _ hb)) hr⟩
 exact all X.outer (λ_ hb=>hb) I.ok.funs
theorem ay.stack (I:ay X pins σ H s):s.heap.FunFrames X.base X.stack:=by
 rcases I.ok.stk with e | ⟨e,hf⟩
 ·rw [e]; exact I.funs
 ·rw [e];obtain⟨m,hn,_⟩:=I.loc;refine .cons (by rw [I.ok.kind]; decide) hf hn ?_ I.funs
  exact Heap.get?_none_of_le (QH I.ok.bsz I.ok.above)
theorem ay.stkSub (I:ay X pins σ H s):∀ b∈kS X.stack,b∈X.env.locals::X.fs:=λb hb=>by
 rcases I.ok.stk with e | ⟨e,hf⟩
 ·rw [e] at hb; exact Qa _ hb
 ·rw [e] at hb;unfold kS at hb;rw [List.filterMap_cons,hf] at hb;exact hb
theorem ay.stkFree (I:ay X pins σ H s):∀ b∈kS X.stack,H b=none:=λb hb=>by
 rcases P8.mp (I.stkSub b hb) with e | hb
 ·rw [e]; exact I.free
 ·obtain⟨_,o,ho,_⟩:=I.ok.funs.mem hb;exact I.base.free b o ho (I.ok.frf b hb) λz=>I.ok.exfs b z hb
theorem ay.step {g':Array GenState} {t':Nat} {d':Drawn} {ch:List Addr} (I:ay X pins σ H s)
  (hch:∀ b∈ch,(b∈X.ex\/X.s₀.heap.objs.size<=b)/\b≠X.env.locals/\(∀ x c,X.env.cells.lookup x=some c->c≠b)/\∀ p∈X.pn++pins,p.1≠b)
  (keep:∀ b o,b≠X.env.locals->b∉X.fs->b∉ch->s.heap.get? b=some o->H b=none->h'.get? b=some o)
  (slot:∀ b o,b≠X.env.locals->b∈X.fs->b∉ch->s.heap.get? b=some o->H b=none->∃ sl,h'.get? b=some {o with slots:=sl}) (free:∀ b o,b∉ch->s.heap.get? b=some o->H b=none->H' b=none)
  (there:∀ b o,b∉ch->s.heap.get? b=some o->∃ o',h'.get? b=some o')
  (tups:∀ b xs,H b=some (.tup xs)->H' b=some (.tup xs)) (frzs:∀ b o u,H b=some (.frz o u)->H' b=some (.frz o u)) (tbls:∀ b ps,H b=some (.tbl ps)->∃ more,H' b=some (.tbl (ps++more)))
  (ns:∀ m,s.heap.Ns X.env.locals m->h'.Ns X.env.locals m) (hok:mQ X.prog X.w H' h') (hg:AllBare g'):
  ay X pins σ H' {s with heap:=h',gens:=g',drawn:=d',toks:=t'}:=by
 have neL:∀ b o,X.s₀.heap.get? b=some o->b≠X.env.locals:=λb o e=>P9 (Qb (P2 e) I.ok.above)
 have neC:∀ b o,X.s₀.heap.get? b=some o->b∉X.ex->b∉ch:=λb o e hx hb=>by
  rcases(hch b hb).1 with z | z
  ·exact hx z
  ·exact absurd (Qb (P2 e) z) (QX _)
 have cellK:∀ x c,X.env.cells.lookup x=some c->∀ v,s.heap.IsCell c v->h'.IsCell c v:=λx c e v ⟨o,ho,hd⟩=>by
  have nch:c∉ch:=λz=>(hch c z).2.2.1 x c e rfl
  by_cases hc:c∈X.fs
  ·obtain⟨sl,q⟩:=slot c o (I.cne x c e) hc nch ho (I.freeC x c e);exact⟨_,q,hd⟩
  ·exact⟨o,keep c o (I.cne x c e) hc nch ho (I.freeC x c e),hd⟩
 refine⟨I.ok,I.os,hg,⟨λb o e n hb hx=>?_,λb o e n hb hx=>?_,λb o e n hx=>?_,λb o e hx=>?_,λb xs e=>tups b xs (I.base.tups b xs e),λb o xs e=>frzs b o xs (I.base.frzs b o xs e),λb ps e=>?_⟩,?_,λx c e=>?_,?_,λx c e=>?_,λp hp=>?_,hok,I.len⟩
 ·exact keep b o (neL b o e) hb (neC b o e hx) (I.base.keep b o e n hb hx) (I.base.free b o e n hx)
 ·obtain⟨sl,e1⟩:=I.base.slot b o e n hb hx;obtain⟨sl',e2⟩:=slot b _ (neL b o e) hb (neC b o e hx) e1 (I.base.free b o e n hx);exact⟨sl',e2⟩
 ·obtain⟨o',e1⟩:=I.base.there b o e hx;exact free b o' (neC b o e hx) e1 (I.base.free b o e n hx)
 ·obtain⟨o',e1⟩:=I.base.there b o e hx;exact there b o' (neC b o e hx) e1
 ·obtain⟨m1,e1⟩:=I.base.tbls b ps e;obtain⟨m2,e2⟩:=tbls b _ e1;exact⟨m1++m2,by rw [e2,Array.append_assoc]⟩
 ·obtain⟨m,hn,hl⟩:=I.loc;refine⟨m,ns m hn,λi x v e1 e2 e3=>?_⟩
  obtain⟨u,r,l⟩:=hl i x v e1 e2 e3;refine⟨u,r,?_⟩;rcases l with l | ⟨k,c,e,z⟩
  ·exact .inl l
  ·exact .inr ⟨k,c,e,cellK x c e _ z⟩
 ·obtain⟨v,z⟩:=I.cell x c e;exact⟨v,cellK x c e v z⟩
 ·obtain⟨m,⟨o,_,_,ho,_⟩,_⟩:=I.loc;exact free _ o (λz=>(hch _ z).2.1 rfl) ho I.free
 ·obtain⟨v,o,ho,hd⟩:=I.cell x c e;exact free c o (λz=>(hch c z).2.2.1 x c e rfl) ho (I.freeC x c e)
 ·obtain⟨e,n,ne,nf,d⟩:=I.pin p hp;have nch:p.1∉ch:=λz=>(hch p.1 z).2.2.2 p hp rfl
  exact⟨keep p.1 p.2 ne nf nch e n,free p.1 p.2 nch e n,ne,nf,d⟩
theorem ay.un {t':Nat} (I:ay X pins σ H s) (u:Un X.fs [] H H' s.heap h') (hok:mQ X.prog X.w H' h'):ay X pins σ H' {s with heap:=h',toks:=t'}:=by
 obtain⟨m,⟨o,es,ep,ho,r⟩,_⟩:=id I.loc;obtain⟨sl,hL⟩:=u.any ho I.free (by simp)
 exact I.step (g':=s.gens) (d':=s.drawn) (ch:=[]) (λ_ z=>nomatch z) (λb o _ hb _ e n=>u.keep b o e n hb (by simp)) (λb o _ hb _ e n=>u.slot b o e n hb (by simp)) (λb o _ e n=>u.free b o e n (by simp)) (λb o _ e=>u.there b o e (by simp)) u.tups u.frzs u.tbls (λm' hm=>by
  obtain⟨o',es',ep',ho',r'⟩:=hm;rw [ho] at ho'; cases ho'
  exact⟨_,es',ep',hL,r'⟩) hok I.bare
theorem ay.call {g':Array GenState} {t':Nat} {d':Drawn} {ch:List Addr} (I:ay X pins σ H s) (u:Un (kS X.stack) ch H H' s.heap h') (hok:mQ X.prog X.w H' h') (hg:AllBare g')
  (hch:∀ b∈ch,(b∈X.ex\/X.s₀.heap.objs.size<=b)/\b≠X.env.locals/\(∀ x c,X.env.cells.lookup x=some c->c≠b)/\∀ p∈X.pn++pins,p.1≠b):
  ay X pins σ H' {s with heap:=h',gens:=g',drawn:=d',toks:=t'}:=by
 obtain⟨m,⟨o,es,ep,ho,r⟩,_⟩:=id I.loc;obtain⟨sl,hL⟩:=u.any ho I.free λz=>(hch _ z).2.1 rfl
 exact I.step (ch:=ch) hch (λb o hL hb hc e n=>u.keep b o e n (λz=>(P8.mp (I.stkSub b z)).elim hL hb) hc) (λb o _ _ hc e n=>u.any e n hc) (λb o hc e n=>u.free b o e n hc) (λb o hc e=>u.there b o e hc) u.tups u.frzs u.tbls (λm' hm=>by
  obtain⟨o',es',ep',ho',r'⟩:=hm;rw [ho] at ho'; cases ho'
  exact⟨_,es',ep',hL,r'⟩) hok hg
theorem ay.turned {t':Nat} {it:Addr} (I:ay X pins σ H s) (k:∀ b o,b≠it->s.heap.get? b=some o->h'.get? b=some o) (hn:H it=none) (hL:it≠X.env.locals)
  (h1:it∈X.ex\/X.s₀.heap.objs.size<=it) (h2:∀ x c,X.env.cells.lookup x=some c->c≠it) (h3:∀ p∈X.pn++pins,p.1≠it):ay X pins σ H {s with heap:=h',toks:=t'}:=by
 have nit:∀ b u,H b=some u->b≠it:=λb u e z=>by rw [z,hn] at e; cases e
 refine I.step (g':=s.gens) (d':=s.drawn) (ch:=[it]) (λb hb=>?_) (λb o _ _ hc e _=>k b o (λz=>hc (by simp [z])) e) (λb o _ _ hc e _=>⟨o.slots,k b o (λz=>hc (by simp [z])) e⟩) (λ_ _ _ _ n=>n)
  (λb o hc e=>⟨o,k b o (λz=>hc (by simp [z])) e⟩) (λ_ _ e=>e) (λ_ _ _ e=>e) (λb ps e=>⟨#[],by rw [e]; simp⟩) (λm hm=>?_) (λb u e=>?_) I.bare
 ·have e:b=it:=by simpa using hb
  subst e;exact⟨h1,hL,h2,h3⟩
 ·obtain⟨o,es,ep,ho,r⟩:=hm;exact⟨o,es,ep,k _ o (Ne.symm hL) ho,r⟩
 ·refine(I.hok b u e).stay (λc v hc q=>k c v ?_ q) (λ_ q=>q) λ_ _ q=>q
  rcases hc with z | z
  ·rw [z]; exact nit b u e
  ·exact nit c _ z
theorem ay.tok (I:ay X pins σ H s) (t:Nat):ay X pins σ H {s with toks:=t}:=I.un (h':=s.heap) (t':=t) Un.refl I.hok
theorem ay.kept {t':Nat} (I:ay X pins σ H s) (k:∀ b u,s.heap.get? b=some u->h'.get? b=some u):ay X pins σ H {s with heap:=h',toks:=t'}:=I.un (Un.kept k) (I.hok.kept k)
theorem ay.laid {a:Addr} {o:HO} {t':Nat} (I:ay X pins σ H s) (k:∀ b u,s.heap.get? b=some u->h'.get? b=some u) (hp:s.heap.objs.size<=a) (new:dc X.prog X.w (bz H a o) h' a o):
  ay X pins σ (bz H a o) {s with heap:=h',toks:=t'}:=I.un (Un.laid k hp (I.hok.fresh hp)) (I.hok.laid k hp new)
theorem ay.write {x e:Addr} {o:HO} {t':Nat} (I:ay X pins σ H s) (mu:LI (H x)) (he:e=x\/H e=some (.own x)) (k:∀ b u,b≠e->s.heap.get? b=some u->h'.get? b=some u) (heo:∃ u,h'.get? e=some u)
  (new:dc X.prog X.w (bz H x o) h' x o):ay X pins σ (bz H x o) {s with heap:=h',toks:=t'}:=I.un (Un.write mu he k heo) (I.hok.write mu he k heo new)
theorem ay.pins_of {pins':List (Addr×Obj)} (I:ay X pins σ H s) (h:∀ p∈pins',s.heap.get? p.1=some p.2/\H p.1=none/\p.1≠X.env.locals/\p.1∉X.fs/\∀ v,p.2.data≠.cell v):ay X pins' σ H s:=
 ⟨I.ok,I.os,I.bare,I.base,I.loc,I.cell,I.free,I.freeC,λp hp=>(List.mem_append.mp hp).elim (λz=>I.pin p (List.mem_append_left _ z)) (h p),I.hok,I.len⟩
theorem xH {N:List Str} (hN:N.Nodup) {i j:Nat} {x:Str} (a:N[i]?=some x) (b:N[j]?=some x):i=j:=by
 obtain⟨h1,e1⟩:=QD.mp a;obtain⟨h2,e2⟩:=QD.mp b;exact(List.getElem_inj hN).mp (e1.trans e2.symm)
theorem BR {M:Model} {A:Around} {E:Value->Shared->Prop} {i:Nat} {x:Str} {v:V} {u:Value} {Q:Unit->Shared->Prop} (I:ay X pins σ H s) (hN:X.N.Nodup) (hi:X.N[i]?=some x) (hx:FY X.env.scope x) (r:aS v u)
  (h:∀ s',ay X pins (σ.set i (some v)) H s'->(∃ a,Heap.SameBut a s.heap s'.heap/\(a=X.env.locals\/X.env.cells.lookup x=some a))->Q () s') (hf:X.fn x=true\/X.env.scope.names.lookup x=some .local:=by first | exact .inl rfl | exact .inr rfl | assumption):wpAny M A (storeName X.env x u) Q E s:=by
 obtain⟨m,hn,hl⟩:=id I.loc;have hcls:(X.env.scope.kind == .class || (X.env.scope.kind == .module && X.env.locals != X.env.globals))=false:=by rw [I.ok.kind]; rfl
 have hiσ:i < σ.length:=by rw [I.len]; exact(QD.mp hi).1
 have cne:=I.cne;have tracked:∀ {a:Addr} {h':Heap},(∃ o,s.heap.get? a=some o/\H a=none)->Heap.SameBut a s.heap h'->mQ X.prog X.w H h':=λ{a h'} ha hs b ob e=>by
  obtain⟨_,_,hfree⟩:=ha;refine(I.hok b ob e).stay (λc w' hc q=>(hs.2 c ?_).trans q) (λ_ q=>q) λ_ _ q=>q
  rintro rfl;rcases hc with rfl | hc
  ·rw [hfree] at e; cases e
  ·rw [hfree] at hc; cases hc
 rcases hx with hk | hk
 ·refine wpAny_storeName_local hk hn (λh' hn' hs=>?_) hcls
  obtain⟨oL,_,_,hoL,_⟩:=id hn;refine h _ ⟨I.ok,I.os,I.bare,⟨λb o e n hb hx=>?_,λb o e n hb hx=>?_,I.base.free,λb o e hx=>?_,I.base.tups,I.base.frzs,I.base.tbls⟩,⟨_,hn',λj y v' e1 e2 e3=>?_⟩,λy c e=>?_,I.free,I.freeC,λp hp=>?_,tracked ⟨oL,hoL,I.free⟩ hs,by simpa using I.len⟩ ⟨_,hs,.inl rfl⟩
  ·exact(hs.2 b (P9 (Qb (P2 e) I.ok.above))).trans (I.base.keep b o e n hb hx)
  ·obtain⟨sl,e1⟩:=I.base.slot b o e n hb hx;exact⟨sl,(hs.2 b (P9 (Qb (P2 e) I.ok.above))).trans e1⟩
  ·obtain⟨o',e1⟩:=I.base.there b o e hx;exact⟨o',(hs.2 b (P9 (Qb (P2 e) I.ok.above))).trans e1⟩
  ·by_cases hj:j=i
   ·subst hj;rw [hi] at e1; cases e1
    rw [List.getElem?_set_self hiσ] at e2;cases e2;exact⟨u,r,.inl ⟨hk,by simp⟩⟩
   ·rw [List.getElem?_set_ne (Ne.symm hj)] at e2;obtain⟨u',r',q⟩:=hl j y v' e1 e2 e3;refine⟨u',r',?_⟩;rcases q with ⟨k,e⟩ | ⟨k,c,e,z⟩
    ·refine .inl ⟨k,?_⟩;have:y≠x:=λe=>hj (xH hN e1 (e▸hi))
     simp [this,e]
    ·exact .inr ⟨k,c,e,z.sameBut hs (cne y c e)⟩
  ·obtain⟨w',z⟩:=I.cell y c e;exact⟨w',z.sameBut hs (cne y c e)⟩
  ·obtain⟨e,n,ne,nf,d⟩:=I.pin p hp;exact⟨(hs.2 p.1 ne).trans e,n,ne,nf,d⟩
 ·have hfn:X.fn x=true:=by
   rcases hf with z | z
   ·exact z
   ·rw [z] at hk; cases hk
  obtain⟨c,hc⟩:=I.ok.has x (.inl hk);obtain⟨w',z⟩:=I.cell x c hc;refine wpAny_storeName_cell I.ok.kind hk hc z (λh' hc' hs=>?_)
  obtain⟨oc,hoc,hocd⟩:=id z;refine h {s with heap:=h'} ⟨I.ok,I.os,I.bare,⟨λb o e n hb hx=>?_,λb o e n hb hx=>?_,I.base.free,λb o e hx=>?_,I.base.tups,I.base.frzs,I.base.tbls⟩,⟨m,hn.sameBut hs (Ne.symm (cne x c hc)),λj y v' e1 e2 e3=>?_⟩,λy c' e=>?_,I.free,I.freeC,λp hp=>?_,tracked ⟨oc,hoc,I.freeC x c hc⟩ hs,by simpa using I.len⟩ ⟨c,hs,.inr hc⟩
  ·exact(hs.2 b (P9 (Qb (P2 e) (I.ok.cab x c hfn hc)))).trans (I.base.keep b o e n hb hx)
  ·obtain⟨sl,e1⟩:=I.base.slot b o e n hb hx;exact⟨sl,(hs.2 b (P9 (Qb (P2 e) (I.ok.cab x c hfn hc)))).trans e1⟩
  ·obtain⟨o',e1⟩:=I.base.there b o e hx;exact⟨o',(hs.2 b (P9 (Qb (P2 e) (I.ok.cab x c hfn hc)))).trans e1⟩
  ·by_cases hj:j=i
   ·subst hj;rw [hi] at e1; cases e1
    rw [List.getElem?_set_self hiσ] at e2;cases e2;exact⟨u,r,.inr ⟨.inl hk,c,hc,hc'⟩⟩
   ·rw [List.getElem?_set_ne (Ne.symm hj)] at e2;obtain⟨u',r',q⟩:=hl j y v' e1 e2 e3;refine⟨u',r',?_⟩;rcases q with q | ⟨k,c',e,z'⟩
    ·exact .inl q
    ·refine .inr ⟨k,c',e,z'.sameBut hs ?_⟩;rintro rfl;exact hj (xH hN e1 (I.ok.inj _ _ _ e hc▸hi))
  ·by_cases hcc:c'=c
   ·subst hcc; exact⟨_,hc'⟩
   ·obtain⟨w2,z2⟩:=I.cell y c' e;exact⟨w2,z2.sameBut hs hcc⟩
  ·obtain⟨e,n,ne,nf,d⟩:=I.pin p hp;refine⟨(hs.2 p.1 ?_).trans e,n,ne,nf,d⟩;intro q;rw [q,hoc] at e;have q':oc=p.2:=Qx e;exact d w' (by rw [<- q']; exact hocd)
theorem mt {M:Model} {A:Around} {E:Value->Shared->Prop} {i:Nat} {x:Str} {v:V} {u:Value} {Q:Unit->Shared->Prop} (I:ay X pins σ H s) (hN:X.N.Nodup) (hi:X.N[i]?=some x) (hx:FY X.env.scope x) (r:aS v u)
  (h:∀ s',ay X pins (σ.set i (some v)) H s'->Q () s') (hf:X.fn x=true\/X.env.scope.names.lookup x=some .local:=by first | exact .inl rfl | exact .inr rfl | assumption):wpAny M A (storeName X.env x u) Q E s:=
 BR I hN hi hx r (λs' I' _=>h s' I') hf
theorem ay.call' {s':Shared} {ch:List Addr} (I:ay X pins σ H s) (ho:s'.os=s.os) (u:Un (kS X.stack) ch H H' s.heap s'.heap) (hok:mQ X.prog X.w H' s'.heap) (hg:AllBare s'.gens)
  (hch:∀ b∈ch,(b∈X.ex\/X.s₀.heap.objs.size<=b)/\b≠X.env.locals/\(∀ x c,X.env.cells.lookup x=some c->c≠b)/\∀ p∈X.pn++pins,p.1≠b):ay X pins σ H' s':=by
 obtain⟨h',g',d',t',o'⟩:=s';have e:o'=s.os:=ho;subst e;exact I.call (g':=g') (t':=t') (d':=d') u hok hg hch
end
abbrev XK:=Value->Option Addr->Hp->Prop
abbrev St:=List (Option V)
abbrev VK:=V->Hp->Prop
abbrev TE:=St->Hp->VK->Prop
abbrev TT:=St->Hp->(Bool->Hp->Prop)->Prop
abbrev TA:=St->Hp->(List V->Hp->Prop)->Prop
structure qR where
 nx:St->Hp->Prop
 rt:VK
 bk:St->Hp->Prop:=λ_ _=>False
 ct:St->Hp->Prop:=λ_ _=>False
abbrev TS:=qR->St->Hp->Prop
def EP (X:Cx) (pins:List (Addr×Obj)) (σ:St) (Q:VK) (u:Value) (s':Shared):Prop:=∃ v H',ay X pins σ H' s'/\aS v u/\Q v H'
def TP (X:Cx) (pins:List (Addr×Obj)) (σ:St) (Q:Bool->Hp->Prop) (b:Bool) (s':Shared):Prop:=∃ H',ay X pins σ H' s'/\Q b H'
def AP (X:Cx) (pins:List (Addr×Obj)) (σ:St) (Q:List V->Hp->Prop) (us:List Value) (s':Shared):Prop:=∃ vs H',ay X pins σ H' s'/\a_ vs us/\Q vs H'
def SP (X:Cx) (pins:List (Addr×Obj)) (D:qR) (f:Flow) (s':Shared):Prop:=
 match f with
 | .next=>∃ σ' H',ay X pins σ' H' s'/\D.nx σ' H'
 | .brk=>∃ σ' H',ay X pins σ' H' s'/\D.bk σ' H'
 | .cont=>∃ σ' H',ay X pins σ' H' s'/\D.ct σ' H'
 | .ret u=>∃ v σ' H',ay X pins σ' H' s'/\aS v u/\D.rt v H'
def PE (X:Cx) (e:Expr) (t:TE):Prop:=
 ∀ (pins:List (Addr×Obj)) (s:Shared) (σ:St) (H:Hp) (Q:VK),ay X pins σ H s->t σ H Q->wpAny (model X.prog X.w) X.A (eval e X.env) (EP X pins σ Q) X.xe s
def PT (X:Cx) (e:Expr) (t:TT):Prop:=
 ∀ (pins:List (Addr×Obj)) (s:Shared) (σ:St) (H:Hp) (Q:Bool->Hp->Prop),ay X pins σ H s->t σ H Q->wpAny (model X.prog X.w) X.A (isTrue e X.env (eval e X.env)) (TP X pins σ Q) X.xe s
def PW (X:Cx) (e:Expr) (t:TT):Prop:=
 ∀ (whole:Sem Value) (pins:List (Addr×Obj)) (s:Shared) (σ:St) (H:Hp) (Q:Bool->Hp->Prop),ay X pins σ H s->t σ H Q->wpAny (model X.prog X.w) X.A (isTrue e X.env whole) (TP X pins σ Q) X.xe s
theorem PW.pt {X:Cx} {e:Expr} {t:TT} (h:PW X e t):PT X e t:=h _
def PA (X:Cx) (es:List Expr) (t:TA):Prop:=
 ∀ (pos:Pos) (pins:List (Addr×Obj)) (s:Shared) (σ:St) (H:Hp) (Q:List V->Hp->Prop),ay X pins σ H s->t σ H Q->wpAny (model X.prog X.w) X.A (spliced (backTo pos (starEach es X.env))) (AP X pins σ Q) X.xe s
def PS (X:Cx) (st:Stmt) (t:TS):Prop:=
 ∀ (pins:List (Addr×Obj)) (s:Shared) (σ:St) (H:Hp) (D:qR),ay X pins σ H s->t D σ H->wpAny (model X.prog X.w) X.A (exec st X.env) (SP X pins D) X.xe s
def oA (X:Cx) (st:List Stmt) (t:TS):Prop:=
 ∀ (pins:List (Addr×Obj)) (s:Shared) (σ:St) (H:Hp) (D:qR),ay X pins σ H s->t D σ H->wpAny (model X.prog X.w) X.A (execs st X.env) (SP X pins D) X.xe s
theorem b9 {α:Type} {t:Sem α} {Q Q':α->Shared->Prop} {M:Model} {A:Around} {E:Value->Shared->Prop} {s:Shared} (h:wpAny M A t Q E s) (hQ:∀ a s,Q a s->Q' a s):wpAny M A t Q' E s:=QE h hQ λ_ _ x=>x
section
variable {X:Cx}
def ON (i:Nat):TE:=fun σ H Q=>∃ v,σ[i]?=some (some v)/\Q v H
def tC (v:V):TE:=λ_ H Q=>Q v H
theorem K9 {i:Nat} {x:Str} {pos:Pos} (hN:X.N[i]?=some x) (hv:Ny X.env.scope x) (hd:(x == ("__debug__":Str))=false:=by decide) (hcd:(x == ("__classdict__":Str))=false:=by decide):PE X (.Name x pos) (ON i):=by
 intro pins s σ H Q I h;obtain⟨v,e,h⟩:=h;obtain⟨m,hn,hl⟩:=I.loc;obtain⟨u,r,l⟩:=hl i x v hN e hv;have fin:EP X pins σ Q u s:=⟨v,H,I,r,h⟩;rcases l with ⟨hk,hm⟩ | ⟨hk,c,hc,hcell⟩
 ·exact wpAny_Name (wpAny_loadName_local I.ok.kind hk hn hm fin) hd
 ·rcases hk with hk | hk
  ·exact wpAny_Name (wpAny_loadName_cell I.ok.kind hk hc hcell fin) hd
  ·exact wpAny_Name (wpAny_loadName_free I.ok.kind hk hc hcell fin hcd) hd
theorem J9 {i j pos}:PE X (.Constant (.int i) j pos) (tC (.int i)):=λ_ _ _ H _ I h=>wpAny_Constant_int ⟨.int i,H,I.tok _,⟨_,rfl⟩,h⟩
theorem Nd {b j pos}:PE X (.Constant (.bool b) j pos) (tC (.bl b)):=λ_ _ _ H _ I h=>Constant_bool ⟨.bl b,H,I,rfl,h⟩
theorem J5 {j pos}:PE X (.Constant .none j pos) (tC .non):=λ_ _ _ H _ I h=>Constant_none ⟨.non,H,I,rfl,h⟩
theorem KF {x j pos}:PE X (.Constant (.str x) j pos) (tC (.str x)):=λ_ _ _ H _ I h=>Calls.Constant_str ⟨.str x,H,I.tok _,⟨_,rfl⟩,h⟩
def Gl (X:Cx) (x:Str):Prop:=X.env.kindOf x=some .globalImplicit
theorem pc {E:Value->Shared->Prop} {pins:List (Addr×Obj)} {s:Shared} {σ:St} {H:Hp} {x:Str} {u:Value} {pos:Pos} {Q:Value->Shared->Prop} (I:ay X pins σ H s) (hg:Gl X x) (hm:X.mg x=some u) (h:Q u s)
  (hd:(x == ("__debug__":Str))=false:=by decide):wpAny (model X.prog X.w) X.A (eval (.Name x pos) X.env) Q E s:=
 Calls.Name_function_global I.ok.kind hg (Calls.loadGlobal_global (by rw [I.ok.glob]; exact I.mod.glob.keeps I.bk) hm h) hd
theorem sI {E:Value->Shared->Prop} {pins:List (Addr×Obj)} {s:Shared} {σ:St} {H:Hp} {x:Str} {u:Value} {pos:Pos} {Q:Value->Shared->Prop} (I:ay X pins σ H s) (hg:Gl X x) (hm:X.mg x=none) (hv:bootBuiltins x=some u) (h:Q u s)
  (hn:x≠"__name__":=by decide) (hd:(x == ("__debug__":Str))=false:=by decide):wpAny (model X.prog X.w) X.A (eval (.Name x pos) X.env) Q E s:=by
 obtain⟨mb,h1,h2⟩:=I.mod.blt;exact Calls.Name_function_global I.ok.kind hg (Calls.loadGlobal_builtin (by rw [I.ok.glob]; exact I.mod.glob.keeps I.bk) hm (by rw [I.ok.blt]; exact h1.keeps I.bk) ((h2 x hn).trans hv) h) hd
theorem AU {x:Str} {v:V} {u:Value} {pos:Pos} (hg:Gl X x) (hm:X.mg x=some u) (r:aS v u) (hd:(x == ("__debug__":Str))=false:=by decide):PE X (.Name x pos) (tC v):=
 λ_ _ _ H _ I h=>pc I hg hm ⟨v,H,I,r,h⟩ hd
variable {a b:Expr} {ta tb:TE} {pos:Pos}
def tB (t:TE):TT:=fun σ H Q=>t σ H λx H1=>∃ c,x=.bl c/\Q c H1
theorem KQ {e:Expr} {t:TE} (h:PE X e t) (he:∀ whole,isTrue e X.env whole=(do let v <- whole; standAt e.pos; holding [v] (truthy v)):=by intro _; rfl):PT X e (tB t):=by
 intro pins s σ H Q I hw;refine isTrue_plain (b9 (h pins s σ H _ I hw) λv s1 ⟨x,H1,I1,r1,q1⟩=>?_) (he _)
 obtain⟨d,rfl,q⟩:=q1;cases r1;exact wpAny_truthy_bool ⟨H1,I1,q⟩
variable {tA tB':TT} {aw:List Expr}
def NX (t u:TT):TT:=fun σ H Q=>t σ H λc H1=>if c=true then u σ H1 Q else Q false H1
def Pt (t u:TT):TT:=fun σ H Q=>t σ H λc H1=>if c=true then Q true H1 else u σ H1 Q
def OG (t:TT):TT:=fun σ H Q=>t σ H λc H1=>Q (!c) H1
theorem GO (ha:PT X a tA):PW X (.BoolOp .And [a] pos) tA:=by
 intro wh pins s σ H Q I h;refine isTrue_and (b9 (ha pins s σ H Q I h) λc s1 e=>?_)
 cases c with
 | true=>exact isTrue_and_nil e
 | false=>exact e
theorem Kl (ha:PT X a tA):PW X (.BoolOp .Or [a] pos) tA:=by
 intro wh pins s σ H Q I h;refine isTrue_or (b9 (ha pins s σ H Q I h) λc s1 e=>?_)
 cases c with
 | false=>exact isTrue_or_nil e
 | true=>exact e
theorem Kq (ha:PT X a tA) (hb:PW X (.BoolOp .And (b::aw) pos) tB'):PW X (.BoolOp .And (a::b::aw) pos) (NX tA tB'):=by
 intro wh pins s σ H Q I h;refine isTrue_and (b9 (ha pins s σ H _ I h) λc s1 ⟨H1,I1,q1⟩=>?_)
 cases c with
 | true=>exact hb wh pins s1 σ H1 Q I1 q1
 | false=>exact⟨H1,I1,q1⟩
theorem MB (ha:PT X a tA) (hb:PW X (.BoolOp .Or (b::aw) pos) tB'):PW X (.BoolOp .Or (a::b::aw) pos) (Pt tA tB'):=by
 intro wh pins s σ H Q I h;refine isTrue_or (b9 (ha pins s σ H _ I h) λc s1 ⟨H1,I1,q1⟩=>?_)
 cases c with
 | true=>exact⟨H1,I1,q1⟩
 | false=>exact hb wh pins s1 σ H1 Q I1 q1
theorem J7 (ha:PT X a tA):PT X (.UnaryOp .Not a pos) (OG tA):=by
 intro pins s σ H Q I h;exact isTrue_not (ha pins s σ H (λc H1=>Q (!c) H1) I h)
def PN (t:TT) (ta tb:TE):TE:=fun σ H Q=>t σ H λc H1=>if c=true then ta σ H1 Q else tb σ H1 Q
theorem EH {c:Expr} (hc:PT X c tA) (ha:PE X a ta) (hb:PE X b tb):PE X (.IfExp c a b pos) (PN tA ta tb):=by
 intro pins s σ H Q I h;refine wpAny_IfExp (b9 (hc pins s σ H _ I h) λd s1 ⟨H1,I1,q1⟩=>?_)
 cases d with
 | true=>exact ha pins s1 σ H1 Q I1 q1
 | false=>exact hb pins s1 σ H1 Q I1 q1
end
def jD (K:PySem.W.Frag) (H:Hp) (a:Addr) (xs:List V):Prop:=
 Rd H a (.lst xs)\/
  ∃ (o:Obj) (its:Array Value) (n:Nat),K.lookup a=some o/\o.cls=.type "list"/\o.dict=none/\o.data=.seq its n/\its.size<=sizeLine/\a_ xs its.toList
def m9 (K:PySem.W.Frag) (H:Hp) (a:Addr) (xs:List V):Prop:=
 Rd H a (.tup xs)\/
  ∃ (o:Obj) (its:Array Value) (n:Nat),K.lookup a=some o/\o.cls=.type "tuple"/\o.data=.seq its n/\its.size<=sizeLine/\a_ xs its.toList
def OD:Value->Option V
 | .none=>some .non
 | .bool b=>some (.bl b)
 | .int i _=>some (.int i)
 | .str x _=>some (.str x)
 | .bytes b _=>some (.byt b)
 | .float b _=>some (.flt b)
 | .ref a=>some (.ref a)
 | .type n=>some (.ty n)
 | _=>none
theorem aS.abs {x:V} {u:Value} (r:aS x u):OD u=some x:=by
 cases x with
 | non=>cases r; rfl
 | bl _=>cases r; rfl
 | int _=>obtain⟨t,rfl⟩:=r; rfl
 | str _=>obtain⟨t,rfl⟩:=r; rfl
 | byt _=>obtain⟨t,rfl⟩:=r; rfl
 | flt _=>obtain⟨t,rfl⟩:=r; rfl
 | ref _=>cases r; rfl
 | ty _=>cases r; rfl
theorem aS.inj {x y:V} {u:Value} (r:aS x u) (q:aS y u):x=y:=Qx (r.abs.symm.trans q.abs)
theorem a_.inj:∀ {xs ys:List V} {us:List Value},a_ xs us->a_ ys us->xs=ys
 | _,_,_,.nil,.nil=>rfl
 | _,_,_,.cons r t,.cons r' t'=>by rw [r.inj r',a_.inj t t']
section
variable {X:Cx} {pins:List (Addr×Obj)} {σ:St} {H:Hp} {s:Shared} {a:Addr} {xs ys:List V}
theorem jD.of {K:PySem.W.Frag} (h:H a=some (.lst xs)):jD K H a xs:=.inl (.inl h)
theorem m9.of {K:PySem.W.Frag} (h:H a=some (.tup xs)):m9 K H a xs:=.inl (.inl h)
theorem ay.list (I:ay X pins σ H s) (h:jD X.K H a xs):∃ its:List Value,a_ xs its/\PlainL s.heap a its.toArray/\xs.length<=sizeLine:=by
 rcases h with h | ⟨o,its,n,hk,hc,hd,hs,hz,r⟩
 ·obtain⟨z,its,n,r,e⟩:=h.ok I.hok;exact⟨its,r,⟨_,n,e,rfl,rfl,rfl⟩,z⟩
 ·refine⟨its.toList,r,⟨o,n,I.kIn a o hk,hc,hd,by simpa using hs⟩,?_⟩
  have e:=r.length;simp only [Q6] at e;omega
theorem ay.tuple (I:ay X pins σ H s) (h:m9 X.K H a xs):∃ its:List Value,a_ xs its/\IsTup s.heap a its.toArray/\xs.length<=sizeLine:=by
 rcases h with h | ⟨o,its,n,hk,hc,hs,hz,r⟩
 ·obtain⟨z,its,r,p⟩:=h.ok I.hok;exact⟨its,r,p,z⟩
 ·refine⟨its.toList,r,⟨o,I.kIn a o hk,hc,n,by simpa using hs⟩,?_⟩
  have e:=r.length;simp only [Q6] at e;omega
theorem ay.list_inj (I:ay X pins σ H s) (h:jD X.K H a xs) (h':jD X.K H a ys):xs=ys:=by
 obtain⟨its,r,⟨o,n,e,_,_,d⟩,_⟩:=I.list h;obtain⟨its',r',⟨o',n',e',_,_,d'⟩,_⟩:=I.list h';rw [e] at e'; cases e'
 rw [d] at d';injection d' with d1 _
 have:its=its':=by simpa using congrArg Array.toList d1
 subst this;exact r.inj r'
theorem ay.tuple_inj (I:ay X pins σ H s) (h:m9 X.K H a xs) (h':m9 X.K H a ys):xs=ys:=by
 obtain⟨its,r,⟨o,e,_,n,d⟩,_⟩:=I.tuple h;obtain⟨its',r',⟨o',e',_,n',d'⟩,_⟩:=I.tuple h';rw [e] at e'; cases e'
 rw [d] at d';injection d' with d1 _
 have:its=its':=by simpa using congrArg Array.toList d1
 subst this;exact r.inj r'
end
abbrev Cx.wish (X:Cx) (E:Value->Shared->Prop):Cx:={X with xe:=E}
abbrev Cx.nox (X:Cx):Cx:=X.wish λ_ _=>False
theorem Cx.Ok.wish {X:Cx} (ok:X.Ok) (E:Value->Shared->Prop):(X.wish E).Ok:=
 ⟨ok.mod,ok.kind,ok.glob,ok.blt,ok.above,ok.inj,ok.has,ok.cab,ok.hd,ok.frames,ok.stk,ok.exf,ok.bs,ok.bsz,ok.noex,ok.exfs,ok.funs,ok.frf⟩
theorem Cx.Ok.unwish {X:Cx} {E:Value->Shared->Prop} (ok:(X.wish E).Ok):X.Ok:=
 ⟨ok.mod,ok.kind,ok.glob,ok.blt,ok.above,ok.inj,ok.has,ok.cab,ok.hd,ok.frames,ok.stk,ok.exf,ok.bs,ok.bsz,ok.noex,ok.exfs,ok.funs,ok.frf⟩
section
variable {X:Cx} {pins:List (Addr×Obj)} {σ:St} {H:Hp} {s:Shared} {E:Value->Shared->Prop}
theorem ay.wish (I:ay X pins σ H s) (E:Value->Shared->Prop):ay (X.wish E) pins σ H s:=⟨I.ok.wish E,I.os,I.bare,I.base,I.loc,I.cell,I.free,I.freeC,I.pin,I.hok,I.len⟩
theorem ay.unwish (I:ay (X.wish E) pins σ H s):ay X pins σ H s:=⟨I.ok.unwish,I.os,I.bare,I.base,I.loc,I.cell,I.free,I.freeC,I.pin,I.hok,I.len⟩
theorem SP.unwish {D:qR} {f:Flow} {s':Shared} (h:SP (X.wish E) pins D f s'):SP X pins D f s':=by
 cases f with
 | next=>obtain⟨σ',H',I,q⟩:=h; exact⟨σ',H',I.unwish,q⟩
 | brk=>obtain⟨σ',H',I,q⟩:=h; exact⟨σ',H',I.unwish,q⟩
 | cont=>obtain⟨σ',H',I,q⟩:=h; exact⟨σ',H',I.unwish,q⟩
 | ret u=>obtain⟨v,σ',H',I,r,q⟩:=h; exact⟨v,σ',H',I.unwish,r,q⟩
theorem oA.nox {st:List Stmt} {t:TS} (h:oA X.nox st t):oA X st t:=λpins s σ H D I hw=>
 QE (h pins s σ H D (I.wish _) hw) (λ_ _ q=>q.unwish) λ_ _ z=>False.elim z
end
section
variable {X:Cx} {st:Stmt} {aw:List Stmt} {t u:TS} {e:Expr} {te:TE} {pos:Pos}
def Mm:TS:=λD σ H=>D.nx σ H
def MA (t u:TS):TS:=λD σ H=>t {D with nx:=u D} σ H
theorem Gb:oA X [] Mm:=λ_ _ σ H _ I h=>wpAny_execs_nil ⟨σ,H,I,h⟩
theorem FL (h1:PS X st t) (h2:oA X aw u):oA X (st::aw) (MA t u):=by
 intro pins s σ H D I h;refine wpAny_execs_cons (b9 (h1 pins s σ H {D with nx:=u D} I h) λf s1 q=>?_)
 cases f with
 | next=>
  obtain⟨σ',H',I',q⟩:=q;exact h2 pins s1 σ' H' D I' q
 | ret v=>exact q
 | brk=>exact q
 | cont=>exact q
theorem GS (h1:PS X st t):oA X [st] t:=by
 intro pins s σ H D I h;refine wpAny_execs_cons (b9 (h1 pins s σ H D I h) λf s1 q=>?_)
 cases f with
 | next=>exact wpAny_execs_nil q
 | ret v=>exact q
 | brk=>exact q
 | cont=>exact q
theorem ay.quiet {pins:List (Addr×Obj)} {σ:St} {H:Hp} {s:Shared} (I:ay X pins σ H s):interactive X.env=false:=by simp [interactive,I.ok.kind]
def Nu (te:TE):TS:=λD σ H=>te σ H λ_ H1=>D.nx σ H1
theorem HA (he:PE X e te) (hs:swapsWith e none pos.line X.env=pure false:=by rfl):PS X (.Expr e pos) (Nu te):=by
 intro pins s σ H D I h;exact wpAny_Expr_any (b9 (he pins s σ H _ I h) λv s1 ⟨x,H1,I1,r1,q1⟩=>⟨σ,H1,I1,q1⟩) I.quiet hs
def OO (te:TE):TS:=λD σ H=>te σ H D.rt
theorem JK (he:PE X e te):PS X (.Return (some e) pos) (OO te):=by
 intro pins s σ H D I h;exact wpAny_Return_some (b9 (he pins s σ H _ I h) λv s1 ⟨x,H1,I1,r1,q1⟩=>⟨x,σ,H1,I1,r1,q1⟩)
def Oi (c:TT) (t u:TS):TS:=λD σ H=>c σ H λb H1=>if b=true then t D σ H1 else u D σ H1
theorem Ml {c:Expr} {a b:List Stmt} {tc:TT} (hc:PT X c tc) (ha:oA X a t) (hb:oA X b u):PS X (.If c a b pos) (Oi tc t u):=by
 intro pins s σ H D I h;refine wpAny_If (b9 (hc pins s σ H _ I h) λd s1 ⟨H1,I1,q1⟩=>?_)
 cases d with
 | true=>exact ha pins s1 σ H1 D I1 q1
 | false=>exact hb pins s1 σ H1 D I1 q1
def K8:TS:=λ_ _ _=>False
theorem DF:PS X st K8:=λ_ _ _ _ _ _ h=>h.elim
end
abbrev TG:=V->St->Hp->(St->Hp->Prop)->Prop
abbrev D':=List V->St->Hp->(St->Hp->Prop)->Prop
def PG (X:Cx) (target:Expr) (t:TG):Prop:=
 ∀ (pins:List (Addr×Obj)) (s:Shared) (σ:St) (H:Hp) (v:V) (u:Value) (Q:St->Hp->Prop),ay X pins σ H s->aS v u->t v σ H Q->
  wpAny (model X.prog X.w) X.A (assign target X.env u) (λ_ s'=>∃ σ' H',ay X pins σ' H' s'/\Q σ' H') X.xe s
def Ay (X:Cx) (ts:List Expr) (t:D'):Prop:=
 ∀ (pins:List (Addr×Obj)) (s:Shared) (σ:St) (H:Hp) (vs:List V) (us:List Value) (Q:St->Hp->Prop),ay X pins σ H s->a_ vs us->t vs σ H Q->
  wpAny (model X.prog X.w) X.A (assignInOrder ((assignEach ts X.env).map (·.2)) us) (λ_ s'=>∃ σ' H',ay X pins σ' H' s'/\Q σ' H') X.xe s
abbrev C':=V->V->V->Hp->(Hp->Prop)->Prop
def F9 (X:Cx) (t:C'):Prop:=
 ∀ (pins:List (Addr×Obj)) (s:Shared) (σ:St) (H:Hp) (o i v:V) (ov iv u:Value) (Q:Hp->Prop),ay X pins σ H s->aS o ov->aS i iv->aS v u->t o i v H Q->
  wpAny (model X.prog X.w) X.A (setItem ov iv u) (λ_ s'=>∃ H',ay X pins σ H' s'/\Q H') X.xe s
section
variable {X:Cx} {pos:Pos}
def ve (i:Nat):TG:=λv σ H Q=>Q (σ.set i (some v)) H
theorem Ax {i:Nat} {x:Str} (hN:X.N.Nodup) (hi:X.N[i]?=some x) (hx:FY X.env.scope x) (hf:X.fn x=true\/X.env.scope.names.lookup x=some .local:=by first | exact .inl rfl | exact .inr rfl | assumption):PG X (.Name x pos) (ve i):=by
 intro pins s σ H v u Q I r h;exact wpAny_assign_Name (mt I hN hi hx r (λs' I'=>⟨_,H,I',h⟩) hf)
def NV:D':=λvs σ H Q=>vs=[]/\Q σ H
def MD (t:TG) (u:D'):D':=λvs σ H Q=>∃ v r,vs=v::r/\t v σ H fun σ' H'=>u r σ' H' Q
theorem Hr:Ay X [] NV:=by
 intro pins s σ H vs us Q I r h;obtain⟨e,h⟩:=h;subst e;cases r;exact assignInOrder_nil ⟨σ,H,I,h⟩
theorem D5 {e:Expr} {es:List Expr} {t:TG} {u:D'} (h1:PG X e t) (h2:Ay X es u)
  (hs:(assignEach (e::es) X.env).map (·.2)=assign e X.env::(assignEach es X.env).map (·.2):=by rfl):Ay X (e::es) (MD t u):=by
 intro pins s σ H vs us Q I r h;obtain⟨v,vr,e1,h⟩:=h;subst e1;cases r with
 | cons r rr=>
  rw [hs];refine assignInOrder_cons (b9 (h1 pins s σ H _ _ _ I r h) λ_ s1 ⟨σ1,H1,I1,q1⟩=>?_)
  exact h2 pins s1 σ1 H1 _ _ Q I1 rr q1
def Oo (K:PySem.W.Frag) (n:Nat) (t:D'):TG:=λv σ H Q=>∃ a xs,v=.ref a/\m9 K H a xs/\xs.length=n/\t xs σ H Q
theorem JF {es:List Expr} {k:Nat} {t:D'} {n:Nat} (hc:X.calm=true) (h:Ay X es t)
  (hn:(assignEach es X.env).length=n:=by rfl) (hst:(assignEach es X.env).findIdx? (·.1)=none:=by rfl):PG X (.Tuple es k pos) (Oo X.K n t):=by
 intro pins s σ H v u Q I r hw;obtain⟨a,xs,e1,hq,hl,hw⟩:=hw;subst e1;cases r;obtain⟨its,rv,ht,hz⟩:=I.tuple hq;refine assign_Tuple_tuple (I.ok.hd hc) ht (by simp [hn,<- hl,rv.length]) hst λh' hx=>?_
 have I1:ay X pins σ H {s with heap:=h'}:=I.kept (t':=s.toks) λb o e=>hx b o (P9 (P2 e)) e
 exact h pins _ σ H xs _ Q I1 (by simpa using rv) hw
def NW (to ti:TE) (t:C'):TG:=λv σ H Q=>to σ H λo H1=>ti σ H1 λi H2=>t o i v H2 λH3=>Q σ H3
theorem y7 {o i:Expr} {to ti:TE} {t:C'} (ho:PE X o to) (hi:PE X i ti) (hs:F9 X t)
  (ha:∀ v,assign (.Subscript o i pos) X.env v=(do
   let ov <- holding [v] (eval o X.env)
   let iv <- holding [v,ov] (eval i X.env)
   standAt pos
   holding [v,ov,iv] (setItem ov iv v)
   release [v,ov,iv] []):=by intro _; rfl):PG X (.Subscript o i pos) (NW to ti t):=by
 intro pins s σ H v u Q I r h;rw [ha];refine gt (Qq (b9 (ho pins s σ H _ I h) λov s1 ⟨x,H1,I1,r1,q1⟩=>?_))
 refine gt (Qq (b9 (hi pins s1 σ H1 _ I1 q1) λiv s2 ⟨y,H2,I2,r2,q2⟩=>?_))
 refine gt (wpAny_standAt (gt (Qq (b9 (hs pins s2 σ H2 x y v ov iv u _ I2 r1 r2 r q2) λ_ s3 ⟨H3,I3,q3⟩=>?_))))
 exact wpAny_release ⟨σ,H3,I3,q3⟩
def GT (te:TE) (g:TG):TS:=λD σ H=>te σ H λx H1=>g x σ H1 D.nx
theorem K3 {tg e:Expr} {te:TE} {g:TG} (he:PE X e te) (hg:PG X tg g) (hs:swapsWithSole [tg] e pos.line X.env=pure false:=by rfl) (hw:swappedStores [tg] e X.env=pure none:=by rfl)
  (h1:(assignEach [tg] X.env).map (·.2)=[assign tg X.env]:=by rfl):PS X (.Assign [tg] e pos) (GT te g):=by
 intro pins s σ H D I h;refine wpAny_Assign_stores (b9 (he pins s σ H _ I h) λv s1 ⟨x,H1,I1,r1,q1⟩=>?_) hs hw
 rw [h1];exact b9 (hg pins s1 σ H1 x v _ I1 r1 q1) λ_ s2 q=>q
theorem K7 {i:Nat} {x:Str} {e:Expr} {te:TE} {pos':Pos} (hN:X.N.Nodup) (hi:X.N[i]?=some x) (hx:FY X.env.scope x) (he:PE X e te) (hs:swapsWith e (some (.Name x pos')) pos.line X.env=pure false:=by rfl) (hf:X.fn x=true\/X.env.scope.names.lookup x=some .local:=by first | exact .inl rfl | exact .inr rfl | assumption):
  PS X (.Assign [.Name x pos'] e pos) (GT te (ve i)):=by
 intro pins s σ H D I h;refine wpAny_Assign_Name (b9 (he pins s σ H _ I h) λv s1 ⟨y,H1,I1,r1,q1⟩=>?_) hs
 exact mt I1 hN hi hx r1 (λs2 I2=>⟨_,H1,I2,q1⟩) hf
def Ox (i j:Nat) (ta:TA):TS:=λD σ H=>ta σ H λvs H1=>∃ v w,vs=[v,w]/\D.nx ((σ.set i (some v)).set j (some w)) H1
theorem Ja {i j:Nat} {x y:Str} {a b:Expr} {ta:TA} {px py pt:Pos} {kt k2 pt2} (hc:X.calm=true) (hN:X.N.Nodup) (hi:X.N[i]?=some x) (hj:X.N[j]?=some y) (hij:i≠j)
  (hx:X.env.scope.names.lookup x=some .local) (hy:X.env.scope.names.lookup y=some .local) (ha:PA X [a,b] ta)
  (hw:swappedStores [.Tuple [.Name x px,.Name y py] kt pt] (.Tuple [a,b] k2 pt2) X.env=pure (some [x,y]))
  (hs:swapsWithSole [.Tuple [.Name x px,.Name y py] kt pt] (.Tuple [a,b] k2 pt2) pos.line X.env=pure false:=by rfl):
  PS X (.Assign [.Tuple [.Name x px,.Name y py] kt pt] (.Tuple [a,b] k2 pt2) pos) (Ox i j ta):=by
 intro pins s σ H D I h;rw [exec_Assign_arm];refine gt (wpAny_standAt ?_);rw [hs];refine gt (PZ ?_);rw [if_neg (by decide)]
 refine gt (Tuple_ (b9 (ha _ pins s σ H _ I h) λus s1 ⟨vs,H1,I1,r1,q1⟩=>?_))
 obtain⟨v,w,e1,q1⟩:=q1;subst e1;obtain⟨u1,u2,rfl,rv,rw'⟩:∃ u1 u2,us=[u1,u2]/\aS v u1/\aS w u2:=by
  cases r1 with
  | cons p q=>
   cases q with
   | cons p' q'=>
    cases q';exact⟨_,_,rfl,p,p'⟩
 refine Qs ?_ (by show 2<=sizeLine; decide)
 have I2:ay X pins σ H1 {s1 with heap:=s1.heap.push {cls:=.type "tuple",data:=.seq [u1,u2].toArray}}:=I1.kept (t':=s1.toks) λb o e=>pp _ e
 rw [hw];refine gt (PZ ?_)
 show wpAny (model X.prog X.w) X.A (do rule "assign.swapped-stores"; let items <- unpackItems (.ref s1.heap.objs.size) 2 none; assignInOrder [λv=>bindName X.env y v,λv=>bindName X.env x v] items.reverse; pure Flow.next) _ _ _
 refine gt (wpAny_rule (gt (unpackItems_tuple (items:=#[u1,u2]) (I.ok.hd hc) (IsTup.new s1.heap _) λh' hx'=>?_)))
 have I3:=I2.kept (h':=h') (t':=s1.toks) λb o e=>hx' b o (P9 (P2 e)) e
 show wpAny _ _ (assignInOrder [λv=>bindName X.env y v,λv=>bindName X.env x v] [u2,u1] >>= λ_=>pure Flow.next) _ _ _
 refine gt (assignInOrder_cons (wpAny_bindName (mt I3 hN hj (.inl hy) rw' (λs2 I4=>?_) (.inr hy))))
 refine assignInOrder_cons (wpAny_bindName (mt I4 hN hi (.inl hx) rv (λs3 I5=>assignInOrder_nil (PZ ?_)) (.inr hx)))
 rw [List.set_comm _ _ (Ne.symm hij)] at I5;exact⟨_,H1,I5,q1⟩
end
section
variable {X:Cx} {pos:Pos}
def KU (c:TT) (tb:TS):TS:=λD σ H=>∃ W:Nat->St->Hp->Prop,(∃ m,W m σ H)/\∀ m σ H,W m σ H->
 c σ H λb H1=>if b=true then ∃ N:St->Hp->Prop,(∀ σ' H',N σ' H'->∃ m',m' < m/\W m' σ' H')/\tb {D with nx:=N,ct:=N,bk:=D.nx} σ H1 else D.nx σ H1
theorem Fk {c:Expr} {body:List Stmt} {tc:TT} {tb:TS} (hp:PassesOwn (model X.prog X.w) X.A X.env X.xe) (hc:PT X c tc) (hb:oA X body tb):PS X (.While c body [] pos) (KU tc tb):=by
 intro pins s σ H D I h;obtain⟨W,⟨m0,w0⟩,turn⟩:=h;refine wpAny_While (codeAny_whileLoop (λn s'=>∃ σ' H',ay X pins σ' H' s'/\W n σ' H') ?_ m0 ⟨σ,H,I,w0⟩)
 rintro n s1 ⟨σ1,H1,I1,w1⟩;refine wpAny_passesOwn hp (b9 (hc pins s1 σ1 H1 _ I1 (turn n σ1 H1 w1)) λb s2 ⟨H2,I2,q2⟩=>?_)
 cases b with
 | true=>
  obtain⟨N,hN,q2⟩:=q2;rw [if_pos rfl];refine wpAny_passesOwn hp (b9 (hb pins s2 σ1 H2 _ I2 q2) λf s3 q3=>?_)
  cases f with
  | next=>
   obtain⟨σ3,H3,I3,n3⟩:=q3;obtain⟨m',hm,w3⟩:=hN σ3 H3 n3;exact⟨m',hm,σ3,H3,I3,w3⟩
  | cont=>
   obtain⟨σ3,H3,I3,n3⟩:=q3;obtain⟨m',hm,w3⟩:=hN σ3 H3 n3;exact⟨m',hm,σ3,H3,I3,w3⟩
  | brk=>exact q3
  | ret v=>exact q3
 | false=>
  rw [if_neg P6];exact wpAny_execs_nil ⟨σ1,H2,I2,q2⟩
end
structure It where
 go:Nat->Hp->Prop
 yld:Nat->Hp->V->Hp->Prop
 stop:Nat->Hp->Prop
def qf (X:Cx) (pins:List (Addr×Obj)) (H:Hp) (b:Addr):Prop:=
 H b=none/\b≠X.env.locals/\b∉X.fs/\(b∈X.ex\/X.s₀.heap.objs.size<=b)/\(∀ x c,X.env.cells.lookup x=some c->c≠b)/\∀ p∈X.pn++pins,p.1≠b
theorem ay.fpOk {X:Cx} {pins:List (Addr×Obj)} {σ:St} {H H':Hp} {s:Shared} {b:Addr} (I:ay X pins σ H s) (hb:s.heap.objs.size<=b) (hn:H' b=none):qf X pins H' b:=by
 refine⟨hn,Nat.ne_of_gt (Qb I.lt hb),I.nofs hb,.inr (QH I.sz hb),λx c e z=>?_,λp hp z=>?_⟩
 ·obtain⟨v,q⟩:=I.cell x c e;exact absurd (Qb q.lt (by rw [z]; exact hb)) (QX _)
 ·exact absurd (Qb (P2 (I.pin p hp).1) (by rw [z]; exact hb)) (QX _)
structure yG (P:Program) (w:World) (K:PySem.W.Frag) (tg:Expr) (J:It) (fp:List Addr) (it:Addr) (tn:Nat->Heap->Prop):Prop where
 mem:it∈fp
 obj:∀ i h,tn i h->∀ b∈fp,∃ o,h.get? b=some o/\∀ v,o.data≠.cell v
 keep:∀ i h h',tn i h->(∀ b∈fp,∀ o,h.get? b=some o->h'.get? b=some o)->tn i h'
 item:∀ (X:Cx),X.prog=P->X.w=w->X.K=K->X.calm=true->∀ (i:Nat) (pins:List (Addr×Obj)) (s:Shared) (σ:St) (H:Hp) (E:Value->Shared->Prop),ay X pins σ H s->(∀ b∈fp,qf X pins H b)->tn i s.heap->J.go i H->
  wpAny (model P w) X.A (pyNext (.ref it)) (λr s1=>∃ u,r=some u/\
   wpAny (model P w) X.A (letOwnedTupleGo tg (.ref it) u) (λ_ s2=>∃ x H',ay X pins σ H' s2/\aS x u/\J.yld i H x H'/\tn (i+1) s2.heap/\∀ b∈fp,H' b=none) E s1) E s
 done:∀ (X:Cx),X.prog=P->X.w=w->X.K=K->X.calm=true->∀ (i:Nat) (pins:List (Addr×Obj)) (s:Shared) (σ:St) (H:Hp) (E:Value->Shared->Prop),ay X pins σ H s->(∀ b∈fp,qf X pins H b)->tn i s.heap->J.stop i H->
  wpAny (model P w) X.A (pyNext (.ref it)) (λr s1=>r=none/\ay X pins σ H s1) E s
 self:∀ (A:Around) (i:Nat) (s:Shared) (Q:Value->Shared->Prop) (E:Value->Shared->Prop),tn i s.heap->Q (.ref it) s->wpAny (model P w) A (pyIter (.ref it)) Q E s
abbrev TI:=St->Hp->(It->Hp->Prop)->Prop
def O3 (X:Cx) (pins:List (Addr×Obj)) (σ:St) (tg:Expr) (R:It->Hp->Prop) (itv:Value) (s2:Shared):Prop:=
 ∃ (it:Addr) (fp:List Addr) (tn:Nat->Heap->Prop) (J:It) (H':Hp),itv=.ref it/\ay X pins σ H' s2/\yG X.prog X.w X.K tg J fp it tn/\tn 0 s2.heap/\(∀ b∈fp,qf X pins H' b)/\R J H'
def PI (X:Cx) (tg iter:Expr) (wi:TI):Prop:=
 ∀ (pins:List (Addr×Obj)) (s:Shared) (σ:St) (H:Hp) (R:It->Hp->Prop),ay X pins σ H s->wi σ H R->
  wpAny (model X.prog X.w) X.A (eval iter X.env) (λv s1=>wpAny (model X.prog X.w) X.A (pyIter v) (O3 X pins σ tg R) X.xe s1) X.xe s
theorem Ak {M:Model} {A:Around} {E:Value->Shared->Prop} {s:Shared} {tg:Expr} {it:Addr} {u:Value} {o:Obj} {n:String} {vs:Array Value} {Q:Unit->Shared->Prop} (ho:s.heap.get? it=some o) (hc:o.cls=.type n) (hd:o.data=.fields vs)
  (hn:["enumerate","zip","dict_itemiterator","dict_reverseitemiterator","odict_iterator","itertools.zip_longest","itertools.pairwise"].contains n=false) (hQ:Q () s):wpAny M A (letOwnedTupleGo tg (.ref it) u) Q E s:=by
 unfold letOwnedTupleGo;cases tg <;> first
  | exact PZ hQ
  | (cases u <;> first
    | exact PZ hQ
    | (refine gt (wpAny_load ho ?_)
       rw [hc,hd]
       show wpAny M A (if (["enumerate","zip","dict_itemiterator","dict_reverseitemiterator","odict_iterator","itertools.zip_longest","itertools.pairwise"].contains n && vs[0]? == some (rawInt _))=true then _ else _) Q E s
       rw [if_neg (by intro h; rw [hn,Bool.false_and] at h; cases h)]
       exact PZ hQ))
def L8 (K:PySem.W.Frag) (a:Addr):It:=
 ⟨λi H=>∃ xs x,jD K H a xs/\xs[i]?=some x,λi H x H'=>H'=H/\∀ xs,jD K H a xs->xs[i]?=some x,λi H=>∃ xs,jD K H a xs/\xs.length<=i⟩
def LL (K:PySem.W.Frag) (a:Addr):It:=
 ⟨λi H=>∃ xs x,m9 K H a xs/\xs[i]?=some x,λi H x H'=>H'=H/\∀ xs,m9 K H a xs->xs[i]?=some x,λi H=>∃ xs,m9 K H a xs/\xs.length<=i⟩
def M3 (lo:Int) (n:Nat):It:=⟨λi _=>i < n,λi H x H'=>H'=H/\x=.int (lo+i),λi _=>n<=i⟩
theorem BG {P:Program} {w:World} {K:PySem.W.Frag} {tg:Expr} (a it:Addr):yG P w K tg (L8 K a) [it] it (λi h=>h.IsListIter it a i) where
 mem:=by simp
 obj:=λi h st b hb=>by
  have e:b=it:=by simpa using hb
  subst e;obtain⟨o,e,c,d⟩:=st;exact⟨o,e,λv z=>by rw [d] at z; cases z⟩
 keep:=λi h h' st k=>st.at λo e=>k it (by simp) o e
 item:=by
  intro X hP hw hK hc i pins s σ H E I hf st hg;subst hP hw hK;obtain⟨xs,x,hq,hx⟩:=hg;obtain⟨its,rv,p,hz⟩:=I.list hq;obtain⟨u,hu,ru⟩:=rv.get hx;obtain⟨f0,f1,f2,f3,f4,f5⟩:=hf it (by simp)
  refine wpAny_pyNext_list_item st p.isList (x:=u) (by simpa using hu) λh' st' sb=>?_
  have I1:ay X pins σ H {s with heap:=h'}:=I.turned (t':=s.toks) (λb o hb e=>(sb.2 b hb).trans e) f0 f1 f3 f4 f5
  obtain⟨o,e,c,d⟩:=id st';exact⟨u,rfl,Ak (s:={s with heap:=h'}) e c d (by decide) ⟨x,H,I1,ru,⟨rfl,λys hy=>by rw [I.list_inj hy hq]; exact hx⟩,st',λb hb=>(hf b hb).1⟩⟩
 done:=by
  intro X hP hw hK hc i pins s σ H E I hf st hg;subst hP hw hK;obtain⟨xs,hq,hx⟩:=hg;obtain⟨its,rv,p,hz⟩:=I.list hq;obtain⟨f0,f1,f2,f3,f4,f5⟩:=hf it (by simp)
  have hl:=rv.length;exact wpAny_pyNext_list_end (I.ok.hd hc) st p.isList (by simp; omega) λh' eb=>⟨rfl,I.turned (t':=s.toks) (λb o hb e=>eb b o hb e) f0 f1 f3 f4 f5⟩
 self:=λ_ _ _ _ _ st h=>wpAny_pyIter_listiter st h
theorem zC {P:Program} {w:World} {K:PySem.W.Frag} {tg:Expr} (a it:Addr):yG P w K tg (LL K a) [it] it (λi h=>h.IsTupleIter it a i) where
 mem:=by simp
 obj:=λi h st b hb=>by
  have e:b=it:=by simpa using hb
  subst e;obtain⟨o,e,c,d⟩:=st;exact⟨o,e,λv z=>by rw [d] at z; cases z⟩
 keep:=λi h h' st k=>st.at λo e=>k it (by simp) o e
 item:=by
  intro X hP hw hK hc i pins s σ H E I hf st hg;subst hP hw hK;obtain⟨xs,x,hq,hx⟩:=hg;obtain⟨its,rv,p,hz⟩:=I.tuple hq;obtain⟨u,hu,ru⟩:=rv.get hx;obtain⟨f0,f1,f2,f3,f4,f5⟩:=hf it (by simp)
  refine wpAny_pyNext_tuple_item st (show s.heap.IsTuple a its.toArray from p) (x:=u) (by simpa using hu) λh' st' sb=>?_
  have I1:ay X pins σ H {s with heap:=h'}:=I.turned (t':=s.toks) (λb o hb e=>(sb.2 b hb).trans e) f0 f1 f3 f4 f5
  obtain⟨o,e,c,d⟩:=id st';exact⟨u,rfl,Ak (s:={s with heap:=h'}) e c d (by decide) ⟨x,H,I1,ru,⟨rfl,λys hy=>by rw [I.tuple_inj hy hq]; exact hx⟩,st',λb hb=>(hf b hb).1⟩⟩
 done:=by
  intro X hP hw hK hc i pins s σ H E I hf st hg;subst hP hw hK;obtain⟨xs,hq,hx⟩:=hg;obtain⟨its,rv,p,hz⟩:=I.tuple hq;obtain⟨f0,f1,f2,f3,f4,f5⟩:=hf it (by simp)
  have hl:=rv.length;exact wpAny_pyNext_tuple_end (I.ok.hd hc) st (show s.heap.IsTuple a its.toArray from p) (by simp; omega) λh' eb=>⟨rfl,I.turned (t':=s.toks) (λb o hb e=>eb b o hb e) f0 f1 f3 f4 f5⟩
 self:=λ_ _ _ _ _ st h=>wpAny_pyIter_tupleiter st h
theorem zm {P:Program} {w:World} {K:PySem.W.Frag} {tg:Expr} (it:Addr) (lo:Int) (n:Nat):yG P w K tg (M3 lo n) [it] it (λi h=>IsRangeIter h it (lo+(i:Nat)*1) ((n:Int) - (i:Nat)) 1) where
 mem:=by simp
 obj:=λi h st b hb=>by
  have e:b=it:=by simpa using hb
  subst e;exact⟨_,st,λv z=>by
   have z':Data.fields _=Data.cell v:=z;cases z'⟩
 keep:=λi h h' st k=>k it (by simp) _ st
 item:=by
  intro X hP hw hK hc i pins s σ H E I hf st hg;subst hP hw hK;obtain⟨f0,f1,f2,f3,f4,f5⟩:=hf it (by simp)
  have W:=Walks.range (prog:=X.prog) (w:=X.w) (I.ok.hd hc) it lo 1 n;refine W.item i s _ _ hg st λv h' tk hv st' kk=>?_
  obtain⟨t,rfl⟩:=hv;have I1:ay X pins σ H {s with heap:=h',toks:=tk}:=I.turned (λb o hb e=>kk b o (by simpa using hb) e) f0 f1 f3 f4 f5
  refine⟨_,rfl,Ak (s:={s with heap:=h',toks:=tk}) (n:="range_iterator") st' rfl rfl (by decide) ⟨.int (lo+i),H,I1,⟨t,?_⟩,⟨rfl,rfl⟩,st',λb hb=>(hf b hb).1⟩⟩
  rw [Int.mul_one]
 done:=by
  intro X hP hw hK hc i pins s σ H E I hf st hg;subst hP hw hK;obtain⟨f0,f1,f2,f3,f4,f5⟩:=hf it (by simp)
  exact wpAny_pyNext_range_end (I.ok.hd hc) st (by have:n<=i:=hg; omega) λh' eb=>⟨rfl,I.turned (t':=s.toks) (λb o hb e=>eb b o hb e) f0 f1 f3 f4 f5⟩
 self:=λ_ _ _ _ _ st h=>wpAny_pyIter_rangeiter st h
section
variable {X:Cx} {tg:Expr}
theorem FG {pins:List (Addr×Obj)} {σ:St} {H:Hp} {s:Shared} {R:It->Hp->Prop} {E:Value->Shared->Prop} {lo hi:Int} {t u v:Tok} {tk:Nat} (I:ay X pins σ H s) (h1:-(2 ^ 62)<=lo) (h2:lo < 2 ^ 62) (h3:-(2 ^ 62)<=hi) (h4:hi < 2 ^ 62)
  (q:R (M3 lo (hi - lo).toNat) H):wpAny (model X.prog X.w) X.A (pyIter (.ref s.heap.objs.size)) (O3 X pins σ tg R) E {s with heap:=s.heap.push {cls:=.type "range",data:=.fields #[.int lo t,.int hi u,.int 1 v]},toks:=tk}:=by
 refine wpAny_pyIter_range (IsRange.new ..) (small_one h1 h2 h3 h4) ?_;have I1:ay X pins σ H {s with heap:=s.heap.push {cls:=.type "range",data:=.fields #[.int lo t,.int hi u,.int 1 v]},toks:=tk}:=I.kept λb o e=>pp _ e
 refine⟨(s.heap.push {cls:=.type "range",data:=.fields #[.int lo t,.int hi u,.int 1 v]}).objs.size,[(s.heap.push {cls:=.type "range",data:=.fields #[.int lo t,.int hi u,.int 1 v]}).objs.size],_,_,H,rfl,
  I1.kept (t':=tk) λb o e=>pp _ e,zm _ lo (hi - lo).toNat,?_,λb hb=>?_,q⟩
 ·have e1:lo+((0:Nat):Int)*1=lo:=by simp
  have e2:(((hi - lo).toNat:Nat):Int) - ((0:Nat):Int)=Builtin.Range.rangeSize lo hi 1:=by rw [rangeSize_one]; split <;> omega
  show IsRangeIter _ _ (lo+((0:Nat):Int)*1) ((((hi - lo).toNat:Nat):Int) - ((0:Nat):Int)) 1
  rw [e1,e2];exact P0 _ rfl
 ·have e:b=(s.heap.push {cls:=.type "range",data:=.fields #[.int lo t,.int hi u,.int 1 v]}).objs.size:=by simpa using hb
  subst e;exact I1.fpOk (P3 _) (I1.hok.fresh (P3 _))
def Mh (ta:TA):TI:=fun σ H R=>ta σ H λvs H1=>∃ j:Int,vs=[.int j]/\-(2 ^ 62)<=j/\j < 2 ^ 62/\R (M3 0 j.toNat) H1
theorem u_ {a:Expr} {ta:TA} {p pos:Pos} (hg:Gl X "range") (hm:X.mg "range"=none) (ha:PA X [a] ta) (hs:starEach [a] X.env=[(false,eval a X.env)]:=by rfl):PI X tg (.Call (.Name "range" p) [a] [] pos) (Mh ta):=by
 intro pins s σ H R I h;refine Call_ (sI I hg hm boot_range (PyProof.Rows.callWith_type1 (b9 (ha pos pins s σ H _ I h) λus s1 ⟨vs,H1,I1,r1,q1⟩=>?_) hs rfl))
 obtain⟨j,e,q1,q2,q⟩:=q1;subst e;cases r1 with
 | cons r rr=>
  cases rr;obtain⟨t,rfl⟩:=r;exact call_range_1 (FG I1 (by omega) (by omega) q1 q2 (by simpa using q))
def Oj (wi:TI) (g:TG) (tb:TS):TS:=λD σ H=>wi σ H λJ H1=>∃ W:Nat->Nat->St->Hp->Prop,(∃ m,W 0 m σ H1)/\∀ i m σ H,W i m σ H->
 (J.stop i H/\D.nx σ H)\/(J.go i H/\∃ N:St->Hp->Prop,(∀ σ' H',N σ' H'->∃ m',m' < m/\W (i+1) m' σ' H')/\∀ x H',J.yld i H x H'->g x σ H' fun σ2 H2=>tb {D with nx:=N,ct:=N,bk:=D.nx} σ2 H2)
def sK (fp:List Addr) (h:Heap):List (Addr×Obj):=fp.filterMap λb=>(h.get? b).map λo=>(b,o)
theorem dO {fp:List Addr} {h:Heap} {b:Addr} {o:Obj} (hb:b∈fp) (e:h.get? b=some o):(b,o)∈sK fp h:=List.mem_filterMap.mpr ⟨b,hb,by rw [e]; rfl⟩
theorem Bo {fp:List Addr} {h:Heap} {p:Addr×Obj} (hp:p∈sK fp h):p.1∈fp/\h.get? p.1=some p.2:=by
 obtain⟨b,hb,e⟩:=List.mem_filterMap.mp hp;cases q:h.get? b with
 | none=>rw [q] at e; cases e
 | some o=>
  rw [q] at e;have e':(b,o)=p:=Qx e;subst e';exact⟨hb,q⟩
theorem ay.pinned {pins:List (Addr×Obj)} {σ:St} {H:Hp} {s:Shared} {fp:List Addr} (I:ay X pins σ H s) (hf:∀ b∈fp,qf X pins H b) (ho:∀ b∈fp,∃ o,s.heap.get? b=some o/\∀ v,o.data≠.cell v):ay X (pins++sK fp s.heap) σ H s:=
 I.pins_of λp hp=>(List.mem_append.mp hp).elim (λz=>I.pin p (Qc _ z)) λz=>by
  obtain⟨hb,e⟩:=Bo z;obtain⟨f0,f1,f2,_⟩:=hf p.1 hb;obtain⟨o,e',d⟩:=ho p.1 hb;rw [e] at e'; cases e'
  exact⟨e,f0,f1,f2,d⟩
theorem ay.unpinned {pins pl:List (Addr×Obj)} {σ:St} {H:Hp} {s:Shared} (I:ay X (pins++pl) σ H s):ay X pins σ H s:=I.pins_of λp hp=>I.pin p (Qc _ (List.mem_append_left _ hp))
theorem vD {iter:Expr} {body:List Stmt} {wi:TI} {g:TG} {tb:TS} {pos:Pos} (hp:PassesOwn (model X.prog X.w) X.A X.env X.xe) (hc:X.calm=true) (hi:PI X tg iter wi) (hg:PG X tg g) (hb:oA X body tb)
  (hs:∀ x,foldedSetIterable iter X.env x=pure x:=by intro _; rfl):PS X (.For tg iter body [] pos) (Oj wi g tb):=by
 intro pins s σ H D I h;refine wpAny_For (b9 (hi pins s σ H _ I h) λv s1 h1=>b9 h1 λitv s2 h2=>?_) hs
 obtain⟨it,fp,tn,J,H2,e,I2,T,st2,f2,W,⟨m0,w0⟩,turn⟩:=h2;subst e;have stat:∀ {H':Hp},(∀ b∈fp,H' b=none)->∀ b∈fp,qf X pins H' b:=λhn b hb=>⟨hn b hb,(f2 b hb).2⟩
 refine codeAny_forLoop_any (λn s'=>∃ i σ' H',ay X pins σ' H' s'/\tn i s'.heap/\(∀ b∈fp,H' b=none)/\W i n σ' H') ?_ m0 ⟨0,σ,H2,I2,st2,λb hb=>(f2 b hb).1,w0⟩
 rintro n s3 ⟨i,σ3,H3,I3,st3,fr3,w3⟩;rcases turn i n σ3 H3 w3 with ⟨stop,qn⟩ | ⟨go,N,hN,step⟩
 ·refine wpAny_passesOwn hp (b9 (T.done X rfl rfl rfl hc i pins s3 σ3 H3 X.xe I3 (stat fr3) st3 stop) λr s4 ⟨hr,I4⟩=>?_)
  subst hr;exact wpAny_execs_nil ⟨σ3,H3,I4,qn⟩
 ·refine wpAny_passesOwn hp (b9 (T.item X rfl rfl rfl hc i pins s3 σ3 H3 X.xe I3 (stat fr3) st3 go) λr s4 ⟨u,hr,h4⟩=>?_)
  subst hr;refine wpAny_passesOwn hp (b9 h4 λ_ s5 ⟨x,H5,I5,r5,y5,st5,fr5⟩=>?_)
  have I5':=I5.pinned (stat fr5) (T.obj _ _ st5);refine wpAny_passesOwn hp (b9 (hg _ s5 σ3 H5 x u _ I5' r5 (step x H5 y5)) λ_ s6 ⟨σ6,H6,I6,q6⟩=>?_)
  refine wpAny_passesOwn hp (b9 (hb _ s6 σ6 H6 _ I6 q6) λf s7 q7=>?_)
  have again:∀ {σ7:St} {H7:Hp},ay X (pins++sK fp s5.heap) σ7 H7 s7->N σ7 H7->∃ m,m < n/\∃ i σ' H',ay X pins σ' H' s7/\tn i s7.heap/\(∀ b∈fp,H' b=none)/\W i m σ' H':=λ{σ7 H7} I7 n7=>by
   obtain⟨m',hm,w7⟩:=hN σ7 H7 n7;refine⟨m',hm,i+1,σ7,H7,I7.unpinned,T.keep _ _ _ st5 λb hb o e=>(I7.pin (b,o) (Qc _ (Qc _ (dO hb e)))).1,λb hb=>?_,w7⟩
   obtain⟨o,e,d⟩:=T.obj _ _ st5 b hb;exact(I7.pin (b,o) (Qc _ (Qc _ (dO hb e)))).2.1
  cases f with
  | next=>obtain⟨σ7,H7,I7,n7⟩:=q7; exact again I7 n7
  | cont=>obtain⟨σ7,H7,I7,n7⟩:=q7; exact again I7 n7
  | brk=>obtain⟨σ7,H7,I7,q7⟩:=q7; exact⟨σ7,H7,I7.unpinned,q7⟩
  | ret v=>obtain⟨x7,σ7,H7,I7,r7,q7⟩:=q7; exact⟨x7,σ7,H7,I7.unpinned,r7,q7⟩
end
abbrev R2:=V->V->Hp->VK->Prop
def fW (X:Cx) (f:Value->Value->Sem Value) (r:R2):Prop:=
 ∀ (pins:List (Addr×Obj)) (s:Shared) (σ:St) (H:Hp) (x y:V) (v u:Value) (Q:VK),ay X pins σ H s->aS x v->aS y u->r x y H Q->
  wpAny (model X.prog X.w) X.A (f v u) (EP X pins σ Q) X.xe s
def Ll (X:Cx) (f:Value->Sem Value) (r:V->Hp->VK->Prop):Prop:=
 ∀ (pins:List (Addr×Obj)) (s:Shared) (σ:St) (H:Hp) (x:V) (v:Value) (Q:VK),ay X pins σ H s->aS x v->r x H Q->
  wpAny (model X.prog X.w) X.A (f v) (EP X pins σ Q) X.xe s
def c_ (X:Cx) (f:Value) (r:List V->Hp->VK->Prop):Prop:=
 ∀ (pins:List (Addr×Obj)) (s:Shared) (σ:St) (H:Hp) (xs:List V) (us:List Value) (Q:VK),ay X pins σ H s->a_ xs us->r xs H Q->
  wpAny (model X.prog X.w) X.A (call f us) (EP X pins σ Q) X.xe s
def L9 (r:R2) (ta tb:TE):TE:=fun σ H Q=>ta σ H λx H1=>tb σ H1 λy H2=>r x y H2 Q
def PU (r:V->Hp->VK->Prop) (ta:TE):TE:=fun σ H Q=>ta σ H λx H1=>r x H1 Q
def rI (C:Int->Int->Prop) (g:Int->Int->V):R2:=λx y H Q=>∃ i j,x=.int i/\y=.int j/\C i j/\Q (g i j) H
def GN (g:Int->Int->V):R2:=λx y H Q=>∃ i j,x=.int i/\y=.int j/\Q (g i j) H
def rU (g:Int->V):V->Hp->VK->Prop:=λx H Q=>∃ i,x=.int i/\Q (g i) H
section
variable {X:Cx} {a b c:Expr} {ta tb tc:TE} {pos:Pos}
theorem JR (ha:PE X a ta) (hb:PE X b tb) {pins:List (Addr×Obj)} {s:Shared} {σ:St} {H:Hp} {R:V->V->Hp->Prop} (I:ay X pins σ H s)
  (h:ta σ H λx H1=>tb σ H1 λy H2=>R x y H2) {Q:Value->Shared->Prop} {f:Value->Value->Sem Value}
  (hf:∀ v u s2 x y H2,ay X pins σ H2 s2->aS x v->aS y u->R x y H2->wpAny (model X.prog X.w) X.A (f v u) Q X.xe s2):
  wpAny (model X.prog X.w) X.A (eval a X.env) (λv s₁=>wpAny (model X.prog X.w) X.A (eval b X.env) (λu s₂=>wpAny (model X.prog X.w) X.A (f v u) Q X.xe s₂) X.xe s₁) X.xe s:=by
 refine b9 (ha pins s σ H _ I h) λv s1 ⟨x,H1,I1,r1,q1⟩=>?_
 refine b9 (hb pins s1 σ H1 _ I1 q1) λu s2 ⟨y,H2,I2,r2,q2⟩=>?_
 exact hf v u s2 x y H2 I2 r1 r2 q2
theorem L7 {op:Operator} {r:R2} (ho:fW X (binaryOp op) r) (ha:PE X a ta) (hb:PE X b tb):PE X (.BinOp a op b pos) (L9 r ta tb):=by
 intro pins s σ H Q I h;exact wpAny_BinOp (JR ha hb I h λv u s2 x y H2 I2 rx ry q=>ho pins s2 σ H2 x y v u Q I2 rx ry q)
theorem Lv {op:UnaryOp} {r:V->Hp->VK->Prop} (ho:Ll X (unaryOp op) r) (ha:PE X a ta):PE X (.UnaryOp op a pos) (PU r ta):=by
 intro pins s σ H Q I h;exact UnaryOp_ (b9 (ha pins s σ H _ I h) λv s1 ⟨x,H1,I1,r1,q1⟩=>ho pins s1 σ H1 x v Q I1 r1 q1)
theorem Ni {f:Value->Value->Sem Value} {C:Int->Int->Prop} {g:Int->Int->Int}
  (rule:∀ (i j:Int) (t u:Tok) (s:Shared) (Q:Value->Shared->Prop) (E:Value->Shared->Prop),C i j->Q (.int (g i j) s.toks) {s with toks:=s.toks+1}->wpAny (model X.prog X.w) X.A (f (.int i t) (.int j u)) Q E s):
  fW X f (rI C λi j=>.int (g i j)):=by
 intro pins s σ H x y v u Q I rx ry h;obtain⟨i,j,rfl,rfl,hc,q⟩:=h;obtain⟨t,rfl⟩:=rx;obtain⟨t',rfl⟩:=ry;exact rule i j t t' s _ _ hc ⟨.int (g i j),H,I.tok _,⟨_,rfl⟩,q⟩
theorem Mc {f:Value->Value->Sem Value} {g:Int->Int->Int}
  (rule:∀ (i j:Int) (t u:Tok) (s:Shared) (Q:Value->Shared->Prop) (E:Value->Shared->Prop),Q (.int (g i j) s.toks) {s with toks:=s.toks+1}->wpAny (model X.prog X.w) X.A (f (.int i t) (.int j u)) Q E s):
  fW X f (GN λi j=>.int (g i j)):=by
 intro pins s σ H x y v u Q I rx ry h;obtain⟨i,j,rfl,rfl,q⟩:=h;obtain⟨t,rfl⟩:=rx;obtain⟨t',rfl⟩:=ry;exact rule i j t t' s _ _ ⟨.int (g i j),H,I.tok _,⟨_,rfl⟩,q⟩
theorem HF {f:Value->Value->Sem Value} {g:Int->Int->Bool}
  (rule:∀ (i j:Int) (t u:Tok) (s:Shared) (Q:Value->Shared->Prop) (E:Value->Shared->Prop),Q (.bool (g i j)) s->wpAny (model X.prog X.w) X.A (f (.int i t) (.int j u)) Q E s):
  fW X f (GN λi j=>.bl (g i j)):=by
 intro pins s σ H x y v u Q I rx ry h;obtain⟨i,j,rfl,rfl,q⟩:=h;obtain⟨t,rfl⟩:=rx;obtain⟨t',rfl⟩:=ry;exact rule i j t t' s _ _ ⟨.bl (g i j),H,I,rfl,q⟩
def BB (i j:Int):Prop:=0<=j/\j<=1000000/\i.natAbs < 2 ^ 64
theorem Jk:fW X (binaryOp .Add) (GN λi j=>.int (i+j)):=Mc λ_ _ _ _ _ _ _ q=>add_int q
theorem Jx:fW X (binaryOp .Sub) (GN λi j=>.int (i - j)):=Mc λ_ _ _ _ _ _ _ q=>sub_int q
theorem Hf:fW X (binaryOp .Mod) (rI (λ_ j=>j≠0) λi j=>.int (i.fmod j)):=Ni λ_ _ _ _ _ _ _ hc q=>mod_int' hc q
theorem JJ:fW X (binaryOp .Pow) (rI BB λi j=>.int (i ^ j.toNat)):=Ni λ_ _ _ _ _ _ _ hc q=>pow_int_small hc.1 hc.2.1 hc.2.2 q
theorem KB:fW X (binaryOp .LShift) (rI BB λi j=>.int (i*2 ^ j.toNat)):=Ni λ_ _ _ _ _ _ _ hc q=>lshift_int_small hc.1 hc.2.1 hc.2.2 q
theorem Po {f:Value->Sem Value} {g:Int->Int}
  (rule:∀ (i:Int) (t:Tok) (s:Shared) (Q:Value->Shared->Prop) (E:Value->Shared->Prop),Q (.int (g i) s.toks) {s with toks:=s.toks+1}->wpAny (model X.prog X.w) X.A (f (.int i t)) Q E s):
  Ll X f (rU λi=>.int (g i)):=by
 intro pins s σ H x v Q I rx h;obtain⟨i,rfl,q⟩:=h;obtain⟨t,rfl⟩:=rx;exact rule i t s _ _ ⟨.int (g i),H,I.tok _,⟨_,rfl⟩,q⟩
theorem KD:Ll X (unaryOp .USub) (rU λi=>.int (-i)):=Po λ_ _ _ _ _ q=>neg_int q
end
def JI:V->V->Bool
 | .non,.non=>true | .non,.int _=>true | .int _,.non=>true | .non,.bl _=>true | .bl _,.non=>true | .non,.str _=>true | .str _,.non=>true
 | .int _,.int _=>true | .bl _,.bl _=>true | .str _,.str _=>true | .byt _,.byt _=>true
 | .int _,.str _=>true | .str _,.int _=>true | .bl _,.str _=>true | .str _,.bl _=>true
 | _,_=>false
def Pp:R2:=λx y H Q=>JI x y=true/\Q (.bl (decide (x=y))) H
def Pi:R2:=λx y H Q=>JI x y=true/\Q (.bl (!decide (x=y))) H
theorem AW {i j:Int}:decide (V.int i=V.int j)=(i == j):=by
 rw [Bool.eq_iff_iff];simp
theorem EA {i j:Bool}:decide (V.bl i=V.bl j)=(i == j):=by
 rw [Bool.eq_iff_iff];simp
theorem Ah {i j:Str}:decide (V.str i=V.str j)=(i == j):=by
 rw [Bool.eq_iff_iff];simp
theorem zX {i j:Array UInt8}:decide (V.byt i=V.byt j)=(i.toList == j.toList):=by
 rw [Bool.eq_iff_iff];cases i;cases j;simp
section
variable {X:Cx} {a b c:Expr} {ta tb tc:TE} {pos:Pos}
theorem br {pins:List (Addr×Obj)} {σ:St} {H:Hp} {s:Shared} {Q:VK} {k k':Bool} (I:ay X pins σ H s) (q:Q (.bl k) H) (e:k=k'):EP X pins σ Q (.bool k') s:=by
 subst e;exact⟨.bl k,H,I,rfl,q⟩
theorem Lw:fW X (compareOp .Eq) Pp:=by
 intro pins s σ H x y v u Q I rx ry h;obtain⟨hs,q⟩:=h;cases x with
 | non=>
  cases rx;cases y with
  | non=>cases ry; exact PySem.EqNone.eq_none_none (br I q (by simp))
  | bl j=>cases ry; exact PySem.EqNone.eq_none_bool (br I q (by simp))
  | int j=>obtain⟨t',rfl⟩:=ry; exact PySem.EqNone.eq_none_int (br I q (by simp))
  | str j=>obtain⟨t',rfl⟩:=ry; exact PySem.EqNone.eq_none_str (br I q (by simp))
  | _=>exact absurd (show false=true from hs) P6
 | bl i=>
  cases rx;cases y with
  | non=>cases ry; exact PySem.EqNone.eq_bool_none (br I q (by simp))
  | bl j=>cases ry; exact eq_bool (br I q EA)
  | str j=>obtain⟨t',rfl⟩:=ry; exact PySem.EqMixed.eq_bool_str (br I q (by simp))
  | _=>exact absurd (show false=true from hs) P6
 | int i=>
  obtain⟨t,rfl⟩:=rx;cases y with
  | non=>cases ry; exact PySem.EqNone.eq_int_none (br I q (by simp))
  | int j=>obtain⟨t',rfl⟩:=ry; exact eq_int (br I q AW)
  | str j=>obtain⟨t',rfl⟩:=ry; exact PySem.EqMixed.eq_int_str (br I q (by simp))
  | _=>exact absurd (show false=true from hs) P6
 | str i=>
  obtain⟨t,rfl⟩:=rx;cases y with
  | non=>cases ry; exact PySem.EqNone.eq_str_none (br I q (by simp))
  | bl j=>cases ry; exact PySem.EqMixed.eq_str_bool (br I q (by simp))
  | int j=>obtain⟨t',rfl⟩:=ry; exact PySem.EqMixed.eq_str_int (br I q (by simp))
  | str j=>obtain⟨t',rfl⟩:=ry; exact eq_str (br I q Ah)
  | _=>exact absurd (show false=true from hs) P6
 | byt i=>
  obtain⟨t,rfl⟩:=rx;cases y with
  | byt j=>obtain⟨t',rfl⟩:=ry; exact PySem.W.eq_bytes (br I q zX)
  | _=>exact absurd (show false=true from hs) P6
 | _=>cases y <;> exact absurd (show false=true from hs) P6
theorem L_:fW X (compareOp .NotEq) Pi:=by
 intro pins s σ H x y v u Q I rx ry h;obtain⟨hs,q⟩:=h;cases x with
 | non=>
  cases rx;cases y with
  | non=>cases ry; exact PySem.EqNone.ne_none_none (br I q (by simp))
  | bl j=>cases ry; exact PySem.EqNone.ne_none_bool (br I q (by simp))
  | int j=>obtain⟨t',rfl⟩:=ry; exact PySem.EqNone.ne_none_int (br I q (by simp))
  | str j=>obtain⟨t',rfl⟩:=ry; exact PySem.EqNone.ne_none_str (br I q (by simp))
  | _=>exact absurd (show false=true from hs) P6
 | bl i=>
  cases rx;cases y with
  | non=>cases ry; exact PySem.EqNone.ne_bool_none (br I q (by simp))
  | bl j=>cases ry; exact ne_bool (br I q (congrArg not EA))
  | str j=>obtain⟨t',rfl⟩:=ry; exact PySem.EqMixed.ne_bool_str (br I q (by simp))
  | _=>exact absurd (show false=true from hs) P6
 | int i=>
  obtain⟨t,rfl⟩:=rx;cases y with
  | non=>cases ry; exact PySem.EqNone.ne_int_none (br I q (by simp))
  | int j=>obtain⟨t',rfl⟩:=ry; exact ne_int (br I q (congrArg not AW))
  | str j=>obtain⟨t',rfl⟩:=ry; exact PySem.EqMixed.ne_int_str (br I q (by simp))
  | _=>exact absurd (show false=true from hs) P6
 | str i=>
  obtain⟨t,rfl⟩:=rx;cases y with
  | non=>cases ry; exact PySem.EqNone.ne_str_none (br I q (by simp))
  | bl j=>cases ry; exact PySem.EqMixed.ne_str_bool (br I q (by simp))
  | int j=>obtain⟨t',rfl⟩:=ry; exact PySem.EqMixed.ne_str_int (br I q (by simp))
  | str j=>obtain⟨t',rfl⟩:=ry; exact ne_str (br I q (congrArg not Ah))
  | _=>exact absurd (show false=true from hs) P6
 | byt i=>
  obtain⟨t,rfl⟩:=rx;cases y with
  | byt j=>obtain⟨t',rfl⟩:=ry; exact PySem.W.ne_bytes (br I q (congrArg not zX))
  | _=>exact absurd (show false=true from hs) P6
 | _=>cases y <;> exact absurd (show false=true from hs) P6
theorem Nb:fW X (compareOp .Lt) (GN λi j=>.bl (decide (i < j))):=HF λ_ _ _ _ _ _ _ q=>lt_int q
theorem Mg:fW X (compareOp .LtE) (GN λi j=>.bl (decide (i<=j))):=HF λ_ _ _ _ _ _ _ q=>le_int q
theorem LH:fW X (compareOp .Gt) (GN λi j=>.bl (decide (j < i))):=HF λ_ _ _ _ _ _ _ q=>gt_int q
theorem L0:fW X (compareOp .GtE) (GN λi j=>.bl (decide (j<=i))):=HF λ_ _ _ _ _ _ _ q=>ge_int q
theorem Kf:fW X (compareOp .Is) (λx y H Q=>y=.non/\Q (.bl (decide (x=.non))) H):=by
 intro pins s σ H x y v u Q I rx ry h;obtain⟨rfl,q⟩:=h;cases ry;refine is_none_gen (br I q ?_);cases x <;> first
  | (cases rx; rfl)
  | (obtain ⟨t,rfl⟩:=rx; rfl)
theorem GK:fW X (compareOp .IsNot) (λx y H Q=>y=.non/\Q (.bl (!decide (x=.non))) H):=by
 intro pins s σ H x y v u Q I rx ry h;obtain⟨rfl,q⟩:=h;cases ry;refine isnot_none_gen (br I q ?_);cases x <;> first
  | (cases rx; rfl)
  | (obtain ⟨t,rfl⟩:=rx; rfl)
theorem aF (b:Expr) {op:CmpOp} (h:op≠.In:=by decide) (h2:op≠.NotIn:=by decide):behindInMarks op b=false:=by
 have e1:(op == CmpOp.In)=false:=by cases op <;> first | rfl | exact absurd rfl h
 have e2:(op == CmpOp.NotIn)=false:=by cases op <;> first | rfl | exact absurd rfl h2
 cases b <;> simp [behindInMarks,e1,e2]
theorem G8 {op:CmpOp} {r:R2} (ho:fW X (compareOp op) r) (ha:PE X a ta) (hb:PE X b tb) (hm:behindInMarks op b=false):PE X (.Compare a [op] [b] pos) (L9 r ta tb):=by
 intro pins s σ H Q I h;exact wpAny_Compare1 (JR ha hb I h λv u s2 x y H2 I2 rx ry q=>ho pins s2 σ H2 x y v u Q I2 rx ry q) hm
def IU (t:TE):TT:=fun σ H Q=>t σ H λx H'=>∃ k,x=.bl k/\Q k H'
theorem GX {op:CmpOp} {r:R2} (ho:fW X (compareOp op) r) (ha:PE X a ta) (hb:PE X b tb) (hm:behindInMarks op b=false):PT X (.Compare a [op] [b] pos) (IU (L9 r ta tb)):=by
 intro pins s σ H Q I h;refine wpAny_isTrue_Compare1 (b9 (ha pins s σ H _ I h) λv s1 ⟨x,H1,I1,r1,q1⟩=>b9 (hb pins s1 σ H1 _ I1 q1) λu s2 ⟨y,H2,I2,r2,q2⟩=>
  b9 (ho pins s2 σ H2 x y v u _ I2 r1 r2 q2) λc s3 ⟨z,H3,I3,r3,k,e,q3⟩=>?_) hm
 subst e;cases r3;exact wpAny_truthy_bool ⟨H3,I3,q3⟩
theorem vN:(sizeLine:Nat) < 2 ^ 63:=by rw [sizeLine_eq]; decide
theorem zD:fW X (binaryOp .Add) (λx y H Q=>∃ i j,x=.str i/\y=.str j/\i.length+j.length<=sizeLine/\Q (.str (i++j)) H):=by
 intro pins s σ H x y v u Q I rx ry h;obtain⟨i,j,rfl,rfl,hz,q⟩:=h;obtain⟨t,rfl⟩:=rx;obtain⟨t',rfl⟩:=ry;exact add_str (λt' tk=>⟨.str (i++j),H,I.tok _,⟨_,rfl⟩,q⟩) hz
theorem nG {x:V} {us:List Value} (r:a_ [x] us):∃ u,us=[u]/\aS x u:=by
 cases r with
 | cons r1 r2=>cases r2; exact⟨_,rfl,r1⟩
theorem Au {x y:V} {us:List Value} (r:a_ [x,y] us):∃ u w',us=[u,w']/\aS x u/\aS y w':=by
 cases r with
 | cons r1 r2=>
  cases r2 with
  | cons r3 r4=>cases r4; exact⟨_,_,rfl,r1,r3⟩
theorem Ee:c_ X (.builtin "abs") (λxs H Q=>∃ i,xs=[.int i]/\Q (.int (if i < 0 then -i else i)) H):=by
 intro pins s σ H xs us Q I r h;obtain⟨i,rfl,q⟩:=h;obtain⟨u,rfl,t,rfl⟩:=nG r;exact call_abs_int λu tk=>⟨.int (if i < 0 then -i else i),H,I.tok _,⟨_,rfl⟩,q⟩
theorem Cy (hc:X.calm=true):c_ X (.builtin "max") (λxs H Q=>∃ i j,xs=[.int i,.int j]/\Q (.int (if j > i then j else i)) H):=by
 intro pins s σ H xs us Q I r h;obtain⟨i,j,rfl,q⟩:=h;obtain⟨u,w',rfl,⟨t,rfl⟩,⟨t',rfl⟩⟩:=Au r;refine max_two_ints (I.ok.hd hc) λh' tk k=>⟨_,H,I.kept k,?_,q⟩
 by_cases hj:j > i
 ·rw [if_pos hj,if_pos hj]; exact⟨_,rfl⟩
 ·rw [if_neg hj,if_neg hj]; exact⟨_,rfl⟩
theorem B' (hc:X.calm=true):c_ X (.builtin "min") (λxs H Q=>∃ i j,xs=[.int i,.int j]/\Q (.int (if j < i then j else i)) H):=by
 intro pins s σ H xs us Q I r h;obtain⟨i,j,rfl,q⟩:=h;obtain⟨u,w',rfl,⟨t,rfl⟩,⟨t',rfl⟩⟩:=Au r;refine min_two_ints (I.ok.hd hc) λh' tk k=>⟨_,H,I.kept k,?_,q⟩
 by_cases hj:j < i
 ·rw [if_pos hj,if_pos hj]; exact⟨_,rfl⟩
 ·rw [if_neg hj,if_neg hj]; exact⟨_,rfl⟩
end
theorem uD.some_of {v:V} {o:Option Value} (r:uD (some v) o):∃ u,o=some u/\aS v u:=by
 cases o with
 | none=>exact(show False from r).elim
 | some u=>exact⟨u,rfl,r⟩
structure ce (k:Nat) (A:Around):Prop where
 hd:A.handled=none
 dp:A.depth+3*k+5 < recursionLimit
 un:A.units+16*k+200 < cLine
theorem ce.mono {j k:Nat} {A:Around} (r:ce k A) (h:j<=k):ce j A:=⟨r.hd,by have:=r.dp; omega,by have:=r.un; omega⟩
theorem ce.deeper {k:Nat} {A:Around} (r:ce (k+1) A) (env:Env):ce k (A.deeper env):=
 ⟨r.hd,by have:=r.dp; show A.depth+1+3*k+5 < _; omega,by have:=r.un; show A.units+3+16*k+200 < _; omega⟩
theorem ce.depth {k:Nat} {A:Around} (r:ce k A):A.depth < recursionLimit:=by have:=r.dp; omega
theorem ce.units {k:Nat} {A:Around} (r:ce k A):A.units+64 < cLine:=by have:=r.un; omega
def N3:TA:=λ_ H Q=>Q [] H
def Lx (ta:TE) (tr:TA):TA:=fun σ H Q=>ta σ H λx H1=>tr σ H1 λxs H2=>Q (x::xs) H2
section
variable {X:Cx} {e:Expr} {es:List Expr} {te:TE} {t:TA} {pos:Pos}
theorem pN:PA X [] N3:=λ_ _ _ _ H Q I h=>Calls.spliced_nil ⟨[],H,I,.nil,h⟩
theorem nv (ha:PE X e te) (hr:PA X es t) (hs:starEach (e::es) X.env=(false,eval e X.env)::starEach es X.env:=by rfl):PA X (e::es) (Lx te t):=by
 intro pos pins s σ H Q I h;rw [hs]
 show wpAny _ _ (spliced ((false,eval e X.env)::backTo pos (starEach es X.env))) _ _ s
 refine Calls.spliced_cons (b9 (ha pins s σ H _ I h) λu s1 ⟨x,H1,I1,r1,q1⟩=>?_)
 exact b9 (hr pos pins s1 σ H1 _ I1 q1) λus s2 ⟨xs,H2,I2,r2,q2⟩=>⟨x::xs,H2,I2,.cons r1 r2,q2⟩
def NQ (t:TA):TE:=fun σ H Q=>t σ H λxs H1=>xs.length<=sizeLine/\∀ p,H1 p=none->Q (.ref p) (bz H1 p (.tup xs))
def OH (t:TA):TE:=fun σ H Q=>t σ H λxs H1=>xs.length<=sizeLine/\∀ p,H1 p=none->Q (.ref p) (bz H1 p (.lst xs))
theorem JE {x1} (h:PA X es t):PE X (.Tuple es x1 pos) (NQ t):=by
 intro pins s σ H Q I hq;refine wpAny_Tuple_spliced (b9 (h pos pins s σ H _ I hq) λus s1 ⟨xs,H1,I1,r,z,q⟩=>⟨by rw [<- r.length]; exact z,?_⟩)
 have hf:H1 s1.heap.objs.size=none:=I1.hok.fresh (P3 _);refine⟨.ref s1.heap.objs.size,bz H1 s1.heap.objs.size (.tup xs),I1.laid (t':=s1.toks) (λb u e=>pp _ e) (P3 _) ?_,rfl,q _ hf⟩
 exact⟨z,us,r,⟨_,P0 _ rfl,rfl,_,rfl⟩⟩
theorem Jj (h:PA X es t):PE X (.List es pos) (OH t):=by
 intro pins s σ H Q I hq;refine wpAny_List_spliced (b9 (h pos pins s σ H _ I hq) λus s1 ⟨xs,H1,I1,r,z,q⟩=>⟨by rw [<- r.length]; exact z,?_⟩)
 have hf:H1 s1.heap.objs.size=none:=I1.hok.fresh (P3 _);refine⟨.ref s1.heap.objs.size,bz H1 s1.heap.objs.size (.lst xs),I1.laid (t':=s1.toks) (λb u e=>pp _ e) (P3 _) ?_,rfl,q _ hf⟩
 exact⟨z,us,0,r,P0 _ rfl⟩
end
abbrev Sp:=List V->Hp->VK->XK->Prop
abbrev Fv:=List Env->Hp->Shared->XK->Value->Shared->Prop
structure Hx (P:Program) (w:World) (K:PySem.W.Frag) (mg:Str->Option Value) (base:Heap) (A:Around) (outer:List Env) (s:Shared) (H:Hp):Prop where
 frames:A.frames=some outer
 mod:Mod K mg base
 bs:∀ b o,base.get? b=some o->s.heap.get? b=some o/\H b=none
 bsz:base.objs.size<=s.heap.objs.size
 funs:s.heap.FunFrames base outer
 frf:∀ b∈kS outer,H b=none
 hok:mQ P w H s.heap
 bare:AllBare s.gens
def CE (outer:List Env) (P:Program) (w:World) (H:Hp) (s:Shared) (Q:VK) (u:Value) (s':Shared):Prop:=
 ∃ v H',s'.os=s.os/\AllBare s'.gens/\Un (kS outer) [] H H' s.heap s'.heap/\mQ P w H' s'.heap/\aS v u/\Q v H'
def CR (CX:Fv) (outer:List Env) (P:Program) (w:World) (H:Hp) (s:Shared) (Q:VK) (E:XK) (r:Result) (s':Shared):Prop:=
 match r with
 | .ok (.ret u)=>CE outer P w H s Q u s'
 | .ok _=>False
 | .error e=>CX outer H s E e s'
structure aI (P:Program) (w:World) (K:PySem.W.Frag) (mg:Str->Option Value) (base:Heap) (CX:Fv) (k:Nat) (f:Addr) (fd:FuncData) (ps:List Str) (sp:Sp):Prop where
 len:∀ vs H Q E,sp vs H Q E->vs.length=ps.length
 run:∀ (A:Around) (outer:List Env) (s:Shared) (H:Hp) (args:Args) (us:List Value) (vs:List V) (Q:VK) (E:XK),ce k A->Hx P w K mg base A outer s H->BindsTo s fd args (ps.zip us)->a_ vs us->sp vs H Q E->
  codeAny (model P w) A (.call (.ref f) args) (CR CX outer P w H s Q E) s
section
variable {X:Cx} {pins:List (Addr×Obj)} {σ:St} {H:Hp} {s s':Shared}
theorem ay.env0 (I:ay X pins σ H s):Hx X.prog X.w X.K X.mg X.base X.A X.stack s H:=
 ⟨I.ok.frames,I.ok.mod,I.bs,QH I.ok.bsz I.sz,I.stack,I.stkFree,I.hok,I.bare⟩
theorem ay.after {Q:VK} {u:Value} (I:ay X pins σ H s) (h:CE X.stack X.prog X.w H s Q u s'):EP X pins σ Q u s':=by
 obtain⟨v,H',os,bare,un,hok,r,q⟩:=h;obtain⟨hh,g,d,t,os'⟩:=s';obtain rfl:os'=s.os:=os;exact⟨v,H',I.call (h':=hh) (g':=g) (d':=d) (t':=t) (ch:=[]) un hok bare (λb z=>absurd z (by simp)),r,q⟩
end
def Np (sp:Sp) (dvs:List V) (E:XK) (t:TA):TE:=fun σ H Q=>t σ H λvs H1=>sp (vs++dvs) H1 Q E
def nP (K:PySem.W.Frag) (fd:FuncData) (ps:List Str) (ds:List Value):Prop:=
 ∀ (s:Shared) (us:List Value),K.In s.heap->(us++ds).length=ps.length->BindsTo s fd ⟨us,[]⟩ (ps.zip (us++ds))
theorem nP.all {K:PySem.W.Frag} {fd:FuncData} {ps:List Str} (h:∀ us:List Value,us.length=ps.length->bindArgs fd ⟨us,[]⟩=pure (ps.zip us)):nP K fd ps []:=λs us _ hl=>by
 rw [Qn] at hl ⊢;exact .of_eq (h us hl)
def wv (CX:Fv) (X:Cx) (E:XK):Prop:=∀ (pins:List (Addr×Obj)) (σ:St) (H:Hp) (s:Shared) (e:Value) (s':Shared),ay X pins σ H s->CX X.stack H s E e s'->X.xe e s'
section
variable {X:Cx} {CX:Fv} {k:Nat} {f C:Addr} {fd:FuncData} {ps:List Str} {sp:Sp} {dvs:List V} {ds:List Value} {E:XK} {x m:Str} {p pos apos:Pos} {e o:Expr} {es:List Expr} {ta:TE} {t:TA}
theorem Jo {pins:List (Addr×Obj)} {σ:St} {H:Hp} {s:Shared} {Q:VK} {us:List Value} {vs:List V} (F:aI X.prog X.w X.K X.mg X.base CX k f fd ps sp) (hr:ce k X.A) (hb:nP X.K fd ps ds) (hd:a_ dvs ds) (hx:wv CX X E)
  (I:ay X pins σ H s) (r:a_ vs us) (h:sp (vs++dvs) H Q E):wpAny (model X.prog X.w) X.A (call (.ref f) us) (EP X pins σ Q) X.xe s:=by
 have r2:a_ (vs++dvs) (us++ds):=r.append hd;have hl:(us++ds).length=ps.length:=by rw [<- r2.length]; exact F.len _ _ _ _ h
 refine wpAny_call (codeAny_mono (F.run X.A X.stack s H ⟨us,[]⟩ (us++ds) (vs++dvs) Q E hr I.env0 (hb s us I.kIn hl) r2 h) λr s' hq=>?_)
 cases r with
 | error e=>exact hx pins σ H s e s' I hq
 | ok fl=>
  cases fl with
  | ret u=>exact I.after hq
  | next=>exact False.elim hq
  | brk=>exact False.elim hq
  | cont=>exact False.elim hq
theorem z_ (F:aI X.prog X.w X.K X.mg X.base CX k f fd ps sp) (hr:ce k X.A) (hg:Gl X x) (hm:X.mg x=some (.ref f)) (hk:PySem.W.keepIn X.K (.ref f)=true) (hb:nP X.K fd ps ds) (hd:a_ dvs ds) (hx:wv CX X E)
  (ha:PA X (e::es) t) (hdb:(x == ("__debug__":Str))=false:=by decide) (he:starEach (e::es) X.env=(false,eval e X.env)::starEach es X.env:=by rfl) (hpl:(backTo pos (starEach es X.env)).any (·.1)=false:=by rfl):
  PE X (.Call (.Name x p) (e::es) [] pos) (Np sp dvs E t):=by
 intro pins s σ H Q I h;refine wpAny_Call_Name_kw (pc I hg hm ?_ hdb);refine PySem.W.callWith_K (h₀:=X.base) I.ok.mod.kin hk (b9 (ha pos pins s σ H _ I h) λus s1 ⟨vs,H1,I1,r,q⟩=>⟨I1.kIn,?_⟩) he hpl
 exact Jo F hr hb hd hx I1 r q
end
structure ao (N P:List Str) (sc:Scope):Prop where
 kind:sc.kind=.function
 co:sc.isCoroutine=false
 gen:sc.isGenerator=false
 nd:N.Nodup
 pre:N.take P.length=P
 par:∀ x∈P,sc.names.lookup x=some .local\/sc.names.lookup x=some .cell
 nofree:∀ y∈sc.names,y.2≠.free
theorem cA {N P:List Str} {sc:Scope} (a:sc.kind=.function:=by rfl) (b:sc.isCoroutine=false:=by rfl) (c:sc.isGenerator=false:=by rfl) (d:N.Nodup:=by decide +kernel) (e:N.take P.length=P:=by rfl) (f:∀ x∈P,sc.names.lookup x=some .local\/sc.names.lookup x=some .cell:=by decide +kernel) (g:∀ y∈sc.names,y.2≠.free:=by decide +kernel):ao N P sc:=⟨a,b,c,d,e,f,g⟩
theorem vi {kindOf:Str->Option NameKind} {x:Str}:∀ {binds:List (Str×Value)} {m:Str->Option Value},(∀ v,(x,v)∉binds)->bindL kindOf binds m x=m x
 | [],_,_=>rfl
 | (n,v)::r,m,h=>by
  unfold bindL;rw [vi λw hw=>h w (Qa _ hw)]
  split
  ·have:x≠n:=by rintro rfl; exact h v P_
   simp [this]
  ·rfl
theorem uT {kindOf:Str->Option NameKind} {x:Str}:∀ {binds:List (Str×Value)} {m:Str->Option Value},(∀ v,(x,v)∉binds)->bindC kindOf binds m x=m x
 | [],_,_=>rfl
 | (n,v)::r,m,h=>by
  unfold bindC;rw [uT λw hw=>h w (Qa _ hw)]
  split
  ·rfl
  ·have:x≠n:=by rintro rfl; exact h v P_
   simp [this]
theorem uK {kindOf:Str->Option NameKind} {x:Str} {v:Value}:∀ {P:List Str} {vs:List Value} {i:Nat} {m:Str->Option Value},P.Nodup->P[i]?=some x->vs[i]?=some v->kindOf x=some .local->
  bindL kindOf (P.zip vs) m x=some v
 | [],_,_,_,_,h,_,_=>by simp at h
 | _::_,[],_,_,_,_,h,_=>by simp at h
 | p::P,w::vs,0,m,nd,h1,h2,hk=>by
  simp at h1 h2; subst h1; subst h2
  show bindL kindOf ((p,w)::P.zip vs) m p=_
  unfold bindL;rw [vi λv hv=>(QM.mp nd).1 (List.of_mem_zip hv).1,if_pos hk]
  simp
 | p::P,w::vs,i+1,m,nd,h1,h2,hk=>by
  show bindL kindOf ((p,w)::P.zip vs) m x=_
  unfold bindL;exact uK (i:=i) (QM.mp nd).2 (by simpa using h1) (by simpa using h2) hk
theorem uR {kindOf:Str->Option NameKind} {x:Str} {v:Value}:∀ {P:List Str} {vs:List Value} {i:Nat} {m:Str->Option Value},P.Nodup->P[i]?=some x->vs[i]?=some v->kindOf x≠some .local->
  bindC kindOf (P.zip vs) m x=some v
 | [],_,_,_,_,h,_,_=>by simp at h
 | _::_,[],_,_,_,_,h,_=>by simp at h
 | p::P,w::vs,0,m,nd,h1,h2,hk=>by
  simp at h1 h2; subst h1; subst h2
  show bindC kindOf ((p,w)::P.zip vs) m p=_
  unfold bindC;rw [uT λv hv=>(QM.mp nd).1 (List.of_mem_zip hv).1,if_neg hk]
  simp
 | p::P,w::vs,i+1,m,nd,h1,h2,hk=>by
  show bindC kindOf ((p,w)::P.zip vs) m x=_
  unfold bindC;exact uR (i:=i) (QM.mp nd).2 (by simpa using h1) (by simpa using h2) hk
def start (N:List Str) (vs:List V):St:=vs.map some++List.replicate (N.length - vs.length) none
def fu (CX:Fv) (P:Program) (w:World) (K:PySem.W.Frag) (mg:Str->Option Value) (base:Heap) (N:List Str) (qual:Str) (scope:Scope) (f:Addr) (cd:Value) (A:Around) (outer:List Env) (s:Shared) (H:Hp) (E:XK):Cx where
 prog:=P
 w:=w
 K:=K
 mg:=mg
 base:=base
 A:=A.deeper (envOfC qual scope s.heap.objs.size f cd)
 N:=N
 s₀:=s
 H₀:=H
 env:=envOfC qual scope s.heap.objs.size f cd
 outer:=outer
 stack:=envOfC qual scope s.heap.objs.size f cd::outer
 ex:=[]
 calm:=true
 fn:=λ_=>true
 pn:=[]
 xe:=λe s'=>wpAny (model P w) (A.deeper (envOfC qual scope s.heap.objs.size f cd)) (leaving (envOfC qual scope s.heap.objs.size f cd) e) (λ_ s''=>CX outer H s E e s'') (λe' s''=>CX outer H s E e' s'') s'
theorem xt {sc:Scope} {n:Nat} {x:Str} (h:sc.names.lookup x=some .cell):∃ c,(cellsFrom n sc.names []).lookup x=some c:=by
 have q:=PySem.W.cellsFrom_some sc.names n [] (.inl h);exact Rc.mp q
theorem A7 {CX:Fv} {P:Program} {w:World} {K:PySem.W.Frag} {mg:Str->Option Value} {base:Heap} {N ps:List Str} {qual:Str} {scope:Scope} {f:Addr} {cd:Value} {A:Around} {outer:List Env} {s s1:Shared} {H:Hp} {E:XK} {us:List Value} {vs:List V}
  (S:ao N ps scope) (hd:A.handled=none) (e0:Hx P w K mg base A outer s H) (hl:vs.length=ps.length) (r:a_ vs us)
  (x:InCallC s s.heap.objs.size (bindL (envOfC qual scope s.heap.objs.size f cd).kindOf (ps.zip us) λ_=>none) (cellsFrom (s.heap.objs.size+1) scope.names []) (bindC (envOfC qual scope s.heap.objs.size f cd).kindOf (ps.zip us) λ_=>none) s1):
  ay (fu CX P w K mg base N qual scope f cd A outer s H E) [] (start N vs) H s1:=by
 have hpl:ps.length<=N.length:=by have:=congrArg List.length S.pre; rw [List.length_take] at this; omega
 obtain⟨h1,tk,rfl,hk⟩:=x.done;have noA:∀ b:Addr,b∉(fu CX P w K mg base N qual scope f cd A outer s H E).ex:=λb z=>absurd (show b∈([]:List Addr) from z) (by simp)
 refine⟨⟨e0.mod,S.kind,rfl,rfl,P3 _,λy z c h1 h2=>?_,λy hy=>?_,λy c _ h=>?_,λ_=>hd,Around.frames_deeper e0.frames,.inr ⟨rfl,rfl⟩,λb z=>absurd z (noA b),e0.bs,e0.bsz,λb _ _=>noA b,λb z=>absurd z (noA b),e0.funs,e0.frf⟩,
  rfl,e0.bare,Un.kept hk,⟨_,x.toInCall.ns,λi y v h1 h2 h3=>?_⟩,λy c h=>⟨_,x.cell y c h⟩,e0.hok.fresh (P3 _),λy c h=>?_,λp hp=>absurd (show p∈([]:List (Addr×Obj)) from hp) (by simp),e0.hok.kept hk,?_⟩
 ·exact name_of_addr x.apart (QK h1) (QK h2)
 ·have hy:scope.names.lookup y=some .cell\/scope.names.lookup y=some .free:=hy;rcases hy with hy | hy
  ·exact xt hy
  ·exact absurd rfl (S.nofree _ (QK hy))
 ·exact Nat.le_of_lt (x.above y c (QK h))
 ·have hi:i < vs.length:=by
   unfold start at h2
   by_cases hi:i < vs.length
   ·exact hi
   ·rw [List.getElem?_append_right (by simpa using hi)] at h2
    rw [List.getElem?_replicate] at h2
    split at h2 <;> cases h2
  have ha:vs[i]?=some v:=by
   unfold start at h2;rw [List.getElem?_append_left (by simpa using hi),Qt] at h2
   cases e:vs[i]? with
   | none=>rw [e] at h2; cases h2
   | some a=>rw [e] at h2; cases h2; rfl
  obtain⟨u,hu,rv⟩:=r.get ha;have hp:ps[i]?=some y:=by
   rw [<- S.pre,List.getElem?_take_of_lt (by omega)]; exact h1
  have ndP:ps.Nodup:=by rw [<- S.pre]; exact S.nd.sublist (List.take_sublist _ _)
  refine⟨u,rv,?_⟩;rcases S.par y (List.mem_of_getElem? hp) with k | k
  ·exact .inl ⟨k,uK ndP hp hu k⟩
  ·obtain⟨c,e⟩:=xt (n:=s.heap.objs.size+1) k;refine .inr ⟨.inl k,c,e,?_⟩;have q:=x.cell y c e;rw [uR ndP hp hu (by show scope.names.lookup y≠_; rw [k]; decide)] at q
   exact q
 ·exact e0.hok.fresh (Nat.le_of_lt (x.above y c (QK h)))
 ·unfold start
  show _=N.length
  rw [Ql,P5,List.length_replicate];omega
theorem IO {CX:Fv} {P:Program} {w:World} {K:PySem.W.Frag} {mg:Str->Option Value} {base:Heap} {k:Nat} {f:Addr} {name qual:Str} {params:Arguments} {body:List Stmt} {scope:Scope} {dV kV doc pm cdv ct oc:Value} {an od:Option Addr}
  {osl:Array (Option Value)} {N ps:List Str} {sp:Sp} (lk:K.lookup f=some ⟨oc,od,.func (PySem.W.fnOf name qual params body scope dV kV doc pm an cdv ct),osl⟩) (hcd:PySem.W.codeIn K cdv qual=true) (S:ao N ps scope)
  (len:∀ vs H Q E,sp vs H Q E->vs.length=ps.length)
  (hbody:∀ (A:Around) (outer:List Env) (s:Shared) (H:Hp) (vs:List V) (Q:VK) (E:XK),ce k (A.deeper (envOfC qual scope s.heap.objs.size f cdv))->sp vs H Q E->
   ∃ t,oA (fu CX P w K mg base N qual scope f cdv A outer s H E) body t/\t {nx:=λ_ H'=>Q .non H',rt:=Q} (start N vs) H):
  aI P w K mg base CX (k+1) f (PySem.W.fnOf name qual params body scope dV kV doc pm an cdv ct) ps sp:=by
 refine⟨len,λA outer s H args us vs Q E hr e0 hb r hsp=>?_⟩
 have hl:=len _ _ _ _ hsp;have KX:K.In s.heap:=e0.mod.kin.keeps λb o e=>(e0.bs b o e).1
 have lim:s.heap.NoLimit:=e0.mod.nolimit.keeps λb o e=>(e0.bs b o e).1
 have hkind:∀ y∈ps.zip us,scope.names.lookup y.1=some .local\/(scope.names.lookup y.1=some .cell/\((cellsFrom (s.heap.objs.size+1) scope.names []).lookup y.1).isSome=true):=λ⟨n,v⟩ hy=>by
  rcases S.par n (List.of_mem_zip hy).1 with q | q
  ·exact .inl q
  ·exact .inr ⟨q,PySem.W.cellsFrom_some _ _ _ (.inl q)⟩
 refine codeAny_call_function hr.depth (KX _ _ lk) rfl S.co S.gen rfl (PySem.W.codeRec_of KX hcd) (hb _ _ _ _ ?_);refine wpAny_newFunctionEnv_cells S.kind hkind λenv he s1 x=>?_
 subst he;refine⟨lim.keeps x.toInCall.keep,codeAny_func ?_⟩;obtain⟨t,ht,hq⟩:=hbody A outer s H vs Q E (hr.deeper _) hsp;have I:ay (fu CX P w K mg base N qual scope f cdv A outer s H E) [] (start N vs) H s1:=A7 S hr.hd e0 hl r x;refine QE (ht [] s1 (start N vs) H _ I hq) (λfl s' hs=>?_) λe s' hs=>hs
 have fin:∀ {σ':St} {H':Hp} {v:V} {u:Value},ay (fu CX P w K mg base N qual scope f cdv A outer s H E) [] σ' H' s'->aS v u->Q v H'->CE outer P w H s Q u s':=
  λ{σ' H' v u} J rv q=>⟨v,H',J.os,J.bare,J.base,J.hok,rv,q⟩
 cases fl with
 | ret u=>
  obtain⟨v,σ',H',J,rv,q⟩:=hs;exact fin J rv q
 | next=>
  obtain⟨σ',H',J,q⟩:=hs;exact fin (v:=V.non) (u:=Value.none) J rfl q
 | brk=>
  obtain⟨_,_,_,q⟩:=hs;exact False.elim q
 | cont=>
  obtain⟨_,_,_,q⟩:=hs;exact False.elim q
section
variable {X:Cx} {x:Str} {p pos:Pos} {e:Expr} {es:List Expr} {t:TA} {id T:String} {r:List V->Hp->VK->Prop}
def NP (r:List V->Hp->VK->Prop) (t:TA):TE:=fun σ H Q=>t σ H λvs H1=>r vs H1 Q
theorem xV (hc:c_ X (.builtin id) r) (hg:Gl X x) (hm:X.mg x=none) (hv:bootBuiltins x=some (.builtin id)) (ha:PA X (e::es) t) (hn:x≠"__name__":=by decide) (hdb:(x == ("__debug__":Str))=false:=by decide)
  (he:starEach (e::es) X.env=(false,eval e X.env)::starEach es X.env:=by rfl) (hpl:(backTo pos (starEach es X.env)).any (·.1)=false:=by rfl):PE X (.Call (.Name x p) (e::es) [] pos) (NP r t):=by
 intro pins s σ H Q I h;refine wpAny_Call_Name_kw (sI I hg hm hv ?_ hn hdb);exact PyProof.Rows.callWith_builtin1 (b9 (ha pos pins s σ H _ I h) λus s1 ⟨vs,H1,I1,r1,q1⟩=>hc pins s1 σ H1 vs us Q I1 r1 q1) he hpl
theorem pH (hc:c_ X (.type T) r) (hg:Gl X x) (hm:X.mg x=none) (hv:bootBuiltins x=some (.type T)) (ha:PA X (e::es) t) (hn:x≠"__name__":=by decide) (hdb:(x == ("__debug__":Str))=false:=by decide)
  (he:starEach (e::es) X.env=(false,eval e X.env)::starEach es X.env:=by rfl) (hpl:(backTo pos (starEach es X.env)).any (·.1)=false:=by rfl):PE X (.Call (.Name x p) (e::es) [] pos) (NP r t):=by
 intro pins s σ H Q I h;refine wpAny_Call_Name_kw (sI I hg hm hv ?_ hn hdb);exact PyProof.Rows.callWith_type1 (b9 (ha pos pins s σ H _ I h) λus s1 ⟨vs,H1,I1,r1,q1⟩=>hc pins s1 σ H1 vs us Q I1 r1 q1) he hpl
end
end L2
namespace HT
open PySem PyProof.Rows
section
variable {prog:Program} {w:World} {A:Around} {E:Value->Shared->Prop} {s:Shared}
theorem Gy {t b:Addr} {vs ws:List Value} {Q:Value->Shared->Prop} (ht:IsTup s.heap t vs.toArray) (hb:IsTup s.heap b ws.toArray) (hv:vs≠[])
  (h1:ws=[]->Q (.ref t) s) (h2:ws≠[]->Q (.ref s.heap.objs.size) {s with heap:=s.heap.push {cls:=.type "tuple",data:=.seq (vs++ws).toArray}})
  (hsz:vs.length+ws.length<=sizeLine):wpAny (model prog w) A (binaryOp .Add (.ref t) (.ref b)) Q E s:=by
 obtain⟨⟨cls,dd,data,sl⟩,ho,hc,n,hd⟩:=id ht;obtain⟨⟨cls2,dd2,data2,sl2⟩,ho2,hc2,n2,hd2⟩:=id hb;simp only at hc hd hc2 hd2
 subst hc hd hc2 hd2;have e:vs.toArray++ws.toArray=(vs++ws).toArray:=by simp
 by_cases hw:ws=[]
 ·exact concat_meets ⟨_,ho,rfl⟩ ⟨_,ho2,rfl⟩ noFill_tuple_add seq_tuple_add PySem.F.slot_tuple_add PySem.F.entry_tuple_add (PySem.F.args_tuple_add_2 _ _)
   (tuple_addW1 t b vs.toArray ws.toArray n n2 dd dd2 sl sl2 (by simpa using hv) (by simp [hw])) ⟨ho,ho2,h1 hw⟩
 ·refine concat_meets ⟨_,ho,rfl⟩ ⟨_,ho2,rfl⟩ noFill_tuple_add seq_tuple_add PySem.F.slot_tuple_add PySem.F.entry_tuple_add (PySem.F.args_tuple_add_2 _ _)
   (tuple_addW2 t b vs.toArray ws.toArray n n2 dd dd2 sl sl2 (by simpa using hv) (by simpa using hw) (by rw [P7,P7]; exact hsz)) ⟨ho,ho2,?_⟩
  rw [e];exact h2 hw
def dL (n d:Nat):Option Int->Nat
 | none=>d
 | some v=>if v < 0 then(v+(n:Int)).toNat else min v.toNat n
theorem Ko (n d:Nat) (hd:d<=n) (o:Option Int):dL n d o<=n:=by
 cases o with
 | none=>exact hd
 | some v=>
  show(if v < 0 then(v+(n:Int)).toNat else min v.toNat n)<=n
  by_cases hv:v < 0
  ·rw [if_pos hv]; omega
  ·rw [if_neg hv]; exact Nat.min_le_right _ _
theorem AH (v:Int) (n d:Nat):(if v < 0 then max (v+(n:Int)) 0 else min v (n:Int))=((dL n d (some v):Nat):Int):=by
 show(if v < 0 then max (v+(n:Int)) 0 else min v (n:Int))=(((if v < 0 then(v+(n:Int)).toNat else min v.toNat n):Nat):Int)
 by_cases hv:v < 0
 ·simp only [if_pos hv]; omega
 ·simp only [if_neg hv]; omega
theorem yZ (lo hi:Option Int) (n:Nat):Builtin.Slice.sliceAdjust lo hi 1 (n:Int)=(((dL n 0 lo:Nat):Int),((dL n n hi:Nat):Int)):=by
 have h1:¬ ((1:Int) < 0):=by omega
 unfold Builtin.Slice.sliceAdjust;simp only [h1,if_false];refine Qk ?_ ?_
 ·cases lo with
  | none=>rfl
  | some v=>exact AH v n 0
 ·cases hi with
  | none=>rfl
  | some v=>exact AH v n n
theorem zO (i j:Nat):Builtin.Slice.slicePlaces (i:Int) (j:Int) 1=j - i:=by
 unfold Builtin.Slice.slicePlaces;have h1:(1:Int) > 0:=by omega
 simp only [h1,if_true,Int.ediv_one]
 split <;> omega
theorem rC {v:Value} {o:Option Int} {Q:Option Int->Shared->Prop} (p:IsPart v o) (h:Q o s):wpAny (model prog w) A (Builtin.Slice.slicePartIndex v) Q E s:=by
 cases p with
 | none=>exact slicePart_none h
 | int i t=>exact slicePart_int h
theorem pF {sl:Addr} {vl vu:Value} {lo hi:Option Int} {n:Nat} {Q:Int×Int×Nat->Shared->Prop} (hs:s.heap.IsSliceOf sl vl vu .none) (pl:IsPart vl lo) (pu:IsPart vu hi)
  (h:Q (((dL n 0 lo:Nat):Int),1,dL n n hi - dL n 0 lo) s):wpAny (model prog w) A (Builtin.Slice.sliceApplied (.ref sl) (pure (n:Int))) Q E s:=by
 obtain⟨os,hos,hcs,hds⟩:=id hs;unfold Builtin.Slice.sliceApplied Builtin.Slice.sliceFields;refine gt (gt (QF hos hds (x:=vl) rfl (gt (QF hos hds (x:=vu) rfl (gt (QF hos hds (x:=.none) rfl (PZ ?_)))))));refine gt (slicePart_none ?_)
 show wpAny _ _ (if ((1:Int) == 0)=true then _ else _) _ _ s
 rw [if_neg (by decide)]
 refine gt (rC pl (gt (rC pu (gt (PZ ?_)))))
 show wpAny _ _ (match Builtin.Slice.sliceAdjust lo hi 1 (n:Int) with | (lo,hi)=>pure (lo,(1:Int),Builtin.Slice.slicePlaces lo hi 1)) _ _ s
 rw [yZ lo hi n]
 show wpAny _ _ (pure (((dL n 0 lo:Nat):Int),(1:Int),Builtin.Slice.slicePlaces ((dL n 0 lo:Nat):Int) ((dL n n hi:Nat):Int) 1)) _ _ s
 rw [zO];exact PZ h
theorem Dl (xs:Array Value) (i k:Nat):((List.range k).filterMap fun(m:Nat)=>xs[((i:Int)+(m:Int)*1).toNat]?).toArray=((xs.toList.drop i).take k).toArray:=by
 have e:(λ(m:Nat)=>xs[((i:Int)+(m:Int)*1).toNat]?)=λm=>xs[i+m]?:=by
  funext m
  have:((i:Int)+(m:Int)*1).toNat=i+m:=by omega
  rw [this]
 rw [e];have:=pick_run xs i k;rw [List.filterMap_map] at this;have e2:((λx=>xs[x]?) ∘ λx=>i+x)=λm=>xs[i+m]?:=rfl
 rw [e2] at this;rw [this]
theorem oZ {t sl:Addr} {items:Array Value} {vl vu:Value} {lo hi:Option Int} {Q:Value->Shared->Prop} (ht:IsTup s.heap t items) (hs:s.heap.IsSliceOf sl vl vu .none) (pl:IsPart vl lo) (pu:IsPart vu hi)
  (hw:¬ (dL items.size 0 lo=0/\dL items.size items.size hi=items.size))
  (h:Q (.ref s.heap.objs.size) {s with heap:=s.heap.push {cls:=.type "tuple",data:=.seq ((items.toList.drop (dL items.size 0 lo)).take (dL items.size items.size hi - dL items.size 0 lo)).toArray}})
  (hsz:items.size<=sizeLine):wpAny (model prog w) A (getItem (.ref t) (.ref sl)) Q E s:=by
 have htake:sizeOk (.seq ((items.toList.drop (dL items.size 0 lo)).take (dL items.size items.size hi - dL items.size 0 lo)).toArray):=by
  show((items.toList.drop (dL items.size 0 lo)).take (dL items.size items.size hi - dL items.size 0 lo)).toArray.size<=sizeLine
  rw [P7,List.length_take,List.length_drop,Q6];omega
 have hj:dL items.size items.size hi<=items.size:=Ko _ _ (P3 _) hi;obtain⟨os,hos,hcs,hds⟩:=id hs;have hTs:s.TypeIs (.ref sl) "slice":=⟨os,hos,hcs⟩
 unfold getItem
 try with_reducible refine Qq ?_
 first | refine gt (PZ ?_) | skip
 refine gt (wpAny_sequenceKey ht.typeIs (by decide) ?_)
 refine gt (Q3 (name:=Str.ofString "__getitem__") ht.typeIs PyProof.Rows.slot_tuple_getitem
  (QP PyProof.Rows.slot_tuple_getitem ht.typeIs entry_tuple_getitem ?_ (args_tuple_getitem _ _)))
 show wpAny _ _ (Builtin.Tuple.tupleItemsOf (.ref t) >>= _) _ _ s
 refine gt (tupleItemsOf_ ht ?_);refine gt (wpAny_typeOf hTs ?_);rw [if_pos (by decide)]
 refine gt (pF hs pl pu ?_);have hno:¬ ((((dL items.size 0 lo:Nat):Int) == 0 && (1:Int) == 1 && (dL items.size items.size hi - dL items.size 0 lo) == items.size)=true):=by
  intro q;rw [QI,QI] at q;have q1:((dL items.size 0 lo:Nat):Int)=0:=eq_of_beq q.1.1;have q2:dL items.size items.size hi - dL items.size 0 lo=items.size:=eq_of_beq q.2;exact hw ⟨by omega,by omega⟩
 show wpAny _ _ (if (((dL items.size 0 lo:Nat):Int) == 0 && (1:Int) == 1 && (dL items.size items.size hi - dL items.size 0 lo) == items.size)=true then _ else _) _ _ s
 rw [if_neg hno,Dl]
 first
  | exact gt (m:=Builtin.Tuple.tupleExact _) (Qs (PZ ⟨_,rfl,PZ h⟩) htake)
  | exact gt (m:=Builtin.Tuple.tupleExact _) (Qs (gt (PZ (PZ ⟨_,rfl,PZ h⟩))) htake)
  | exact gt (gt (m:=Builtin.Tuple.tupleExact _) (Qs (PZ (PZ ⟨_,rfl,PZ h⟩)) htake))
  | exact gt (gt (m:=Builtin.Tuple.tupleExact _) (Qs (PZ ⟨_,rfl,PZ h⟩) htake))
end
end HT
namespace L2
open PySem PySem.Spec PyProof.Rows
abbrev TO:=St->Hp->(Option Int->Hp->Prop)->Prop
def PO (X:Cx) (e:Option Expr) (t:TO):Prop:=
 ∀ (pins:List (Addr×Obj)) (s:Shared) (σ:St) (H:Hp) (Q:Option Int->Hp->Prop),ay X pins σ H s->t σ H Q->
  wpAny (model X.prog X.w) X.A (evalPart e X.env) (λu s'=>∃ o H',ay X pins σ H' s'/\IsPart u o/\Q o H') X.xe s
def GW:TO:=λ_ H Q=>Q none H
def M' (t:TE):TO:=fun σ H Q=>t σ H λx H1=>∃ i,x=.int i/\Q (some i) H1
theorem zI {ns:List Int}:∀ {us:List Value},a_ (ns.map V.int) us->IntsAre us ns:=by
 induction ns with
 | nil=>intro us r; rw [List.map_nil] at r; cases r; exact .nil
 | cons n ns ih=>
  intro us r;rw [Qd] at r;cases r with
  | cons r1 r2=>
   obtain⟨t,e⟩:=r1;subst e;exact .cons n t (ih r2)
section
variable {X:Cx} {e:Expr} {te:TE} {lo hi:Option Expr} {tl th:TO} {pos p2:Pos}
theorem H9:PO X none GW:=by
 intro pins s σ H Q I h;rw [evalPart_none];exact PZ ⟨none,H,I,.none,h⟩
theorem G7 (h:PE X e te):PO X (some e) (M' te):=by
 intro pins s σ H Q I hw;rw [evalPart_some];refine b9 (h pins s σ H _ I hw) λu s1 ⟨x,H1,I1,r1,q1⟩=>?_
 obtain⟨i,rfl,q⟩:=q1;obtain⟨t,rfl⟩:=r1;exact⟨some i,H1,I1,.int i t,q⟩
def IC (X:Cx) (r:V->Option Int->Option Int->Hp->VK->Prop):Prop:=
 ∀ (pins:List (Addr×Obj)) (s:Shared) (σ:St) (H:Hp) (x:V) (v vl vu:Value) (lo hi:Option Int) (sl:Addr) (Q:VK),ay X pins σ H s->aS x v->s.heap.IsSliceOf sl vl vu .none->IsPart vl lo->IsPart vu hi->r x lo hi H Q->
  ∃ T id,typeLookup (.type T) "__getitem__"=pure (some (.builtin id))/\s.TypeIs v T/\wpAny (model X.prog X.w) X.A (getItem v (.ref sl)) (EP X pins σ Q) X.xe s
theorem IC.or {r r':V->Option Int->Option Int->Hp->VK->Prop} (h:IC X r) (h':IC X r'):IC X (λx lo hi H Q=>r x lo hi H Q\/r' x lo hi H Q):=by
 intro pins s σ H x v vl vu lo hi sl Q I rx hs pl pu q;rcases q with q | q
 ·exact h pins s σ H x v vl vu lo hi sl Q I rx hs pl pu q
 ·exact h' pins s σ H x v vl vu lo hi sl Q I rx hs pl pu q
def Pd (r:V->Option Int->Option Int->Hp->VK->Prop) (te:TE) (tl th:TO):TE:=fun σ H Q=>te σ H λx H1=>tl σ H1 λl H2=>th σ H2 λu H3=>r x l u H3 Q
theorem Dm {r:V->Option Int->Option Int->Hp->VK->Prop} (hr:IC X r) (he:PE X e te) (hl:PO X lo tl) (hu:PO X hi th):PE X (.Subscript e (.Slice lo hi none p2) pos) (Pd r te tl th):=by
 intro pins s σ H Q I h;refine Subscript_ (b9 (he pins s σ H _ I h) λv s1 ⟨x,H1,I1,r1,q1⟩=>?_)
 refine wpAny_Slice (b9 (hl pins s1 σ H1 _ I1 q1) λvl s2 ⟨l,H2,I2,pl,q2⟩=>b9 (hu pins s2 σ H2 _ I2 q2) λvu s3 ⟨u,H3,I3,pu,q3⟩=>?_)
 rw [evalPart_none];refine PZ ?_;have I4:ay X pins σ H3 {s3 with heap:=s3.heap.push {cls:=.type "slice",data:=.fields #[vl,vu,.none]}}:=I3.kept (t':=s3.toks) λb ob q=>pp _ q
 obtain⟨T,id,hT,ht,hg⟩:=hr pins {s3 with heap:=s3.heap.push {cls:=.type "slice",data:=.fields #[vl,vu,.none]}} σ H3 x v vl vu l u s3.heap.objs.size Q I4 r1 (Heap.IsSliceOf.new ..) pl pu q3
 show wpAny (model X.prog X.w) X.A (subscriptTail e (.Slice lo hi none p2) v (.ref s3.heap.objs.size)) (EP X pins σ Q) X.xe {s3 with heap:=s3.heap.push {cls:=.type "slice",data:=.fields #[vl,vu,.none]}}
 exact tail_any (ops:=[.ref s3.heap.objs.size,v]) ht hT hg (by with_unfolding_all rfl)
def tZ (xs:List V) (lo hi:Option Int):List V:=(xs.drop (HT.dL xs.length 0 lo)).take (HT.dL xs.length xs.length hi - HT.dL xs.length 0 lo)
theorem qu (xs:List V) (lo hi:Option Int):(tZ xs lo hi).length<=xs.length:=by
 unfold tZ;rw [List.length_take,List.length_drop];omega
def NR (K:PySem.W.Frag):V->Option Int->Option Int->Hp->VK->Prop:=λx lo hi H Q=>∃ a xs,x=.ref a/\m9 K H a xs/\
 ¬ (HT.dL xs.length 0 lo=0/\HT.dL xs.length xs.length hi=xs.length)/\∀ p,H p=none->Q (.ref p) (bz H p (.tup (tZ xs lo hi)))
theorem Kj:IC X (NR X.K):=by
 intro pins s σ H x v vl vu lo hi sl Q I rx hs pl pu h;obtain⟨a,xs,rfl,hx,hw,q⟩:=h;cases rx;obtain⟨its,r,ht,hz⟩:=I.tuple hx;have hlen:its.toArray.size=xs.length:=by rw [P7]; exact r.length.symm
 refine⟨"tuple",_,PyProof.Rows.slot_tuple_getitem.lookup,ht.typeIs,?_⟩
 refine HT.oZ ht hs pl pu (by rw [hlen]; exact hw) ?_ (by rw [hlen]; exact hz)
 rw [hlen];refine⟨.ref s.heap.objs.size,_,I.laid (t':=s.toks) (o:=.tup (tZ xs lo hi)) (λb ob q=>pp _ q) (P3 _) ?_,rfl,q _ (I.hok.fresh (P3 _))⟩
 exact⟨QH (qu xs lo hi) hz,_,(r.drop (HT.dL xs.length 0 lo)).take (HT.dL xs.length xs.length hi - HT.dL xs.length 0 lo),IsTup.new _ _⟩
def Mz (K:PySem.W.Frag):R2:=λx y H Q=>∃ a b xs ys,x=.ref a/\y=.ref b/\m9 K H a xs/\m9 K H b ys/\xs≠[]/\xs.length+ys.length<=sizeLine/\
 (ys=[]->Q (.ref a) H)/\(ys≠[]->∀ p,H p=none->Q (.ref p) (bz H p (.tup (xs++ys))))
theorem a_.nil_iff {xs:List V} {us:List Value} (r:a_ xs us):us=[]↔xs=[]:=by
 cases r with
 | nil=>simp
 | cons _ _=>simp
theorem Hv:fW X (binaryOp .Add) (Mz X.K):=by
 intro pins s σ H x y v u Q I rx ry h;obtain⟨a,b,xs,ys,rfl,rfl,ha,hb,hx,hz,q1,q2⟩:=h;cases rx;cases ry;obtain⟨its,r1,p1,_⟩:=I.tuple ha;obtain⟨its2,r2,p2,_⟩:=I.tuple hb;refine HT.Gy p1 p2 (λz=>hx (r1.nil_iff.mp z)) (λz=>⟨.ref a,H,I,rfl,q1 (r2.nil_iff.mp z)⟩) (λz=>?_) (by rw [<- r1.length,<- r2.length]; exact hz)
 refine⟨.ref s.heap.objs.size,_,I.laid (t':=s.toks) (o:=.tup (xs++ys)) (λb ob q=>pp _ q) (P3 _) ?_,rfl,q2 (λw=>z (r2.nil_iff.mpr w)) _ (I.hok.fresh (P3 _))⟩
 exact⟨by rw [Ql]; exact hz,_,r1.append r2,IsTup.new _ _⟩
end
def FF (n:Nat) (i:Int):Option Nat:=if 0<=i then(if i < n then some i.toNat else none) else if -(n:Int)<=i then some (i+n).toNat else none
def atI {α:Type} (xs:List α) (i:Int):Option α:=(FF xs.length i).bind λj=>xs[j]?
theorem AA {n:Nat} {i:Int} {j:Nat} (h:FF n i=some j):seqIndex? i n=some j/\j < n/\-(n:Int)<=i/\i < n:=by
 unfold FF at h
 by_cases h0:0<=i
 ·rw [if_pos h0] at h
  by_cases h1:i < n
  ·rw [if_pos h1] at h;have e:i.toNat=j:=Qx h;exact⟨by rw [seqIndex_of h0 h1,e],by omega,by omega,h1⟩
  ·rw [if_neg h1] at h; cases h
 ·rw [if_neg h0] at h
  by_cases h1:-(n:Int)<=i
  ·rw [if_pos h1] at h;have e:(i+n).toNat=j:=Qx h;exact⟨by rw [seqIndex_neg (by omega) h1,e],by omega,h1,by omega⟩
  ·rw [if_neg h1] at h; cases h
theorem Am {α:Type} {xs:List α} {i:Int} {v:α} (h:atI xs i=some v):∃ j,seqIndex? i xs.length=some j/\xs[j]?=some v/\j < xs.length/\-(xs.length:Int)<=i/\i < xs.length:=by
 unfold atI at h;cases e:FF xs.length i with
 | none=>rw [e] at h; cases h
 | some j=>
  rw [e] at h;obtain⟨h1,h2,h3,h4⟩:=AA e;exact⟨j,h1,h,h2,h3,h4⟩
theorem rq {α:Type} {xs:List α} {j:Nat} {v:α} (h:xs[j]?=some v):atI xs (j:Int)=some v:=by
 have hj:j < xs.length:=(QD.mp h).1;have e:FF xs.length (j:Int)=some j:=by
  unfold FF;rw [if_pos (by omega),if_pos (by omega)]; simp
 unfold atI; rw [e]; exact h
def pe (b:Expr):Prop:=∀ o i,subscripted b false o i=operate [o,i] (getItem o i)
def Ba (X:Cx) (r:R2):Prop:=
 ∀ (value slice:Expr) (pins:List (Addr×Obj)) (s:Shared) (σ:St) (H:Hp) (x y:V) (v u:Value) (Q:VK),ay X pins σ H s->aS x v->aS y u->r x y H Q->
  subscripted slice false v u=operate [v,u] (getItem v u)->wpAny (model X.prog X.w) X.A (subscriptTail value slice v u) (EP X pins σ Q) X.xe s
def OS (X:Cx) (id:String) (r:V->List V->Hp->VK->Prop):Prop:=
 ∀ (pins:List (Addr×Obj)) (s:Shared) (σ:St) (H:Hp) (x:V) (xs:List V) (v:Value) (us:List Value) (Q:VK),ay X pins σ H s->aS x v->a_ xs us->r x xs H Q->
  wpAny (model X.prog X.w) X.A (call (.builtin id) (v::us)) (EP X pins σ Q) X.xe s
section
variable {X:Cx} {a b:Expr} {ta tb:TE} {pos:Pos}
theorem Na {r:R2} (hr:Ba X r) (ha:PE X a ta) (hb:PE X b tb) (hs:pe b):PE X (.Subscript a b pos) (L9 r ta tb):=by
 intro pins s σ H Q I h;exact Subscript_ (JR ha hb I h λv u s2 x y H2 I2 rx ry q=>hr a b pins s2 σ H2 x y v u Q I2 rx ry q (hs _ _))
def NZ (K:PySem.W.Frag):R2:=λx y H Q=>∃ p xs i v,x=.ref p/\y=.int i/\jD K H p xs/\atI xs i=some v/\Q v H
def N5 (K:PySem.W.Frag):R2:=λx y H Q=>∃ p xs i v,x=.ref p/\y=.int i/\m9 K H p xs/\atI xs i=some v/\Q v H
theorem Az:Ba X (NZ X.K):=by
 intro value slice pins s σ H x y v u Q I rx ry h hs;obtain⟨p,xs,i,z,rfl,rfl,hq,he,q⟩:=h;cases rx;obtain⟨t,rfl⟩:=ry;obtain⟨its,r,pl,hz⟩:=I.list hq;obtain⟨j,h1,h2,h3,h4,h5⟩:=Am he;obtain⟨w,ew,rw'⟩:=r.get h2;have hl:=r.length;have hn:=vN;have fin:EP X pins σ Q w s:=⟨z,H,I,rw',q⟩
 by_cases h0:0<=i
 ·have hj:i.toNat=j:=by
   rw [seqIndex_of h0 h5] at h1;exact Qx h1
  exact item_listR pl.isList h0 (by omega) (by rw [hj]; simpa using ew) fin hs
 ·have hj:(i+(its.toArray.size:Int)).toNat=j:=by
   rw [seqIndex_neg (by omega) h4] at h1
   rw [P7,<- hl];exact Qx h1
  exact subscriptTail_builtinR (x:=w) pl.isList.typeIs slot_list_getitem.lookup
   (wpAny_getItem_list_neg (Q:=λr s'=>r=w/\EP X pins σ Q r s') pl.isList (by omega) (by rw [P7] <;> omega) (by omega) (by rw [hj]; simpa using ew) ⟨rfl,fin⟩) hs
theorem Kh:Ba X (N5 X.K):=by
 intro value slice pins s σ H x y v u Q I rx ry h hs;obtain⟨p,xs,i,z,rfl,rfl,hq,he,q⟩:=h;cases rx;obtain⟨t,rfl⟩:=ry;obtain⟨its,r,pl,hz⟩:=I.tuple hq;obtain⟨j,h1,h2,h3,h4,h5⟩:=Am he;obtain⟨w,ew,rw'⟩:=r.get h2;have hl:=r.length;have hn:=vN;have fin:EP X pins σ Q w s:=⟨z,H,I,rw',q⟩;exact subscriptTail_builtinR (x:=w) pl.typeIs slot_tuple_getitem.lookup
  (getItem_tuple (j:=j) (Q:=λr s'=>r=w/\EP X pins σ Q r s') pl (by omega) (by omega) (by rw [P7,<- hl]; exact h1) (by simpa using ew) ⟨rfl,fin⟩) hs
theorem zp (its:List Value) (n j:Nat) (u:Value):Obj.mapSeq (·.setIfInBounds j u) {cls:=.type "list",data:=.seq its.toArray n}={cls:=.type "list",data:=.seq (its.set j u).toArray n}:=by
 simp [Obj.mapSeq]
theorem ay.lst {pins:List (Addr×Obj)} {σ:St} {H:Hp} {s:Shared} {p:Addr} {xs:List V} (I:ay X pins σ H s) (h:H p=some (.lst xs)):
  ∃ (its:List Value) (n:Nat),a_ xs its/\s.heap.get? p=some {cls:=.type "list",data:=.seq its.toArray n}/\xs.length<=sizeLine:=by
 obtain⟨z,its,n,r,e⟩:=I.hok p _ h;exact⟨its,n,r,e,z⟩
theorem ay.lstUpd {pins:List (Addr×Obj)} {σ:St} {H:Hp} {s:Shared} {p:Addr} {xs ys:List V} {its its':List Value} {n n':Nat} {f:Obj->Obj} (I:ay X pins σ H s) (h:H p=some (.lst xs))
  (ho:s.heap.get? p=some {cls:=.type "list",data:=.seq its.toArray n}) (hf:f {cls:=.type "list",data:=.seq its.toArray n}={cls:=.type "list",data:=.seq its'.toArray n'}) (r:a_ ys its') (hz:ys.length<=sizeLine) (t:Nat):
  ay X pins σ (bz H p (.lst ys)) {s with heap:=s.heap.update p f,toks:=t}:=by
 have e:(s.heap.update p f).get? p=some {cls:=.type "list",data:=.seq its'.toArray n'}:=by
  rw [QL f ho (by rw [hf] <;> rfl),hf]
 refine I.write (x:=p) (e:=p) (by rw [h]; trivial) (.inl rfl) (λb u hb q=>(Qw _ _ (Ne.symm hb)).trans q) ⟨_,e⟩ ?_
 exact⟨hz,its',n',r,e⟩
def Mi:V->V->V->Hp->(Hp->Prop)->Prop:=λo i v H Q=>∃ p xs k j,o=.ref p/\i=.int k/\H p=some (.lst xs)/\FF xs.length k=some j/\Q (bz H p (.lst (xs.set j v)))
theorem Fq:F9 X Mi:=by
 intro pins s σ H o i v ov iv u Q I ro ri rv h;obtain⟨p,xs,k,j,rfl,rfl,hp,hj,q⟩:=h;cases ro;obtain⟨t,rfl⟩:=ri;obtain⟨its,n,r,ho,hz⟩:=I.lst hp;obtain⟨h1,h2,h3,h4⟩:=AA hj;have hl:=r.length;have hn:=vN;have I':ay X pins σ (bz H p (.lst (xs.set j v))) {s with heap:=s.heap.update p (Obj.mapSeq (·.setIfInBounds j u))}:=
  I.lstUpd hp ho (zp its n j u) (r.set rv j) (by rw [List.length_set]; exact hz) s.toks
 by_cases h0:0<=k
 ·have hk:k.toNat=j:=by
   rw [seqIndex_of h0 h4] at h1;exact Qx h1
  exact PySem.W.ki_setAt ho h0 (by omega) (by rw [P7,<- hl]; exact h4) (by rw [hk]; exact⟨_,I',q⟩)
 ·have hk:(k+(its.toArray.size:Int)).toNat=j:=by
   rw [seqIndex_neg (by omega) h3] at h1
   rw [P7,<- hl];exact Qx h1
  exact PySem.W.ki_setBack ho (by omega) (by rw [P7,<- hl]; exact h3) (by omega) (by rw [hk]; exact⟨_,I',q⟩)
theorem vY (lo hi:Option Int) (n:Nat):(sliceBounds lo hi none n).1=((HT.dL n 0 lo:Nat):Int)/\(sliceBounds lo hi none n).2.1=((HT.dL n n hi:Nat):Int)/\(sliceBounds lo hi none n).2.2=1:=by
 refine⟨?_,?_,rfl⟩
 ·cases lo with
  | none=>simp [sliceBounds,HT.dL]
  | some i=>
   simp only [sliceBounds,HT.dL,Option.getD_none,show(1:Int) > 0 by decide,if_true]
   by_cases h:i < 0
   ·simp only [h,if_true] <;> omega
   ·simp only [h,if_false] <;> omega
 ·cases hi with
  | none=>simp [sliceBounds,HT.dL]
  | some i=>
   simp only [sliceBounds,HT.dL,Option.getD_none,show(1:Int) > 0 by decide,if_true]
   by_cases h:i < 0
   ·simp only [h,if_true] <;> omega
   ·simp only [h,if_false] <;> omega
theorem uy (its:List Value) (lo hi:Option Int):slicePick its.toArray lo hi none=((its.drop (HT.dL its.length 0 lo)).take (HT.dL its.length its.length hi - HT.dL its.length 0 lo)).toArray:=by
 obtain⟨h1,h2,h3⟩:=vY lo hi its.toArray.size;unfold slicePick;rw [h1,h2,h3];simp only [sliceRange_one,pick_run,P7] <;> rfl
def Oc (K:PySem.W.Frag):V->Option Int->Option Int->Hp->VK->Prop:=λx lo hi H Q=>∃ a xs,x=.ref a/\jD K H a xs/\∀ p,H p=none->Q (.ref p) (bz H p (.lst (tZ xs lo hi)))
theorem Hj:IC X (Oc X.K):=by
 intro pins s σ H x v vl vu lo hi sl Q I rx hs pl pu h;obtain⟨a,xs,rfl,hx,q⟩:=h;cases rx;obtain⟨its,r,ht,hz⟩:=I.list hx;have hlen:=r.length;refine⟨"list",_,slot_list_getitem.lookup,ht.isList.typeIs,?_⟩
 refine wpAny_getItem_list_slice ht.isList hs pl pu .none (by simp) ?_ (by rw [P7] <;> omega)
 rw [uy,<- hlen];refine⟨.ref s.heap.objs.size,_,I.laid (t':=s.toks) (o:=.lst (tZ xs lo hi)) (λb ob q=>pp _ q) (P3 _) ?_,rfl,q _ (I.hok.fresh (P3 _))⟩
 exact⟨QH (qu xs lo hi) hz,_,0,(r.drop (HT.dL xs.length 0 lo)).take (HT.dL xs.length xs.length hi - HT.dL xs.length 0 lo),P0 _ rfl⟩
theorem kg:c_ X (.builtin "len") (λxs H Q=>∃ p ys,xs=[.ref p]/\(jD X.K H p ys\/m9 X.K H p ys)/\Q (.int ys.length) H):=by
 intro pins s σ H xs us Q I r h;obtain⟨p,ys,rfl,hq,q⟩:=h;obtain⟨u,rfl,rx⟩:=nG r;cases rx;have hn:=vN;rcases hq with hq | hq
 ·obtain⟨its,r',pl,hz⟩:=I.list hq;have hlen:=r'.length;exact Calls.call_len_list pl.isList (by simp only [P7] <;> omega) ⟨.int ys.length,H,I.tok _,⟨s.toks+1,by rw [P7,hlen]⟩,q⟩
 ·obtain⟨its,r',pl,hz⟩:=I.tuple hq;have hlen:=r'.length;exact len_tuple pl (by simp only [P7] <;> omega) ⟨.int ys.length,H,I.tok _,⟨s.toks+1,by rw [P7,hlen]⟩,q⟩
def Os (K:PySem.W.Frag) (T:String) (x:V) (H:Hp):Prop:=match x with
 | .str _=>T="str"
 | .int _=>T="int"
 | .ref p=>(T="list"/\∃ xs,jD K H p xs)\/(T="tuple"/\∃ o,K.lookup p=some o/\o.cls=.type "tuple"/\o.dict=none)\/
   (T="dict"/\((∃ kvs,H p=some (.dK kvs))\/∃ kvs,H p=some (.dT kvs)))\/(T="set"/\∃ S n,H p=some (.set S n))
 | _=>False
theorem Dy {pins:List (Addr×Obj)} {σ:St} {H:Hp} {s:Shared} {T:String} {x:V} {v:Value} (I:ay X pins σ H s) (r:aS x v) (ty:Os X.K T x H):
  s.TypeIs v T/\∀ a,v=.ref a->∃ ob,s.heap.get? a=some ob/\ob.dict=none:=by
 cases x with
 | str z=>
  obtain⟨t,rfl⟩:=r;cases (show T="str" from ty)
  exact⟨typeIs_str s z t,λ_ e=>nomatch e⟩
 | int i=>
  obtain⟨t,rfl⟩:=r;cases (show T="int" from ty)
  exact⟨typeIs_int s i t,λ_ e=>nomatch e⟩
 | ref p=>
  cases r;rcases ty with ⟨rfl,xs,hq⟩ | ⟨rfl,o,hk,hc,hd⟩ | ⟨rfl,hk⟩ | ⟨rfl,S,n,hk⟩
  ·obtain⟨its,_,pl,_⟩:=I.list hq;refine⟨pl.isList.typeIs,λa e=>?_⟩
   cases e;obtain⟨o,n,e,c,hd,_⟩:=pl;exact⟨o,e,hd⟩
  ·refine⟨⟨o,I.kIn p o hk,hc⟩,λa e=>?_⟩
   cases e;exact⟨o,I.kIn _ o hk,hd⟩
  ·have z:∃ o,s.heap.get? p=some o/\o.ExactDict:=by
    rcases hk with ⟨kvs,hk⟩ | ⟨kvs,hk⟩
    ·obtain⟨_,_,_,_,o,_,_,e,ex,_⟩:=I.hok p _ hk;exact⟨o,e,ex⟩
    ·obtain⟨_,_,_,_,o,_,_,e,ex,_⟩:=I.hok p _ hk;exact⟨o,e,ex⟩
   obtain⟨o,e,ex⟩:=z;refine⟨⟨o,e,ex.1⟩,λa e2=>?_⟩
   cases e2;exact⟨o,e,ex.2.1⟩
  ·obtain⟨o,_,_,_,e,ex,_⟩:=I.hok p _ hk;refine⟨⟨o,e,ex.1⟩,λa e2=>?_⟩
   cases e2;exact⟨o,e,ex.2.1⟩
 | _=>exact False.elim ty
def OB (K:PySem.W.Frag) (T:String) (r:V->List V->Hp->VK->Prop) (to:TE):TE:=fun σ H Q=>to σ H λx H1=>Os K T x H1/\r x [] H1 Q
def Pf (K:PySem.W.Frag) (T:String) (r:V->List V->Hp->VK->Prop) (to:TE) (t:TA):TE:=fun σ H Q=>to σ H λx H1=>Os K T x H1/\t σ H1 λxs H2=>r x xs H2 Q
variable {o e:Expr} {es:List Expr} {to:TE} {t:TA} {name:Str} {apos cpos:Pos} {T id:String} {r:V->List V->Hp->VK->Prop}
theorem Jm (pa:PlainAttrs T) (slot:Slot T name id) (hty:typeOf (.builtin id)=pure (.type "method_descriptor")) (hm:OS X id r) (ho:PE X o to)
  (hbase:attributeBase o name X.env (eval o X.env)=eval o X.env:=by rfl) (hline:(apos.endLine == cpos.line)=true:=by rfl):PE X (.Call (.Attribute o name apos) [] [] cpos) (OB X.K T r to):=by
 intro pins s σ H Q I h;refine wpAny_Call_method0_late hbase hline (b9 (ho pins s σ H _ I h) λv s1 ⟨x,H1,I1,r1,ty,q1⟩=>?_)
 obtain⟨h1,h2⟩:=Dy I1 r1 ty;exact⟨T,id,pa,slot,hty,h1,h2,Calls.callWith_builtin rfl (PySem.evalArgs_none (hm pins s1 σ H1 x [] v [] Q I1 r1 .nil q1))⟩
theorem IT (pa:PlainAttrs T) (slot:Slot T name id) (hty:typeOf (.builtin id)=pure (.type "method_descriptor")) (hm:OS X id r) (ho:PE X o to) (ha:PA X (e::es) t)
  (hbase:attributeBase o name X.env (eval o X.env)=eval o X.env:=by rfl)
  (hfew:((backTo cpos (starEach (e::es) X.env)).all (λx=>!x.1) && (backToKw cpos (keywordEach [] X.env)).all (λx=>x.1.isSome)
   && decide ((e::es).length+([]:List Keyword).length+(if ([]:List Keyword).isEmpty then 0 else 1) < 30))=true:=by rfl)
  (hline:(apos.endLine == cpos.line)=true:=by rfl) (hs:starEach (e::es) X.env=(false,eval e X.env)::starEach es X.env:=by rfl) (hplain:(backTo cpos (starEach es X.env)).any (·.1)=false:=by rfl):
  PE X (.Call (.Attribute o name apos) (e::es) [] cpos) (Pf X.K T r to t):=by
 intro pins s σ H Q I h;refine wpAny_Call_method_late hbase hfew hline rfl (b9 (ho pins s σ H _ I h) λv s1 ⟨x,H1,I1,r1,ty,q1⟩=>?_)
 obtain⟨h1,h2⟩:=Dy I1 r1 ty;refine⟨T,id,pa,slot,hty,h1,h2,?_⟩;have hA:=ha cpos pins s1 σ H1 _ I1 q1;rw [hs] at hA ⊢;refine Calls.callWith_builtin (by show(false || (backTo cpos (starEach es X.env)).any (·.1))=false; rw [hplain] <;> rfl) (Calls.evalArgs_plain ?_)
 exact b9 hA λus s2 ⟨vs,H2,I2,r2,q2⟩=>hm pins s2 σ H2 x vs v us Q I2 r1 r2 q2
end
def O4 (X:Cx) (id:String) (r:V->List V->Hp->VK->Prop):Prop:=
 ∀ (pins:List (Addr×Obj)) (s:Shared) (σ:St) (H:Hp) (x:V) (xs:List V) (v:Value) (us:List Value) (Q:VK),ay X pins σ H s->aS x v->a_ xs us->r x xs H Q->
  wpAny (model X.prog X.w) X.A (call (.builtin id) (v::us)) (EP X pins σ Q) X.xe s
theorem a_.one:∀ {x:V} {us:List Value},a_ [x] us->∃ u,us=[u]/\aS x u
 | _,_,.cons r .nil=>⟨_,rfl,r⟩
section
variable {X:Cx} {pins:List (Addr×Obj)} {σ:St} {H:Hp} {s:Shared} {l b:Addr} {xs ys zs:List V}
theorem ay.lset {its its':List Value} {n:Nat} {f:Array Value->Array Value} {t':Nat} (I:ay X pins σ H s) (hH:H l=some (.lst xs))
  (e:s.heap.get? l=some {cls:=.type "list",data:=.seq its.toArray n}) (hf:f its.toArray=its'.toArray) (hv:a_ ys its') (hz:ys.length<=sizeLine):
  ay X pins σ (bz H l (.lst ys)) {s with heap:=s.heap.update l (Obj.mapSeq f),toks:=t'}:=by
 have q:=PySem.IsL.update e f;rw [hf] at q;refine I.write (x:=l) (e:=l) (by rw [hH]; exact trivial) (.inl rfl) (λb' u hb hu=>(Qw s.heap (Obj.mapSeq f) (Ne.symm hb)).trans hu) ⟨_,q⟩ ?_
 exact⟨hz,its',_,hv,q⟩
theorem ay.lnew {its:List Value} {t':Nat} (I:ay X pins σ H s) (hv:a_ ys its) (hz:ys.length<=sizeLine):
  ay X pins σ (bz H s.heap.objs.size (.lst ys)) {s with heap:=s.heap.push {cls:=.type "list",data:=.seq its.toArray},toks:=t'}:=
 I.laid (λ_ _ q=>pp _ q) (P3 _) ⟨hz,its,0,hv,P0 _ rfl⟩
theorem ay.fresh (I:ay X pins σ H s):H s.heap.objs.size=none:=I.hok.fresh (P3 _)
theorem ay.lstM (I:ay X pins σ H s) (hH:H l=some (.lst xs)):xs.length<=sizeLine/\∃ (its:List Value) (n:Nat),a_ xs its/\xs.length=its.length/\s.heap.get? l=some {cls:=.type "list",data:=.seq its.toArray n}:=by
 obtain⟨z,its,n,r,e⟩:=I.hok l _ hH;exact⟨z,its,n,r,r.length,e⟩
theorem D_ {n:Nat} (h:n<=sizeLine):Builtin.List.listTooLong n=false:=by
 unfold Builtin.List.listTooLong;exact QV (by omega)
end
section
variable {X:Cx}
def HX:V->List V->Hp->VK->Prop:=λx vs H Q=>∃ l xs y,x=.ref l/\vs=[y]/\H l=some (.lst xs)/\xs.length < sizeLine/\Q .non (bz H l (.lst (xs++[y])))
theorem mV:O4 X "list.append" HX:=by
 intro pins s σ H x vs v us Q I rx rv h;obtain⟨l,xs,y,rfl,rfl,hH,hz,q⟩:=h;cases rx;obtain⟨u,rfl,ru⟩:=rv.one;obtain⟨z,its,n,r,hl,e⟩:=I.lstM hH;refine call_meets F.slot_list_append ⟨_,e,rfl⟩ F.entry_list_append (F.args_list_append_2 _ _) (PySem.list_append l its.toArray n u (by rw [P7]; omega)) ⟨e,?_⟩
 refine⟨.non,_,I.lset (its':=its++[u]) hH e (by simp) (r.append (.cons ru .nil)) ?_,rfl,q⟩
 rw [Ql,List.length_singleton];omega
def Gv:V->List V->Hp->VK->Prop:=λx vs H Q=>∃ l b xs zs,x=.ref l/\vs=[.ref b]/\H l=some (.lst xs)/\H b=some (.lst zs)/\xs.length+zs.length<=sizeLine/\Q .non (bz H l (.lst (xs++zs)))
theorem BP:O4 X "list.extend" Gv:=by
 intro pins s σ H x vs v us Q I rx rv h;obtain⟨l,b,xs,zs,rfl,rfl,hH,hB,hz,q⟩:=h;cases rx;obtain⟨u,rfl,ru⟩:=rv.one;cases ru;obtain⟨z,its,n,r,hl,e⟩:=I.lstM hH;obtain⟨z2,its2,n2,r2,hl2,e2⟩:=I.lstM hB;have hsz:its.toArray.size+its2.toArray.size<=sizeLine:=by rw [P7,P7]; omega
 have hlong:¬ (!its.toArray.isEmpty && Builtin.List.listTooLong (its.toArray.size+its2.toArray.size))=true:=by
  rw [D_ hsz,Bool.and_false];exact P6
 refine call_meets F.slot_list_extend ⟨_,e,rfl⟩ F.entry_list_extend (F.args_list_extend_2 _ _)
  (AutoSeq1.list_extend_list_list_0 l its.toArray n b its2.toArray n2 hlong (by rw [P7]; omega) (by omega)) ⟨e,e2,?_⟩
 refine⟨.non,_,I.lset (its':=its++its2) hH e (by simp) (r.append r2) ?_,rfl,q⟩
 rw [Ql];omega
def N7:R2:=λx y H Q=>∃ l b xs zs,x=.ref l/\y=.ref b/\H l=some (.lst xs)/\H b=some (.lst zs)/\xs.length+zs.length<=sizeLine/\∀ p,H p=none->Q (.ref p) (bz H p (.lst (xs++zs)))
theorem KK:fW X (binaryOp .Add) N7:=by
 intro pins s σ H x y v u Q I rx ry h;obtain⟨l,b,xs,zs,rfl,rfl,hH,hB,hz,q⟩:=h;cases rx;cases ry;obtain⟨z,its,n,r,hl,e⟩:=I.lstM hH;obtain⟨z2,its2,n2,r2,hl2,e2⟩:=I.lstM hB;refine PySem.P.add_list e e2 ?_ (by rw [P7,P7]; omega)
 have ea:its.toArray++its2.toArray=(its++its2).toArray:=by simp
 rw [ea];exact⟨.ref _,_,I.lnew (t':=s.toks) (r.append r2) (by rw [Ql]; omega),rfl,q _ I.fresh⟩
end
section
variable {κ:Type} [DecidableEq κ]
def qU (kvs:List (κ×V)) (k:κ):Option V:=(kvs.find? λkv=>decide (kv.1=k)).map (·.2)
def oa (kvs:List (κ×V)) (k:κ) (v:V):List (κ×V):=
 if (kvs.any λkv=>decide (kv.1=k))=true then kvs.map (λkv=>if kv.1=k then(kv.1,v) else kv) else kvs++[(k,v)]
theorem oD {p:κ×V} {r:List (κ×V)} {k:κ} (e:p.1=k):qU (p::r) k=some p.2:=by simp [qU,Qg,e]
theorem oH {p:κ×V} {r:List (κ×V)} {k:κ} (e:¬ p.1=k):qU (p::r) k=qU r k:=by simp [qU,Qg,e]
theorem xS (k:κ):∀ kvs:List (κ×V),(kvs.any λkv=>decide (kv.1=k))=(qU kvs k).isSome
 | []=>rfl
 | p::r=>by
  rw [List.any_cons]
  by_cases e:p.1=k
  ·simp only [oD e,decide_eq_true e,Bool.true_or,Option.isSome_some]
  ·rw [oH e,QV e,Bool.false_or]; exact xS k r
theorem qA (kvs:List (κ×V)) (k:κ) (v:V):(oa kvs k v).length<=kvs.length+1:=by
 unfold oa
 split
 ·rw [P5]; omega
 ·rw [Ql,Qe,Re]; omega
theorem uD.isSome_eq {o:Option V} {u:Option Value} (r:uD o u):o.isSome=u.isSome:=by
 cases o with
 | none=>cases u with
  | none=>rfl
  | some _=>exact(show False from r).elim
 | some _=>cases u with
  | none=>exact(show False from r).elim
  | some _=>rfl
theorem KV.val {kvs:List (κ×V)} {vs:List (κ×Value)} (r:KV kvs vs) (k:κ):uD (qU kvs k) (valueAt vs k):=by
 unfold KV at r
 induction r with
 | nil=>exact True.intro
 | @cons p q ps qs h t ih=>
  obtain⟨h1,h2⟩:=h
  by_cases e:p.1=k
  ·have e':q.1=k:=h1.symm.trans e;have b:valueAt (q::qs) k=some q.2:=by simp [valueAt,Qg,e']
   rw [oD e,b]; exact h2
  ·have e':¬ q.1=k:=λz=>e (h1.trans z)
   have b:valueAt (q::qs) k=valueAt qs k:=by simp [valueAt,Qg,e']
   rw [oH e,b]; exact ih
theorem KV.any {kvs:List (κ×V)} {vs:List (κ×Value)} (r:KV kvs vs) (k:κ):(kvs.any λkv=>decide (kv.1=k))=vs.any λkv=>decide (kv.1=k):=by
 unfold KV at r
 induction r with
 | nil=>rfl
 | cons h t ih=>rw [List.any_cons,List.any_cons,ih,h.1]
theorem KV.repl {kvs:List (κ×V)} {vs:List (κ×Value)} (r:KV kvs vs) (k:κ) {y:V} {u:Value} (ry:aS y u):
  KV (kvs.map λkv=>if kv.1=k then(kv.1,y) else kv) (vs.map λkv=>if kv.1=k then(kv.1,u) else kv):=by
 unfold KV at r ⊢
 induction r with
 | nil=>exact .nil
 | @cons p q ps qs h t ih=>
  rw [Qd,Qd];refine .cons ?_ ih;obtain⟨h1,h2⟩:=h
  by_cases e:p.1=k
  ·rw [if_pos e,if_pos (h1.symm.trans e)]; exact⟨h1,ry⟩
  ·rw [if_neg e,if_neg (λz=>e (h1.trans z))]; exact⟨h1,h2⟩
theorem KV.put {kvs:List (κ×V)} {vs:List (κ×Value)} (r:KV kvs vs) (k:κ) {y:V} {u:Value} (ry:aS y u):KV (oa kvs k y) (stored vs k u):=by
 unfold oa stored;rw [r.any k]
 by_cases e:(vs.any λkv=>decide (kv.1=k))=true
 ·rw [if_pos e,if_pos e]; exact r.repl k ry
 ·rw [if_neg e,if_neg e]; exact Paired.snoc r ⟨rfl,ry⟩
theorem KV.length {kvs:List (κ×V)} {vs:List (κ×Value)} (r:KV kvs vs):kvs.length=vs.length:=Paired.length r
end
theorem Fa {P:Program} {w:World} {k:dJ} {u:Value} (r:aS (kV k) u):(dR P w).is k u=true:=by
 cases k with
 | inl i=>obtain⟨t,e⟩:=(show ∃ t,u=Value.int i t from r); subst e; exact xC P w i t
 | inr x=>obtain⟨t,e⟩:=(show ∃ t,u=Value.str x t from r); subst e; exact yd P w x t
theorem uW {P:Program} {w:World}:∀ {ks:List dJ} {us:List Value},a_ (ks.map kV) us->ItemsAre (dR P w) ks us
 | [],_,r=>by rw [List.map_nil] at r; cases r; exact .nil
 | k::ks,_,r=>by
  rw [Qd] at r;cases r with
  | cons h t=>exact .cons (Fa h) (uW t)
abbrev KT (H:Hp):List (List dJ×V)->List (List dJ×Addr×Value)->Prop:=Paired λp q=>p.1=q.1/\H q.2.1=some (.tup (p.1.map kV))/\aS p.2 q.2.2
theorem KT.val {H:Hp} {kvs:List (List dJ×V)} {xs:List (List dJ×Addr×Value)} (r:KT H kvs xs) (k:List dJ):uD (qU kvs k) ((atKey xs k).map (·.2)):=by
 induction r with
 | nil=>exact True.intro
 | @cons p q ps qs h t ih=>
  obtain⟨h1,_,h2⟩:=h
  by_cases e:p.1=k
  ·have e':q.1=k:=h1.symm.trans e;have b:atKey (q::qs) k=some q.2:=by simp [atKey,Qg,e']
   rw [oD e,b]; exact h2
  ·have e':¬ q.1=k:=λz=>e (h1.trans z)
   have b:atKey (q::qs) k=atKey qs k:=by simp [atKey,Qg,e']
   rw [oH e,b]; exact ih
theorem KT.repl {H:Hp} {kvs:List (List dJ×V)} {xs:List (List dJ×Addr×Value)} (r:KT H kvs xs) (k:List dJ) {y:V} {u:Value} (ry:aS y u):
  KT H (kvs.map λkv=>if kv.1=k then(kv.1,y) else kv) (xs.map (putAt k u)):=by
 induction r with
 | nil=>exact .nil
 | @cons p q ps qs h t ih=>
  rw [Qd,Qd];refine .cons ?_ ih;obtain⟨h1,h2,h3⟩:=h;unfold putAt
  by_cases e:p.1=k
  ·rw [if_pos e,if_pos (h1.symm.trans e)]; exact⟨h1,h2,ry⟩
  ·rw [if_neg e,if_neg (λz=>e (h1.trans z))]; exact⟨h1,h2,h3⟩
theorem KT.put {H:Hp} {kvs:List (List dJ×V)} {xs:List (List dJ×Addr×Value)} (r:KT H kvs xs) (k:List dJ) {b:Addr} {y:V} {u:Value} (hb:H b=some (.tup (k.map kV))) (ry:aS y u):
  KT H (oa kvs k y) (storedH xs k b u):=by
 have e:(kvs.any λkv=>decide (kv.1=k))=(atKey xs k).isSome:=by
  rw [xS,(r.val k).isSome_eq,Option.isSome_map]
 unfold oa storedH;rw [e]
 by_cases q:(atKey xs k).isSome=true
 ·rw [if_pos q,if_pos q]; exact r.repl k ry
 ·rw [if_neg q,if_neg q]; exact Paired.snoc r ⟨rfl,hb,ry⟩
theorem KT.keeps {H H':Hp} {kvs:List (List dJ×V)} {xs:List (List dJ×Addr×Value)} (r:KT H kvs xs) (ht:∀ b ys,H b=some (.tup ys)->H' b=some (.tup ys)):KT H' kvs xs:=
 Paired.mapP r λ_ _ z=>⟨z.1,ht _ _ z.2.1,z.2.2⟩
section
variable {P:Program} {w:World} {H:Hp} {h:Heap} {a:Addr}
theorem IZ {u:HO} (ok:mQ P w H h) (e:Rd H a u):dc P w H h a u:=e.ok ok
theorem EE {kvs:List (dJ×V)} (ok:mQ P w H h) (e:Rd H a (.dK kvs)):kvs.length<=sizeLine/\(a == sysModules)=false/\∃ vs,KV kvs vs/\h.DictOf (dR P w) a vs:=
 show dc P w H h a (.dK kvs) from IZ ok e
theorem LM {kvs:List (dJ×V)} (ok:mQ P w H h) (e:H a=some (.dK kvs)):kvs.length<=sizeLine/\(a == sysModules)=false/\∃ vs,KV kvs vs/\h.DictOf (dR P w) a vs:=EE ok (.inl e)
theorem zP {ks:List dJ} (ok:mQ P w H h) (e:H a=some (.tup (ks.map kV))):(tupleKind (dR P w)).is h ks a:=by
 obtain⟨_,its,r,o,h1,h2,n,h3⟩:=(show dc P w H h a (.tup (ks.map kV)) from ok a _ e)
 exact⟨o,its.toArray,n,h1,h2,h3,by simpa using uW r⟩
theorem DJ {kvs:List (List dJ×V)} (ok:mQ P w H h) (e:Rd H a (.dT kvs)):kvs.length<=sizeLine/\(a == sysModules)=false/\
  ∃ xs,KT H kvs xs/\h.DictOfH (tupleKind (dR P w)) a xs:=by
 obtain⟨z,y,xs,r,o,es,ep,h1,h2,h3,h4,h5⟩:=(show dc P w H h a (.dT kvs) from IZ ok e)
 refine⟨z,y,xs,r,o,es,ep,h1,h2,h3,h4,λx hx=>?_,h5⟩
 have all:∀ {l:List (List dJ×V)} {m:List (List dJ×Addr×Value)},KT H l m->∀ x∈m,(tupleKind (dR P w)).is h x.1 x.2.1:=by
  intro l m q
  induction q with
  | nil=>intro x hx; exact nomatch hx
  | @cons p q ps qs hq t ih=>
   intro x hx;rcases P8.mp hx with e | hx
   ·subst e;exact zP ok (by rw [<- hq.1]; exact hq.2.1)
   ·exact ih x hx
 exact all r x hx
theorem L4 {kvs:List (List dJ×V)} (ok:mQ P w H h) (e:H a=some (.dT kvs)):kvs.length<=sizeLine/\(a == sysModules)=false/\
  ∃ xs,KT H kvs xs/\h.DictOfH (tupleKind (dR P w)) a xs:=DJ ok (.inl e)
end
def Cf (H:Hp) (a:Addr) (y:V) (r:Option V):Prop:=
 (∃ kvs k,Rd H a (.dK kvs)/\y=kV k/\r=qU kvs k)\/∃ kvs k b,Rd H a (.dT kvs)/\y=.ref b/\H b=some (.tup (k.map kV))/\r=qU kvs k
def Hm (H:Hp) (a:Addr) (y v:V) (H':Hp):Prop:=
 (∃ kvs k,H a=some (.dK kvs)/\y=kV k/\kvs.length < sizeLine/\H'=bz H a (.dK (oa kvs k v)))\/
 ∃ kvs k b,H a=some (.dT kvs)/\y=.ref b/\H b=some (.tup (k.map kV))/\kvs.length < sizeLine/\H'=bz H a (.dT (oa kvs k v))
theorem Cf.k {H:Hp} {a:Addr} {kvs:List (dJ×V)} {k:dJ} (e:H a=some (.dK kvs)):Cf H a (kV k) (qU kvs k):=.inl ⟨kvs,k,.inl e,rfl,rfl⟩
theorem Hm.k {H:Hp} {a:Addr} {kvs:List (dJ×V)} {k:dJ} {v:V} (e:H a=some (.dK kvs)) (hl:kvs.length < sizeLine):Hm H a (kV k) v (bz H a (.dK (oa kvs k v))):=.inl ⟨kvs,k,e,rfl,hl,rfl⟩
section
variable {X:Cx} {pins:List (Addr×Obj)} {σ:St} {H:Hp} {s:Shared} {a:Addr} {y v:V} {u r:Value} {o:Option V} {A:Around} {E:Value->Shared->Prop}
theorem ay.big (I:ay X pins σ H s):sysModules < s.heap.objs.size:=by
 have h:mainGlobals < s.heap.objs.size:=(I.mod.glob.keeps I.bk).lt;exact Nat.lt_trans (by decide) h
theorem Cw {Q:Value->Shared->Prop} (hu:A.units+1 < cLine) (I:ay X pins σ H s) (g:Cf H a y (some v)) (ry:aS y u) (h:∀ w' s',ay X pins σ H s'->aS v w'->Q w' s'):
  wpAny (model X.prog X.w) A (getItem (.ref a) u) Q E s:=by
 rcases g with ⟨kvs,k,e,ey,l⟩ | ⟨kvs,k,b,e,ey,eb,l⟩
 ·subst ey;obtain⟨z,hd,vs,rel,dd⟩:=EE I.hok e;obtain⟨w',hw,rw'⟩:=uD.some_of (v:=v) (o:=valueAt vs k) (by rw [l]; exact rel.val k)
  exact wpAny_getItem_of (Fa ry) dd.mapOf hw (h w' _ (I.tok _) rw')
 ·subst ey;cases (show u=Value.ref b from ry)
  obtain⟨z,hd,xs,rel,dd⟩:=DJ I.hok e;obtain⟨w',hw,rw'⟩:=uD.some_of (v:=v) (o:=(atKey xs k).map (·.2)) (by rw [l]; exact rel.val k)
  obtain⟨p,hp,hp2⟩:=QQ.mp hw;refine wpAny_getItem_heap (tupleKind_room_in1 hu) (zP I.hok eb) dd hp ?_;rw [hp2];exact h w' _ (I.tok _) rw'
theorem rg {h':Heap} {t':Nat} {ob:HO} (I:ay X pins σ H s) (mu:LI (H a)) (hs:Heap.SameBut a s.heap h') (he:∃ q,h'.get? a=some q) (new:dc X.prog X.w (bz H a ob) h' a ob):
  ay X pins σ (bz H a ob) {s with heap:=h',toks:=t'}:=
 I.write (x:=a) (e:=a) mu (.inl rfl) (λb q hb z=>(hs.2 b hb).trans z) he new
theorem JW {P:Program} {w:World} {H':Hp} {h':Heap} {kvs:List (dJ×V)} {vs:List (dJ×Value)} (z:kvs.length<=sizeLine) (hd:(a == sysModules)=false) (rel:KV kvs vs) (dd:h'.DictOf (dR P w) a vs):
  dc P w H' h' a (.dK kvs):=⟨z,hd,vs,rel,dd⟩
theorem Cm {H':Hp} {Q:Unit->Shared->Prop} (hu:A.units+1 < cLine) (I:ay X pins σ H s) (g:Hm H a y v H') (ry:aS y u) (rv:aS v r) (h:∀ s',ay X pins σ H' s'->Q () s'):
  wpAny (model X.prog X.w) A (setItem (.ref a) u r) Q E s:=by
 rcases g with ⟨kvs,k,e,ey,l,eH⟩ | ⟨kvs,k,b,e,ey,eb,l,eH⟩
 ·subst ey eH;obtain⟨z,hd,vs,rel,dd⟩:=LM I.hok e;have hz:vs.length<=sizeLine:=by rw [<- rel.length]; exact z
  have hl:(oa kvs k v).length<=sizeLine:=by have:=qA kvs k v; omega
  refine wpAny_setItem_pairs (hsz:=hz) (Fa ry) dd λh' dd' hs=>h _ ?_
  have he:∃ q,h'.get? a=some q:=let ⟨q,_,_,hq,_⟩:=dd'; ⟨q,hq⟩
  exact rg I (by rw [e]; exact True.intro) hs he (JW hl hd (rel.put k rv) dd')
 ·subst ey eH;cases (show u=Value.ref b from ry)
  obtain⟨z,hd,xs,rel,dd⟩:=L4 I.hok e;have hz:xs.length<=sizeLine:=by rw [<- Paired.length rel]; exact z
  have hl:(oa kvs k v).length<=sizeLine:=by have:=qA kvs k v; omega
  refine wpAny_setItem_heap (hsz:=hz) (tupleKind_room_in1 hu) (zP I.hok eb) dd λh' dd' hs=>h _ ?_
  obtain⟨q,es,ep,hq,h2,h3,h4,_,h5⟩:=dd';refine rg I (by rw [e]; exact True.intro) hs ⟨q,hq⟩ ⟨hl,hd,_,(rel.put k eb rv).keeps λc ys ec=>?_,q,es,ep,hq,h2,h3,h4,h5⟩
  rw [aK (LO ec e (λz=>nomatch z))]
  exact ec
end
def DP (i:Expr):Prop:=∀ ov iv,subscripted i false ov iv=operate [ov,iv] (getItem ov iv)
theorem AN {prog:Program} {w:World} {A:Around} {E:Value->Shared->Prop} {s:Shared} {env:Env} {value slice:Expr} {pos:Pos} {T id:String} {Q:Value->Shared->Prop}
  (hl:typeLookup (.type T) "__getitem__"=pure (some (.builtin id))) (hs:DP slice)
  (h:wpAny (model prog w) A (eval value env) (λo s₁=>wpAny (model prog w) A (eval slice env) (λi s₂=>s₂.TypeIs o T/\wpAny (model prog w) A (getItem o i) Q E s₂) E s₁) E s):
  wpAny (model prog w) A (eval (.Subscript value slice pos) env) Q E s:=by
 refine Subscript_ (QE h (λo s₁ h₁=>QE h₁ (λi s₂ h₂=>?_) λ_ _ x=>x) λ_ _ x=>x)
 obtain⟨hT,h₂⟩:=h₂;unfold subscriptTail;refine gt ?_;rw [getitemInPython_of_ne hT.not_modules];refine gt (wpAny_specialOf hT hl ?_);have fin:wpAny (model prog w) A (subscripted slice false o i) (λr s₃=>wpAny (model prog w) A (letTemporaryGo value o r >>= λ_=>pure r) Q E s₃) E s₂:=by
  rw [hs o i];exact wpAny_operating (QE h₂ (λr s₃ h₃=>gt (wpAny_letTemporaryGo (PZ h₃))) λ_ _ x=>x)
 first
  | exact PZ (gt fin)
  | exact gt (PZ (gt fin))
  | exact gt fin
theorem xP {X:Cx} {pins:List (Addr×Obj)} {σ:St} {H:Hp} {s:Shared} {a:Addr} {y:V} {o:Option V} (I:ay X pins σ H s) (g:Cf H a y o):s.TypeIs (.ref a) "dict":=by
 rcases g with ⟨kvs,k,e,_,_⟩ | ⟨kvs,k,b,e,_,_,_⟩
 ·obtain⟨_,_,vs,_,dd⟩:=EE I.hok e;exact dd.typeIs
 ·obtain⟨_,_,xs,_,dd⟩:=DJ I.hok e;exact dd.typeIs
def LX (td ty:TE):TE:=fun σ H Q=>td σ H λx H1=>ty σ H1 λy H2=>∃ a v,x=.ref a/\Cf H2 a y (some v)/\Q v H2
section
variable {X:Cx} {o i e value:Expr} {pos pos' tpos:Pos} {td ty tv:TE}
theorem GY (hu:X.A.units+1 < cLine) (ho:PE X o td) (hi:PE X i ty) (hs:DP i):PE X (.Subscript o i pos) (LX td ty):=by
 intro pins s σ H Q I h;refine AN PySem.F.slot_dict_getitem.lookup hs (b9 (ho pins s σ H _ I h) λu s1 ⟨x,H1,I1,rx,q1⟩=>b9 (hi pins s1 σ H1 _ I1 q1) λiv s2 ⟨y,H2,I2,ry,a,v,ex,g,q2⟩=>?_)
 subst ex;obtain rfl:u=Value.ref a:=rx;exact⟨xP I2 g,Cw hu I2 g ry λw' s3 I3 rw'=>⟨v,H2,I3,rw',q2⟩⟩
end
theorem EV {P:Program} {w:World} {H:Hp} (h:Heap) (hb:sysModules < h.objs.size):dc P w H (h.push {cls:=.type "dict",data:=.dict #[]}) h.objs.size (.dK []):=
 ⟨QW _,beq_eq_false_iff_ne.mpr (Ne.symm (P9 hb)),[],.nil,Heap.DictOf.new h⟩
def Kv:TE:=λ_ H Q=>∀ p,H p=none->Q (.ref p) (bz H p (.dK []))
section
variable {X:Cx} {pos:Pos}
theorem Fr:PE X (.Dict [] [] pos) Kv:=λpins s σ H Q I h=>
 wpAny_Dict_empty ⟨.ref s.heap.objs.size,_,I.laid (a:=s.heap.objs.size) (o:=.dK []) (t':=s.toks) (λ_ _ q=>pp _ q) (P3 _) (EV s.heap I.big),rfl,h _ (I.hok.fresh (P3 _))⟩
end
abbrev VV:List (V×V)->List (Value×Value)->Prop:=Paired λp q=>aS p.1 q.1/\aS p.2 q.2
structure M2 (X:Cx) (o:Expr) (m:Str) (apos:Pos) (e f:Expr) (cpos:Pos):Prop where
 base:attributeBase o m X.env (eval o X.env)=eval o X.env
 few:((backTo cpos (starEach [e,f] X.env)).all (λx=>!x.1) && (backToKw cpos (keywordEach [] X.env)).all (λx=>x.1.isSome)
  && decide (([e,f]:List Expr).length+([]:List Keyword).length+(if ([]:List Keyword).isEmpty then 0 else 1) < 30))=true
 line:(apos.endLine == cpos.line)=true
 trees:backTo cpos (starEach [e,f] X.env)=[(false,eval e X.env),(false,eval f X.env)]
def bV (H:Hp) (a:Addr):Prop:=(∃ kvs,Rd H a (.dK kvs))\/∃ kvs,Rd H a (.dT kvs)
end L2
namespace Att
open PySem PySem.W PySem.Calls PyProof.Rows
theorem qF {P:Params} {h:Heap}:∀ (ns:List Int) (vs:List Value),WellAll P h vs (ns.map WData.int)->IntsAre vs ns:=by
 intro ns
 induction ns with
 | nil=>
  intro vs w;rw [List.map_nil] at w;cases w;exact .nil
 | cons n ns ih=>
  intro vs w;rw [Qd] at w;cases w with
  | cons a b=>
   cases a;exact .cons _ _ (ih _ b)
theorem Ck {l:OpenLaw} {n:Nat} (hn:l.most=some n) {P:Params} {h:Heap} {args:List WData} {vals:List Value}
  (hpre:l.row.toRowW.claim.pre args=true) (hwl:WellAll P h vals args):
  ∃ a vs ns,vals=[Value.ref a]/\args=[WData.list (ns.map WData.int)]/\h.get? a=some {cls:=.type "list",data:=.seq vs.toArray}/\IntsAre vs ns/\ns.length<=n:=by
 have hsh:WShape.hasAll [] args [.list .int]=true:=(pre_splitW hpre).1;have hc:l.pre.holds [] {args:=args}=true:=(pre_splitW hpre).2;obtain⟨d,r,rfl,h1,h2⟩:=hasAllW_cons hsh;obtain rfl:=hasAllW_nil h2;obtain⟨xs,rfl,h3⟩:=hasW_list h1;obtain⟨ns,rfl⟩:=items_int h3;have hlen:ns.length<=n:=by
  unfold OpenLaw.pre at hc;have h4:(WTm.not (.lt (.lit (.int (n:Int))) (.len (.arg 0)))).holds [] {args:=[.list (ns.map .int)]}=true:=by
   have h4:=(holds_andW hc).1;rw [hn] at h4;exact h4
  have h5:=condW_of h4 (w_not (w_lt w_lit (w_len_list (w_arg rfl))));rw [P5] at h5;refine Nat.le_of_not_lt λq=>?_
  have q':(n:Int) < ((ns.length:Nat):Int):=by omega
  first
   | (rw [decide_eq_true q'] at h5; exact absurd h5 (by decide))
   | (simp at h5; omega)
 cases hwl with
 | cons w1 w2=>
  cases w2;cases w1 with
  | list ho hall=>exact⟨_,_,ns,rfl,rfl,ho,qF ns _ hall,hlen⟩
theorem Bm (l:OpenLaw) (args:List WData):l.row.toRowW.claim.post args (.bool true) args=true:=
 postW_of (r:=l.row.toRowW) (X:=(true == true))
  (show WShape.has [] (.bool true) .bool=true by first | rfl | decide | simp [WShape.has,WShape.arms,WShape.armsAll])
  (show (WTm.eq .res (.lit (.bool true))).value [] {args:=args,res:=some (.bool true),after:=args}=some (.bool (true == true)) from w_eq_bool (w_res rfl) w_lit) rfl
theorem attach_call {l:OpenLaw} {n:Nat} {q:Program} {loose:List Str} {XP:(Str->Option Value)->Heap->Prop} {YP:World->Heap->Prop} {d:DefRec}
  (hn:l.most=some n) (hdf:d.params.defaults=[])
  (call:∀ (w:World) (s₀ s₁:Shared) (mg mb:Str->Option Value) (fa:Addr) (o:Obj) (pm cd doc:Value) (a:Addr) (vs:List Value) (ns:List Int),
   Ground q loose [] XP w s₀ mg mb s₁.heap->YP w s₁.heap->
   s₁.heap.get? fa=some o->o.data=.func (docDef d.name d.params d.body d.scope pm cd doc)->s₁.heap.CodeRec cd d.name->mg d.name=some (.ref fa)->
   s₁.heap.get? a=some {cls:=.type "list",data:=.seq vs.toArray}->IntsAre vs ns->ns.length<=n->s₁.gens=#[]->
   codeAny (model l.prog w) callerA (.call (.ref fa) ⟨[.ref a],[]⟩) (λr s'=>r=.ok (.ret (.bool true))/\OldK s₁.heap s'.heap/\s'.os=s₁.os/\AllBare s'.gens) s₁):
  WalkO q loose XP YP l.row.toRowW d [] (λf vs=>PySem.call f vs):=by
 intro w s₀ s₁ mg mb G Y fa o pm cd doc dV kV ho hd hcd hD hmg hg args vals as hpre hlay hrd hwl hlo;obtain rfl:dV=.none:=Dflts.none hD hdf;obtain rfl:kV=.none:=Dflts.noKw hD;obtain⟨a,vs,ns,rfl,rfl,hobj,hints,hlen⟩:=Ck hn hpre hwl;refine enter_call (codeAny_mono (call w s₀ s₁ mg mb fa o pm cd doc a vs ns G Y ho (fd_plain hd) hcd hmg hobj hints hlen hg) λr s' hq=>?_)
 obtain⟨rfl,h2,h3,h4⟩:=hq;exact⟨.inl ⟨.bool true,.bool true,[],rfl,λ_=>rfl,.bool true,Bm l _,λ_=>⟨List.Pairwise.nil,λ_ hm=>(nomatch hm)⟩⟩,h2,h3,h4⟩
section
variable {prog:Program} {w:World} {A:Around} {E:Value->Shared->Prop} {s:Shared} {K:Frag}
def Og (h:Heap) (L d:Addr):List (Addr×Obj):=(List.range h.objs.size).filterMap λa=>if a=L\/a=d then none else(h.get? a).map λo=>(a,o)
end
end Att
namespace L2
open PySem PySem.Spec PyProof.Rows
theorem va:∀ {vs:List Value} {ns:List Int},IntsAre vs ns->a_ (ns.map V.int) vs
 | _,_,.nil=>.nil
 | _,_,.cons n t h=>.cons ⟨t,rfl⟩ (va h)
abbrev PY {K:PySem.W.Frag} {h:Heap} (_:K.In h):PySem.W.Frag:=K
def kX (s:Stmt):Arguments:=match s with
 | .FunctionDef _ a _ _ _ _ _ _ _ _=>a
 | _=>{posonlyargs:=[],args:=[],vararg:=none,kwonlyargs:=[],kw_defaults:=[],kwarg:=none,defaults:=[]}
def fS (s:Stmt):List Stmt:=match s with
 | .FunctionDef _ _ b _ _ _ _ _ _ _=>b
 | _=>[]
def am (s:Stmt):Scope:=match s with
 | .FunctionDef _ _ _ _ _ _ sc _ _ _=>sc
 | _=>{kind:=.function,names:=[],isGenerator:=false,isCoroutine:=false}
abbrev ca:Fv:=λ_ _ _ _ _ _=>False
abbrev E0:XK:=λ_ _ _=>False
theorem Nr {X:Cx}:wv ca X E0:=λ_ _ _ _ _ _ _ h=>h.elim
structure bL (K:PySem.W.Frag) (x qual:Str) (st:Stmt) (f:Addr) (fd:FuncData):Prop where
 ex:∃ (oc:Value) (od:Option Addr) (kV doc pm:Value) (an:Option Addr) (cdv ct:Value) (osl:Array (Option Value)),
  fd=PySem.W.fnOf x qual (kX st) (fS st) (am st) .none kV doc pm an cdv ct/\K.lookup f=some ⟨oc,od,.func fd,osl⟩/\PySem.W.codeIn K cdv qual=true
 kp:PySem.W.keepIn K (.ref f)=true
section
variable {P:Program} {w:World} {K:PySem.W.Frag} {mg:Str->Option Value} {base:Heap}
theorem bL.ok {x qual:Str} {st:Stmt} {f:Addr} {fd:FuncData} {N ps:List Str} {k:Nat} {sp:Sp} (F:bL K x qual st f fd) (S:ao N ps (am st)) (len:∀ vs H Q E,sp vs H Q E->vs.length=ps.length)
  (hbody:∀ (cdv:Value) (A:Around) (outer:List Env) (s:Shared) (H:Hp) (vs:List V) (Q:VK) (E:XK),ce k (A.deeper (envOfC qual (am st) s.heap.objs.size f cdv))->sp vs H Q E->
   ∃ t,oA (fu ca P w K mg base N qual (am st) f cdv A outer s H E).nox (fS st) t/\t {nx:=λ_ H'=>Q .non H',rt:=Q} (start N vs) H):aI P w K mg base ca (k+1) f fd ps sp:=by
 obtain⟨oc,od,kV,doc,pm,an,cdv,ct,osl,rfl,lk,hcd⟩:=F.ex;refine IO lk hcd S len λA outer s H vs Q E hr hsp=>?_
 obtain⟨t,h,q⟩:=hbody cdv A outer s H vs Q E hr hsp;exact⟨t,h.nox,q⟩
theorem bL.binds {x qual:Str} {st:Stmt} {f:Addr} {fd:FuncData} {ps:List Str} (F:bL K x qual st f fd)
  (h:∀ (kV doc pm:Value) (an:Option Addr) (cdv ct:Value) (us:List Value),us.length=ps.length->bindArgs (PySem.W.fnOf x qual (kX st) (fS st) (am st) .none kV doc pm an cdv ct) ⟨us,[]⟩=pure (ps.zip us)):nP K fd ps []:=by
 obtain⟨oc,od,kV,doc,pm,an,cdv,ct,osl,rfl,lk,hcd⟩:=F.ex;exact .all (h kV doc pm an cdv ct)
theorem yJ {x qual:Str} {st:Stmt} {f:Addr} {oc:Value} {od an:Option Addr} {osl:Array (Option Value)} {kV doc pm cdv ct:Value} (l:K.lookup f=some ⟨oc,od,.func (PySem.W.fnOf x qual (kX st) (fS st) (am st) .none kV doc pm an cdv ct),osl⟩)
  (c:PySem.W.codeIn K cdv qual=true) (k:PySem.W.keepIn K (.ref f)=true):bL K x qual st f (PySem.W.fnOf x qual (kX st) (fS st) (am st) .none kV doc pm an cdv ct):=⟨⟨oc,od,kV,doc,pm,an,cdv,ct,osl,rfl,l,c⟩,k⟩
end
theorem Ej {A B:Prop} (h:B):if false=true then A else B:=by
 rw [if_neg P6];exact h
theorem LZ {A B:Prop} (h:A):if true=true then A else B:=by
 rw [if_pos rfl];exact h
end L2
set_option linter.all false
namespace HM
theorem xU (a b:Int):Int.gcd b (a.fmod b)=Int.gcd a b:=by
 have h:=Int.gcd_sub_mul_right_right b a (a.fdiv b);rw [Int.fmod_def,Int.mul_comm b,h,Int.gcd_comm]
theorem Ap (a b:Int) (h:b≠0):(a.fmod b).natAbs < b.natAbs:=by
 rcases Int.lt_or_gt_of_ne h with hb | hb
 ·have e:a.fmod b=-((-a).fmod (-b)):=by rw [Int.neg_fmod_neg,Int.neg_neg]
  have h1:=QR (-a) (show 0 < -b by omega)
  have h2:=Q_ (-a) (show 0 < -b by omega)
  omega
 ·have h1:=QR a hb;have h2:=Q_ a hb;omega
theorem xA (a:Int):((Int.gcd a 0:Nat):Int)=if a < 0 then -a else a:=by
 rw [Int.gcd_zero_right]
 split <;> omega
def CB (t b:Int):Int:=if b < 0 then -((Int.gcd t b:Nat):Int) else((Int.gcd t b:Nat):Int)
theorem Ey {t b:Int} (h:b≠0):CB t b≠0:=by
 have h1:Int.gcd t b≠0:=λe=>h (Int.gcd_eq_zero_iff.mp e).2
 unfold CB
 split <;> omega
theorem vH {t b:Int} (h:b≠0):t.fdiv (CB t b)=(Rat.divInt t b).num:=by
 have hg:((Int.gcd t b:Nat):Int) ∣ t:=Int.gcd_dvd_left t b;rw [Rat.num_divInt,Int.gcd_comm b t];unfold CB;rcases Int.lt_or_gt_of_ne h with hb | hb
 ·rw [if_pos hb,Int.sign_eq_neg_one_of_neg hb,Int.fdiv_eq_ediv_of_dvd (Int.neg_dvd.mpr hg),Int.ediv_neg,Int.neg_mul,Int.one_mul,Int.neg_ediv_of_dvd hg]
 ·rw [if_neg (by omega),Int.sign_eq_one_of_pos hb,Int.fdiv_eq_ediv_of_dvd hg,Int.one_mul]
theorem vX {t b:Int} (h:b≠0):b.fdiv (CB t b)=((Rat.divInt t b).den:Int):=by
 have hg:((Int.gcd t b:Nat):Int) ∣ b:=Int.gcd_dvd_right t b;rw [Rat.den_divInt,Int.gcd_comm b t,if_neg h];unfold CB;rcases Int.lt_or_gt_of_ne h with hb | hb
 ·rw [if_pos hb,Int.fdiv_eq_ediv_of_dvd (Int.neg_dvd.mpr hg),Int.ediv_neg,Int.natCast_ediv];rw [show ((b.natAbs:Nat):Int)=-b by omega,Int.neg_ediv_of_dvd hg]
 ·rw [if_neg (by omega),Int.fdiv_eq_ediv_of_dvd hg,Int.natCast_ediv]
  rw [show ((b.natAbs:Nat):Int)=b by omega]
theorem wZ (a b:Rat):Rat.divInt (a.num*b.den+b.num*a.den) (a.den*b.den)=a+b:=by
 rw [Rat.add_def',Rat.mkRat_eq_div,QC]; simp [Rat.intCast_natCast]
theorem zx (a b:Rat):Rat.divInt (a.num*b.den - b.num*a.den) (a.den*b.den)=a - b:=by
 rw [Rat.sub_def',Rat.mkRat_eq_div,QC]; simp [Rat.intCast_natCast]
theorem w_ (a b:Rat):Rat.divInt (a.num*b.num) (a.den*b.den)=a*b:=by
 rw [Rat.mul_def',Rat.mkRat_eq_div,QC]; simp [Rat.intCast_natCast]
theorem Dv (a b:Rat):Rat.divInt (a.num*b.den) (a.den*b.num)=a / b:=by
 rw [Rat.div_def,<- Rat.num_divInt_den b,Rat.inv_divInt]
 conv=>rhs; rw [<- Rat.num_divInt_den a]
 rw [Rat.divInt_mul_divInt,Rat.num_divInt_den]
def kZ:Nat->Nat
 | 0=>0
 | n+1=>if (kZ n+1)*(kZ n+1)<=n+1 then kZ n+1 else kZ n
theorem u3:∀ n,kZ n*kZ n<=n/\n < (kZ n+1)*(kZ n+1)
 | 0=>by decide
 | n+1=>by
  obtain⟨h1,h2⟩:=u3 n;unfold kZ
  split
  ·rename_i h
   refine⟨h,?_⟩;have:(kZ n+1+1)*(kZ n+1+1)=(kZ n+1)*(kZ n+1)+2*(kZ n+1)+1:=by grind
   omega
  ·rename_i h
   exact⟨Nat.le_succ_of_le h1,Nat.lt_of_not_le h⟩
def jP (n:Int):Int:=(kZ n.toNat:Nat)
structure Rt (n r:Int):Prop where
 nn:0<=r
 le:r*r<=n
 lt:n < (r+1)*(r+1)
theorem lv {n:Int} (h:0<=n):Rt n (jP n):=by
 obtain⟨h1,h2⟩:=u3 n.toNat;refine⟨by unfold jP; omega,?_,?_⟩
 ·unfold jP;have:((kZ n.toNat*kZ n.toNat:Nat):Int)<=(n.toNat:Int):=Int.ofNat_le.mpr h1;rw [Int.natCast_mul] at this;omega
 ·unfold jP;have:((n.toNat:Nat):Int) < (((kZ n.toNat+1)*(kZ n.toNat+1):Nat):Int):=Int.ofNat_lt.mpr h2;rw [Int.natCast_mul,Int.natCast_add] at this;rw [show ((n.toNat:Nat):Int)=n by omega] at this
  exact this
theorem pk {a b:Int} (ha:0<=a) (h:a<=b):a*a<=b*b:=Int.mul_le_mul h h ha (by omega)
theorem Rt.le_of {n r x:Int} (h:Rt n r) (hx:x*x<=n):x<=r:=by
 apply Int.not_lt.mp;intro hl;have:=pk (a:=r+1) (b:=x) (by have:=h.nn; omega) (by omega)
 have:=h.lt;omega
theorem Rt.uniq {n r q:Int} (h:Rt n r) (h':Rt n q):r=q:=Int.le_antisymm (h'.le_of h.le) (h.le_of h'.le)
theorem E1 {n r:Int} (h:Rt n r):jP n=r:=(lv (Int.le_trans (by have:=pk (Int.le_refl 0) h.nn; omega) h.le)).uniq h
theorem zV {n x:Int} (e:x*x=n):jP n*jP n=n:=by
 have h:Rt n x.natAbs:=by
  refine⟨by omega,?_,?_⟩
  ·rw [Int.natAbs_mul_self' x]; omega
  ·have:((x.natAbs:Int)+1)*((x.natAbs:Int)+1)=(x.natAbs:Int)*(x.natAbs:Int)+2*x.natAbs+1:=by grind
   rw [Int.natAbs_mul_self' x] at this;omega
 rw [E1 h,Int.natAbs_mul_self' x];exact e
theorem Bf {n g r:Int} (hg:0 < g) (hr:0<=r) (h:r*r<=n):r<=(g+n / g) / 2:=by
 apply Int.not_lt.mp;intro hl;have h1:g+n / g+1<=2*r:=by omega
 have hn:0<=n:=by have:=pk (Int.le_refl 0) hr; omega
 have hq:0<=n / g:=Int.ediv_nonneg hn (by omega)
 have h2:=pk (a:=g+n / g+1) (b:=2*r) (by omega) h1
 have h3:n < (n / g+1)*g:=by
  have:=Int.lt_ediv_add_one_mul_self n hg;exact this
 have h4:0<=(g - (n / g+1))*(g - (n / g+1)):=by
  rw [<- Int.natAbs_mul_self' (g - (n / g+1))]; exact Int.natCast_nonneg _
 generalize n / g=q at*
 grind
theorem BO {n g r:Int} (hn:0<=n) (h:Rt n r) (hg:r < g):(g+n / g) / 2 < g:=by
 have h0:=h.nn;have h1:n / g < r+1:=by
  apply Int.ediv_lt_of_lt_mul (by omega)
  have:=h.lt;have h2:(r+1)*(r+1)<=(r+1)*g:=Int.mul_le_mul_of_nonneg_left (by omega) (by omega)
  omega
 omega
def Bt (n:Nat) (x:Int):Prop:=x.natAbs < 2 ^ n
theorem sS {m n:Nat} (h:m<=n):2 ^ m<=2 ^ n:=Nat.pow_le_pow_right (by decide) h
theorem Bt.mono {m n:Nat} {x:Int} (h:Bt m x) (hm:m<=n):Bt n x:=Qb h (sS hm)
theorem Bt.mul {m n:Nat} {x y:Int} (hx:Bt m x) (hy:Bt n y):Bt (m+n) (x*y):=by
 unfold Bt at*
 rw [Q1,Nat.pow_add];exact Nat.mul_lt_mul'' hx hy
theorem Bt.add {m n:Nat} {x y:Int} (hx:Bt m x) (hy:Bt n y):Bt (max m n+1) (x+y):=by
 have h1:=hx.mono (Nat.le_max_left m n);have h2:=hy.mono (Nat.le_max_right m n);unfold Bt at*
 have:=Int.natAbs_add_le x y;rw [Nat.pow_succ];omega
theorem Bt.neg {m:Nat} {x:Int} (hx:Bt m x):Bt m (-x):=by unfold Bt at *; omega
theorem Bt.sub {m n:Nat} {x y:Int} (hx:Bt m x) (hy:Bt n y):Bt (max m n+1) (x - y):=by
 rw [Int.sub_eq_add_neg]; exact hx.add hy.neg
theorem Bt.le {m:Nat} {x y:Int} (hx:Bt m x) (h:y.natAbs<=x.natAbs):Bt m y:=Nat.lt_of_le_of_lt h hx
structure Sz (n:Nat) (q:Rat):Prop where
 num:Bt n q.num
 den:Bt n q.den
theorem Sz.mono {m n:Nat} {q:Rat} (h:Sz m q) (hm:m<=n):Sz n q:=⟨h.num.mono hm,h.den.mono hm⟩
theorem aH:∀ a b:Int,(a.fdiv b).natAbs<=a.natAbs
 | .ofNat 0,b=>by
  have e:Int.fdiv (.ofNat 0) b=0:=Int.zero_fdiv b;rw [e]; exact QW _
 | .ofNat (k+1),.ofNat j=>Nat.div_le_self (k+1) j
 | .ofNat (k+1),.negSucc j=>Nat.succ_le_succ (Nat.div_le_self k (j+1))
 | .negSucc _,.ofNat 0=>QW _
 | .negSucc k,.ofNat (j+1)=>Nat.succ_le_succ (Nat.div_le_self k (j+1))
 | .negSucc k,.negSucc j=>Nat.div_le_self (k+1) (j+1)
theorem Sz.divInt {n:Nat} {t b:Int} (ht:Bt n t) (hb:Bt n b) (h:b≠0):Sz n (Rat.divInt t b):=
 ⟨by rw [<- vH h]; exact ht.le (aH _ _),by rw [<- vX h]; exact hb.le (aH _ _)⟩
theorem gu (q:Rat):(q.den:Int)≠0:=by have:=q.den_nz; omega
theorem bG (p q:Rat):(p.den:Int)*q.den≠0:=Int.mul_ne_zero (gu p) (gu q)
theorem Sz.add {m n:Nat} {a b:Rat} (ha:Sz m a) (hb:Sz n b):Sz (m+n+1) (a+b):=by
 rw [<- wZ];refine .divInt ?_ ?_ (bG a b)
 ·exact((ha.num.mul hb.den).add (hb.num.mul ha.den)).mono (by omega)
 ·exact(ha.den.mul hb.den).mono (by omega)
theorem Sz.sub {m n:Nat} {a b:Rat} (ha:Sz m a) (hb:Sz n b):Sz (m+n+1) (a - b):=by
 rw [<- zx];refine .divInt ?_ ?_ (bG a b)
 ·exact((ha.num.mul hb.den).sub (hb.num.mul ha.den)).mono (by omega)
 ·exact(ha.den.mul hb.den).mono (by omega)
theorem Sz.mul {m n:Nat} {a b:Rat} (ha:Sz m a) (hb:Sz n b):Sz (m+n) (a*b):=by
 rw [<- w_];exact .divInt (ha.num.mul hb.num) (ha.den.mul hb.den) (bG a b)
theorem sH {q:Rat} (h:q≠0):q.num≠0:=λe=>h (Rf.mp e)
theorem Sz.div {m n:Nat} {a b:Rat} (ha:Sz m a) (hb:Sz n b) (h:b≠0):Sz (m+n) (a / b):=by
 rw [<- Dv];exact .divInt (ha.num.mul hb.den) (ha.den.mul hb.num) (Int.mul_ne_zero (gu a) (sH h))
theorem Sz.neg {m:Nat} {a:Rat} (ha:Sz m a):Sz m (-a):=⟨by rw [Rat.neg_num]; exact ha.num.neg,by rw [Rat.neg_den]; exact ha.den⟩
theorem rF (r:Rat):(r*r).num=r.num*r.num:=by
 have h:=Rat.num_pow r 2;rw [show r ^ 2=r*r by grind,show r.num ^ 2=r.num*r.num by grind] at h
 exact h
theorem yA (r:Rat):(r*r).den=r.den*r.den:=by
 have h:=Rat.den_pow r 2;rw [show r ^ 2=r*r by grind,show r.den ^ 2=r.den*r.den by grind] at h
 exact h
def lf (u:Rat):Prop:=∀ r:Rat,r*r≠u
theorem Dd {u:Int} (h:jP u*jP u≠u):lf (u:Rat):=λr e=>by
 have h1:=congrArg Rat.num e;rw [rF,Rat.num_intCast] at h1;exact h (zV h1)
theorem KS {n:Int} (h:0<=n):jP n<=n:=by
 have rt:=lv h;have h0:=rt.nn;have h1:=rt.le;rcases Int.lt_or_le (jP n) 1 with h2 | h2
 ·omega
 ·have:jP n*1<=jP n*jP n:=Int.mul_le_mul_of_nonneg_left h2 h0;omega
theorem JU {n:Int} {m:Nat} (h:0<=n) (hb:Bt m n):Bt m (jP n):=hb.le (by have:=KS h; have:=(lv h).nn; omega)
theorem EI:jP 0=0:=by decide
theorem oP (a:Int) {b:Int} (h:0 < b):a.fdiv b=a / b:=Int.fdiv_eq_ediv_of_nonneg a (by omega)
abbrev ua (a:Int):Int:=if a < 0 then -a else a
theorem AO (a:Int):0<=ua a:=by unfold ua; split <;> omega
theorem cP (r:Rat):0<=r*r:=by
 rcases Rat.le_total (a:=0) (b:=r) with h | h
 ·exact Qo h h
 ·have:0<=-r:=by grind
  have:=Qo this this;grind
theorem jr (w:Rat):(w.num:Rat)=w*(w.den:Rat):=by
 have h:=Rat.num_divInt_den w;rw [QC,Rat.intCast_natCast] at h;have hd:(w.den:Rat)≠0:=by
  have:=w.den_nz;exact λe=>this (by exact_mod_cast e)
 grind
theorem tF (w:Rat):(w.den:Rat)≠0:=by
 have:=w.den_nz;exact λe=>this (by exact_mod_cast e)
def Ek:List Int:=[2,3,5,6,7,8,10,12,18,101]
set_option maxRecDepth 20000 in
theorem B6 {u:Int} (h:u∈Ek):lf (u:Rat)/\0 < u/\u < 128:=by
 have:jP u*jP u≠u/\0 < u/\u < 128:=by
  revert u
  decide
 exact⟨Dd this.1,this.2⟩
def ab (b:Rat):Rat:=if b < 0 then -b else b
theorem qw (b:Rat):0<=ab b:=by unfold ab; split <;> grind
theorem qC (b:Rat):ab b*ab b=b*b:=by unfold ab; split <;> grind
def ss (b:Rat):Rat:=b*ab b
theorem de (q:Rat):q.num < 0↔q < 0:=by
 have:=Rat.num_nonneg (q:=q)
 constructor
 ·intro h;apply Rat.not_le.mp;intro h2;have:=this.mpr h2;omega
 ·intro h;apply Int.not_le.mp;intro h2;exact absurd (this.mp h2) (Rat.not_le.mpr h)
theorem J2 (q:Rat):(ab q).num=ua q.num:=by
 unfold ab ua
 by_cases h:q < 0
 ·rw [if_pos h,if_pos ((de q).mpr h),Rat.neg_num]
 ·rw [if_neg h,if_neg (λe=>h ((de q).mp e))]
theorem KI (q:Rat):(ab q).den=q.den:=by
 unfold ab
 split
 ·exact Rat.neg_den _
 ·rfl
theorem yl {x:Int} (h:0<=x):jP (x*x)=x:=E1 ⟨h,Int.le_refl _,by grind⟩
theorem m5 {b u:Rat} (hu:0 < u):ss b*u=0↔b=0:=by
 unfold ss ab
 constructor
 ·intro h;have hu':u≠0:=by grind
  split at h <;> grind
 ·intro h;subst h;grind
theorem LU {b u:Rat} (hu:0 < u):ab (ss b*u)=b*b*u:=by
 have h2:=cP b;have h3:=Qo h2 (Rat.le_of_lt hu);unfold ss
 by_cases h:b < 0
 ·have e:b*ab b*u=-(b*b*u):=by unfold ab; rw [if_pos h]; grind
  rw [e];have hp:0 < b*b*u:=by
   have h4:0 < -b:=by grind
   have h5:=Qu h4 h4;have h6:=Qu h5 hu;grind
  unfold ab;rw [if_pos (by grind)]
  grind
 ·have e:b*ab b*u=b*b*u:=by unfold ab; rw [if_neg h]
  rw [e];unfold ab;rw [if_neg (by grind)]
theorem yT {b u:Rat} (hu:0 < u):ss b*u < 0↔b < 0:=by
 have h2:=cP b;have h3:=Qo h2 (Rat.le_of_lt hu);unfold ss ab
 constructor
 ·intro h
  split at h
  ·assumption
  ·exfalso; grind
 ·intro h;rw [if_pos h];have h4:0 < -b:=by grind
  have h5:=Qu h4 h4;have h6:=Qu h5 hu;grind
theorem Dt (a b:Rat):ss (a*b)=ss a*ss b:=by
 have e:ab (a*b)=ab a*ab b:=by
  unfold ab
  by_cases ha:a < 0 <;> by_cases hb:b < 0
  ·have:=Qu (show 0 < -a by grind) (show 0 < -b by grind)
   rw [if_neg (by grind),if_pos ha,if_pos hb]; grind
  ·rw [if_pos ha,if_neg hb]
   by_cases h0:b=0
   ·subst h0; grind
   ·have:=Qu (show 0 < -a by grind) (show 0 < b by grind)
    rw [if_pos (by grind)]; grind
  ·rw [if_neg ha,if_pos hb]
   by_cases h0:a=0
   ·subst h0; grind
   ·have:=Qu (show 0 < a by grind) (show 0 < -b by grind)
    rw [if_pos (by grind)]; grind
  ·have:=Qo (show 0<=a by grind) (show 0<=b by grind)
   rw [if_neg (by grind),if_neg ha,if_neg hb]
 unfold ss;rw [e];grind
theorem BV (b:Rat):ss (-b)=-ss b:=by
 unfold ss ab
 by_cases h:b < 0
 ·rw [if_neg (by grind),if_pos h]; grind
 ·by_cases h0:b=0
  ·subst h0; grind
  ·rw [if_pos (by grind),if_neg h]; grind
theorem u9 {b:Rat} (h:0<=b):ss b=b*b:=by unfold ss ab; rw [if_neg (by grind)]
def sg (p q:Rat):Rat:=if q < 0 then -p else p
theorem GZ {a b u:Rat} (hu:lf u) (h:¬ (a=0/\b=0)):a*a - b*b*u≠0:=by
 intro e
 by_cases hb:b=0
 ·subst hb;apply h;exact⟨by grind,rfl⟩
 ·exact hu (a / b) (by grind)
def BI (q:Rat):Int:=if 0 < q then 1 else if q < 0 then -1 else 0
theorem wG {q:Rat} (h:0 < q):BI q=1:=if_pos h
theorem vQ {q:Rat} (h:q < 0):BI q=-1:=by unfold BI; rw [if_neg (by grind),if_pos h]
theorem DX:BI 0=0:=by decide
theorem tri (q:Rat):0 < q\/q < 0\/q=0:=by
 rcases Rat.le_total (a:=0) (b:=q) with h | h
 ·by_cases e:q=0
  ·exact .inr (.inr e)
  ·exact .inl (by grind)
 ·by_cases e:q=0
  ·exact .inr (.inr e)
  ·exact .inr (.inl (by grind))
def rm (a b u:Rat):Int:=if 0 < a*a - b*b*u then BI a else BI b
theorem MI {a b u:Rat} (h:0 < a*a - b*b*u):rm a b u=BI a:=if_pos h
theorem tE {x y:Rat} (hx:0<=x) (hy:0<=y):0<=x / y:=by
 by_cases h:y=0
 ·subst h;rw [show x / 0=0 by grind]
  exact Rat.le_refl
 ·apply Rat.not_lt.mp;intro hl;have h1:=Qu (show 0 < -(x / y) by grind) (show 0 < y by grind)
  have h2:x / y*y=x:=by grind
  grind
theorem nS:ss 0=0:=by unfold ss; grind
theorem rQ {q:Rat} (h:0<=q):0<=q.num:=Rat.num_nonneg.mpr h
theorem nX {q r:Rat} (h0:0<=r) (e:r*r=q):jP q.num=r.num/\jP (q.den:Int)=(r.den:Int):=by
 subst e;rw [rF,yA];refine⟨yl (rQ h0),?_⟩;rw [Int.natCast_mul];exact yl (by omega)
theorem zQ {q:Rat} (h0:0<=q) (s1:jP q.num*jP q.num=q.num) (s2:jP (q.den:Int)*jP (q.den:Int)=(q.den:Int)):∃ r:Rat,0<=r/\r*r=q:=by
 have n1:=(lv (rQ h0)).nn;have n2:=(lv (n:=(q.den:Int)) (by omega)).nn
 generalize jP q.num=x at s1 n1
 generalize jP (q.den:Int)=y at s2 n2
 have t1:(x:Rat)*x=(q.num:Rat):=by
  have:=congrArg (λz:Int=>(z:Rat)) s1
  simpa [P1] using this
 have t2:(y:Rat)*y=(q.den:Rat):=by
  have:=congrArg (λz:Int=>(z:Rat)) s2
  simpa [P1,Rat.intCast_natCast] using this
 have hd:=tF q;have hy0:(y:Rat)≠0:=by intro e; rw [e] at t2; exact hd (by grind)
 have hwn:=jr q;have x0:(0:Rat)<=x:=by exact_mod_cast n1
 have y0:(0:Rat)<=y:=by exact_mod_cast n2
 refine⟨(x:Rat) / y,?_,by grind⟩
 exact tE x0 y0
theorem nF {e:Rat} (h:e≠0):ab e≠0:=by unfold ab; split <;> grind
theorem D8 {e:Rat} (h:e≠0):0 < ab e:=by have:=qw e; have:=nF h; grind
theorem LS {r s:Rat} (hr:0<=r) (hs:0<=s) (e:r*r=s*s):r=s:=by
 by_cases h:r+s=0
 ·grind
 ·have:(r - s)*(r+s)=0:=by grind
  grind
theorem zf {b e u r:Rat} (u0:0 < u) (he:e≠0) (hr:0<=r) (h:r*r=(b*b*u) / (e*e*u)):r=ab b / ab e:=by
 have u1:u≠0:=by grind
 have e1:=qC e;have b1:=qC b;have e2:=nF he;apply LS hr (tE (qw b) (qw e));rw [h];have:ab b / ab e*(ab b / ab e)=(ab b*ab b) / (ab e*ab e):=by grind
 rw [this,e1,b1];grind
theorem xL {b e u:Rat} (u0:0 < u) (he:e≠0):(ab b / ab e)*(ab b / ab e)=(b*b*u) / (e*e*u):=by
 have u1:u≠0:=by grind
 have e1:=qC e;have b1:=qC b;have e2:=nF he;have:ab b / ab e*(ab b / ab e)=(ab b*ab b) / (ab e*ab e):=by grind
 rw [this,e1,b1];grind
theorem En {b e u:Rat} (u0:0 < u):sg (ab b / ab e) (ss b*u)=b / ab e:=by
 unfold sg
 by_cases h:b < 0
 ·rw [if_pos ((yT u0).mpr h)];unfold ab;rw [if_pos h];grind
 ·rw [if_neg (λz=>h ((yT u0).mp z))]
  unfold ab;rw [if_neg h]
theorem K_ {x y:Rat} (hy:0 < y):ss (x / y)=ss x / (y*y):=by
 have h1:x / y=x*(1 / y):=by grind
 have h2:0<=1 / y:=tE (by decide) (Rat.le_of_lt hy)
 rw [h1,Dt,u9 h2];grind
theorem Aj {x e u:Rat} (he:e≠0):ss (x / ab e)*(e*e*u)=ss x*u:=by
 have e1:=qC e;rw [K_ (D8 he),e1];grind
theorem C5 (p base:Rat):sg (p*p*base) p=ss p*base:=by
 unfold sg ss ab
 by_cases h:p < 0
 ·rw [if_pos h,if_pos h]; grind
 ·rw [if_neg h,if_neg h]
def pick (b d:Rat):Rat:=if b=0 then d else b
theorem yO {b d:Rat}:b=0\/pick b d≠0:=by
 unfold pick
 by_cases h:b=0
 ·exact .inl h
 ·rw [if_neg h]; exact .inr h
theorem yX {b d:Rat}:d=0\/pick b d≠0:=by
 unfold pick
 by_cases h:b=0
 ·rw [if_pos h]
  by_cases h2:d=0
  ·exact .inl h2
  ·exact .inr h2
 ·rw [if_neg h]; exact .inr h
theorem ng {b d:Rat} (h:pick b d=0):b=0/\d=0:=by
 unfold pick at h
 by_cases h2:b=0
 ·rw [if_pos h2] at h; exact⟨h2,h⟩
 ·rw [if_neg h2] at h; exact absurd h h2
theorem By {b d u:Rat}:ss (b / ab (pick b d)+d / ab (pick b d))*(pick b d*pick b d*u)=ss (b+d)*u:=by
 by_cases h:pick b d=0
 ·obtain⟨rfl,rfl⟩:=ng h;rw [h];have:ss ((0:Rat)+0)=0:=by rw [show (0:Rat)+0=0 by grind]; exact nS
  rw [this];grind
 ·rw [<- Aj (x:=b+d) h]
  congr 2
  have:=nF h;grind
theorem zU {a b c d u:Rat}:a*c+(b / ab (pick b d))*(d / ab (pick b d))*(pick b d*pick b d*u)=a*c+b*d*u:=by
 by_cases h:pick b d=0
 ·obtain⟨rfl,rfl⟩:=ng h;rw [h];grind
 ·have e1:=qC (pick b d);have e2:=nF h;rw [<- e1];grind
theorem yU {a b c d u:Rat}:ss (a*(d / ab (pick b d))+c*(b / ab (pick b d)))*(pick b d*pick b d*u)=ss (a*d+b*c)*u:=by
 by_cases h:pick b d=0
 ·obtain⟨rfl,rfl⟩:=ng h;rw [h,show a*(0 / ab (0:Rat))+c*(0 / ab 0)=0 by grind,show a*0+0*c=0 by grind,nS]
  grind
 ·rw [<- Aj (x:=a*d+b*c) h]
  congr 2
  have:=nF h;grind
theorem uI {b u:Rat} (u0:0 < u):ab (ss b*u)=b*b*u:=LU u0
theorem Sz.ab {n:Nat} {q:Rat} (h:Sz n q):Sz n (HM.ab q):=by
 unfold HM.ab
 split
 ·exact h.neg
 ·exact h
theorem Sz.ss {n:Nat} {q:Rat} (h:Sz n q):Sz (n+n) (HM.ss q):=h.mul h.ab
theorem Sz.sg {n:Nat} {p q:Rat} (h:Sz n p):Sz n (HM.sg p q):=by
 unfold HM.sg
 split
 ·exact h.neg
 ·exact h
theorem Sz.zero:Sz 1 0:=⟨by show(0:Int).natAbs < 2 ^ 1; decide,by show((1:Nat):Int).natAbs < 2 ^ 1; decide⟩
theorem Sz.pick {n:Nat} {b d:Rat} (hb:Sz n b) (hd:Sz n d):Sz n (HM.pick b d):=by
 unfold HM.pick
 split
 ·exact hd
 ·exact hb
theorem Sz.div' {m n:Nat} {a b:Rat} (ha:Sz m a) (hb:Sz n b):Sz (m+n+1) (a / b):=by
 by_cases h:b=0
 ·subst h;rw [show a / 0=0 by grind]
  exact Sz.zero.mono (by omega)
 ·exact(ha.div hb h).mono (by omega)
theorem zZ (q:Rat):(if q.num=0 then(0:Int) else if q.num > 0 then 1 else -1)=BI q:=by
 rcases tri q with h | h | h
 ·have:=rQ (Rat.le_of_lt h);have n0:q.num≠0:=sH (by grind)
  rw [if_neg n0,if_pos (by omega),wG h]
 ·have:=(de q).mpr h;rw [if_neg (by omega),if_neg (by omega),vQ h]
 ·subst h; decide
theorem Kk {b u:Rat} (u0:0 < u):BI (ss b*u)=BI b:=by
 rcases tri b with h | h | h
 ·have:=Qu (Qu h (D8 (show b≠0 by grind))) u0
  unfold ss;rw [wG h,wG this]
 ·rw [vQ h,vQ ((yT u0).mpr h)]
 ·subst h;rw [nS,show(0:Rat)*u=0 by grind]
theorem ji (q:Rat):q.num > 0↔0 < q:=by
 constructor
 ·intro h;rcases tri q with h1 | h1 | h1
  ·exact h1
  ·have:=(de q).mpr h1; omega
  ·subst h1; exact absurd h (by decide)
 ·intro h;have:=rQ (Rat.le_of_lt h);have n0:q.num≠0:=sH (by grind)
  omega
end HM
namespace L2
open PySem PySem.Spec PyProof.Rows
theorem wE (elt target iter:Expr) (scope:Scope) (pos:Pos) (it acc:Value) (env:Env):
  compTurn (.ListComp elt [⟨target,iter,[],0⟩] scope pos) 0 it acc env=(standAt iter.pos >>= λ_=>pyNext it >>= λr=>match r with
   | none=>pure (.done .next)
   | some v=>letOwnedTupleGo target it v >>= λ_=>assign target env v >>= λ_=>
    (eval elt env >>= λx=>call (.builtin "list.append") [acc,x] >>= λ_=>pure ()) >>= λ_=>
     again (.compLoop (.ListComp elt [⟨target,iter,[],0⟩] scope pos) 0 it acc env)):=by rfl
section
variable {prog:Program} {w:World} {A:Around} {R:Result->Shared->Prop} {s:Shared}
abbrev qz:Value->Shared->Prop:=λ_ _=>False
theorem D9 {α:Type} {M:Model} {A:Around} {t:Sem α} {Q:α->Shared->Prop} {E:Value->Shared->Prop} {s:Shared} (h:wpAny M A t Q qz s):wpAny M A t Q E s:=QE h (λ_ _ q=>q) λ_ _ z=>z.elim
theorem oV {elt target iter:Expr} {scope:Scope} {pos:Pos} {it acc:Value} {env:Env} (I:Nat->Shared->Prop)
  (turn:∀ n s,I n s->wpAny (model prog w) A (pyNext it) (λr s1=>match r with
   | none=>R (.ok .next) s1
   | some v=>wpAny (model prog w) A (letOwnedTupleGo target it v) (λ_ s2=>wpAny (model prog w) A (assign target env v) (λ_ s3=>wpAny (model prog w) A (eval elt env) (λx s4=>
     wpAny (model prog w) A (call (.builtin "list.append") [acc,x]) (λ_ s5=>∃ m,m < n/\I m s5) qz s4) qz s3) qz s2) qz s1) qz s)
  (n:Nat) (h:I n s):codeAny (model prog w) A (.compLoop (.ListComp elt [⟨target,iter,[],0⟩] scope pos) 0 it acc env) R s:=by
 refine codeAny_loop rfl I (λn s hI=>?_) n h
 show wpAny _ _ ((compTurn (.ListComp elt [⟨target,iter,[],0⟩] scope pos) 0 it acc env).onRaise (λx=>do noteFrame x env; theTreesLotGoes x)) _ _ s
 refine wpAny_noted ?_;rw [wE];refine gt (wpAny_standAt (gt (D9 (QE (turn n s hI) (λr s1 h1=>?_) λ_ _ z=>z))))
 cases r with
 | none=>exact PZ h1
 | some v=>
  exact gt (D9 (b9 h1 λ_ s2 h2=>gt (D9 (b9 h2 λ_ s3 h3=>gt (gt (D9 (b9 h3 λx s4 h4=>gt (D9 (b9 h4 λ_ s5 h5=>PZ (PZ ⟨rfl,h5⟩))))))))))
theorem qQ {M:Model} {A:Around} {E:Value->Shared->Prop} {c:Expr} {env:Env} {Q:Bool->Shared->Prop} {s:Shared} (h:wpAny M A (PySem.isTrue c env (eval c env)) Q E s):
  wpAny M A (forIn [c] true λc r=>if r=true then do let ok <- PySem.isTrue c env (eval c env); pure (ForInStep.yield ok) else pure (ForInStep.yield r)) Q E s:=by
 rw [List.forIn_cons];refine gt ?_;rw [if_pos rfl];refine gt (b9 h λok s1 q=>PZ ?_)
 show wpAny M A (forIn [] ok _) Q E s1
 rw [List.forIn_nil];exact PZ q
theorem vW {elt target iter c:Expr} {scope:Scope} {pos:Pos} {it acc:Value} {env:Env} (I:Nat->Shared->Prop)
  (turn:∀ n s,I n s->wpAny (model prog w) A (pyNext it) (λr s1=>match r with
   | none=>R (.ok .next) s1
   | some v=>wpAny (model prog w) A (letOwnedTupleGo target it v) (λ_ s2=>wpAny (model prog w) A (assign target env v) (λ_ s3=>wpAny (model prog w) A (isTrue c env (eval c env)) (λb s3'=>
     if b=true then wpAny (model prog w) A (eval elt env) (λx s4=>wpAny (model prog w) A (call (.builtin "list.append") [acc,x]) (λ_ s5=>∃ m,m < n/\I m s5) qz s4) qz s3'
     else ∃ m,m < n/\I m s3') qz s3) qz s2) qz s1) qz s)
  (n:Nat) (h:I n s):codeAny (model prog w) A (.compLoop (.ListComp elt [⟨target,iter,[c],0⟩] scope pos) 0 it acc env) R s:=by
 refine codeAny_loop rfl I (λn s hI=>?_) n h
 show wpAny _ _ ((compTurn (.ListComp elt [⟨target,iter,[c],0⟩] scope pos) 0 it acc env).onRaise (λx=>do noteFrame x env; theTreesLotGoes x)) _ _ s
 refine wpAny_noted ?_;rw [compTurn_list];refine gt (wpAny_standAt (gt (D9 (QE (turn n s hI) (λr s1 h1=>?_) λ_ _ z=>z))))
 cases r with
 | none=>exact PZ h1
 | some v=>
  refine gt (D9 (b9 h1 λ_ s2 h2=>gt (D9 (b9 h2 λ_ s3 h3=>gt (qQ (D9 (b9 h3 λb s3' h3'=>?_)))))))
  cases b with
  | true=>
   rw [if_pos rfl] at h3' ⊢;exact gt (gt (D9 (b9 h3' λx s4 h4=>gt (D9 (b9 h4 λ_ s5 h5=>PZ (PZ ⟨rfl,h5⟩))))))
  | false=>
   rw [if_neg P6] at h3' ⊢;exact PZ ⟨rfl,h3'⟩
end
def kc (X:Cx) (scope:Scope) (cl:List (Str×Addr)) (N:List Str) (s0:Shared) (H0:Hp) (ex:List Addr) (C:Addr):Cx where
 prog:=X.prog
 w:=X.w
 K:=X.K
 mg:=X.mg
 base:=X.base
 A:=X.A
 N:=N
 s₀:=s0
 H₀:=H0
 env:=compEnvC scope cl C X.env
 outer:=X.stack
 stack:=X.stack
 ex:=ex
 fn:=λ_=>false
 calm:=X.calm
 pn:=[]
 xe:=qz
structure hG (X:Cx) (scope:Scope) (cl:List (Str×Addr)) (N:List Str) (cap:List (Option Nat)):Prop where
 kind:scope.kind=.function
 clos:closureFor scope X.env=pure cl
 nocell:(scope.names.all λy=>y.2 != NameKind.cell)=true
 names:(scope.names.all λy=>y.2 != NameKind.local || scope.names.lookup y.1 == some NameKind.local)=true
 sub:∀ p∈cl,X.env.cells.lookup p.1=some p.2
 has:((relabel scope X.env).names.all λy=>(y.2 != NameKind.cell && y.2 != NameKind.free) || (cl.lookup y.1).isSome)=true
 len:cap.length=N.length
 caps:∀ (i j:Nat) (x:Str),cap[i]?=some (some j)->N[i]?=some x->X.N[j]?=some x/\(X.env.scope.names.lookup x=some .cell\/X.env.scope.names.lookup x=some .free)/\((relabel scope X.env).names.lookup x=some .cell\/(relabel scope X.env).names.lookup x=some .free)
def o7 (cap:List (Option Nat)) (σ:St):St:=cap.map λo=>match o with
 | some j=>(σ[j]?).join
 | none=>none
theorem BL {cap:List (Option Nat)} {σ:St} {i:Nat} {v:V} (h:(o7 cap σ)[i]?=some (some v)):∃ j,cap[i]?=some (some j)/\σ[j]?=some (some v):=by
 unfold o7 at h;rw [Qt] at h;cases e:cap[i]? with
 | none=>rw [e] at h; cases h
 | some o=>
  rw [e] at h;cases o with
  | none=>cases h
  | some j=>
   refine⟨j,rfl,?_⟩;have h:(σ[j]?).join=some v:=Qx h;cases e2:σ[j]? with
   | none=>rw [e2] at h; cases h
   | some q=>rw [e2] at h; exact congrArg some h
theorem gz {X:Cx} {cl:List (Str×Addr)} (h:∀ p∈cl,X.env.cells.lookup p.1=some p.2) {x:Str} {c:Addr} (e:cl.lookup x=some c):X.env.cells.lookup x=some c:=h (x,c) (QK e)
theorem rZ {X:Cx} {scope:Scope} {cl:List (Str×Addr)} {N:List Str} {cap:List (Option Nat)} (Sc:hG X scope cl N cap) {pins:List (Addr×Obj)} {σ:St} {H:Hp} {s:Shared} {fp:List Addr} (I:ay X pins σ H s)
  (hf:∀ b∈fp,qf X pins H b) (ho:∀ b∈fp,∃ o,s.heap.get? b=some o) {h1 h1':Heap} {m:Str->Option Value} {tk:Nat} {ob:Obj}
  (hD:s.heap.push {cls:=.type "list",data:=.seq ([]:List Value).toArray}=h1') (hns:h1.Ns h1'.objs.size m) (hsb:Heap.SameBut h1'.objs.size (h1'.push ob) h1):
  ay (kc X scope cl N {s with heap:=h1'} (bz H s.heap.objs.size (.lst [])) fp h1'.objs.size) [] (o7 cap σ) (bz H s.heap.objs.size (.lst [])) {s with heap:=h1,toks:=tk}/\
   Un (kS X.stack) fp H (bz H s.heap.objs.size (.lst [])) s.heap h1':=by
 have hC:h1'.objs.size=s.heap.objs.size+1:=by rw [<- hD,QY]
 have k1:∀ b o,s.heap.get? b=some o->h1'.get? b=some o:=λb o e=>by rw [<- hD]; exact pp _ e
 have k2:∀ b o,h1'.get? b=some o->h1.get? b=some o:=λb o e=>(hsb.2 b (P9 (P2 e))).trans (pp _ e)
 have hHn:H s.heap.objs.size=none:=I.hok.fresh (P3 _);have neD:∀ b o,s.heap.get? b=some o->b≠s.heap.objs.size:=λb o e=>P9 (P2 e)
 have un1:Un (kS X.stack) fp H (bz H s.heap.objs.size (.lst [])) s.heap h1':=Un.laid k1 (P3 _) hHn;have new:dc X.prog X.w (bz H s.heap.objs.size (.lst [])) h1' s.heap.objs.size (.lst []):=⟨QW _,[],0,.nil,by rw [<- hD]; exact P0 _ rfl⟩
 have hok1:mQ X.prog X.w (bz H s.heap.objs.size (.lst [])) h1':=I.hok.laid k1 (P3 _) new;have fsub:∀ b∈fp,b∉kS X.stack:=λb hb z=>by
  obtain⟨_,f1,f2,_⟩:=hf b hb;rcases P8.mp (I.stkSub b z) with e | e
  ·exact f1 e
  ·exact f2 e
 have cellK:∀ x c,cl.lookup x=some c->∃ v,s.heap.IsCell c v:=λx c e=>I.cell x c (gz Sc.sub e)
 refine⟨⟨⟨I.ok.mod,?_,I.ok.glob,I.ok.blt,P3 _,λx y c e1 e2=>I.ok.inj x y c (gz Sc.sub e1) (gz Sc.sub e2),λx hx=>?_,λx c z=>(by cases z),I.ok.hd,I.ok.frames,.inl rfl,λb hb=>⟨?_,λx c e=>?_⟩,λb o e=>⟨?_,?_⟩,?_,λb o e hb=>?_,fsub,?_,λb hb=>?_⟩,
  rfl,I.bare,Un.kept k2,⟨m,hns,λi x v e1 e2 e3=>?_⟩,λx c e=>?_,?_,λx c e=>?_,λp hp=>absurd hp (by simp [kc]),hok1.kept k2,?_⟩,un1⟩
 ·exact Sc.kind
 ·have hx:(relabel scope X.env).names.lookup x=some .cell\/(relabel scope X.env).names.lookup x=some .free:=hx;have ha:=QZ.mp Sc.has
  show ∃ c,cl.lookup x=some c
  rcases hx with hx | hx
  ·have:=ha _ (QK hx);exact Rc.mp (by simpa using this)
  ·have:=ha _ (QK hx);exact Rc.mp (by simpa using this)
 ·obtain⟨o,e⟩:=ho b hb;have:=P2 e
  show b≠h1'.objs.size
  rw [hC];exact P9 (Nat.lt_succ_of_lt this)
 ·exact(hf b hb).2.2.2.2.1 x c (gz Sc.sub e)
 ·exact k1 b o (I.bk b o e)
 ·show bz H s.heap.objs.size (.lst []) b=none
  rw [aK (neD b o (I.bk b o e))];exact(I.bs b o e).2
 ·show X.base.objs.size<=h1'.objs.size
  rw [hC];exact Nat.le_succ_of_le (QH I.ok.bsz I.sz)
 ·obtain⟨_,_,_,f3,_⟩:=hf b hb;rcases f3 with f3 | f3
  ·exact I.ok.noex b o e f3
  ·have q1:=P2 e;have q2:=I.ok.bsz;exact absurd (Qb q1 (QH q2 f3)) (QX _)
 ·exact I.stack.of_keeps λb o e _=>⟨o,k1 b o e,rfl⟩
 ·show bz H s.heap.objs.size (.lst []) b=none
  obtain⟨_,o,e,_⟩:=I.stack.mem hb;rw [aK (neD b o e)];exact I.stkFree b hb
 ·obtain⟨j,c1,c2⟩:=BL e2;obtain⟨d1,d2,d3⟩:=Sc.caps i j x c1 e1;obtain⟨m0,_,l0⟩:=I.loc;obtain⟨u,ru,lk⟩:=l0 j x v d1 c2 (d2.elim (λz=>.inr (.inl z)) λz=>.inr (.inr z))
  refine⟨u,ru,.inr ⟨d3,?_⟩⟩;rcases lk with ⟨z,_⟩ | ⟨_,c,z1,z2⟩
  ·have z:X.env.scope.names.lookup x=some .local:=z;rcases d2 with q | q <;> (rw [q] at z; cases z)
  ·have ha:=QZ.mp Sc.has;have hs:∃ c',cl.lookup x=some c':=by
    rcases d3 with q | q
    ·exact Rc.mp (by simpa using ha _ (QK q))
    ·exact Rc.mp (by simpa using ha _ (QK q))
   obtain⟨c',q⟩:=hs;have q2:=gz Sc.sub q;rw [z1] at q2;cases q2;obtain⟨o,e,d⟩:=z2;exact⟨c,q,o,k2 _ _ (k1 _ _ e),d⟩
 ·obtain⟨v,o,e1,d⟩:=cellK x c e;exact⟨v,o,k2 _ _ (k1 _ _ e1),d⟩
 ·show bz H s.heap.objs.size (.lst []) h1'.objs.size=none
  rw [hC,aK (Nat.succ_ne_self _)];exact I.hok.fresh (Nat.le_succ _)
 ·obtain⟨v,o,e1,d⟩:=cellK x c e
  show bz H s.heap.objs.size (.lst []) c=none
  rw [aK (neD c o e1)];exact I.freeC x c (gz Sc.sub e)
 ·show(o7 cap σ).length=N.length
  unfold o7;rw [P5];exact Sc.len
def CL (cap:List (Option Nat)) (wi:TI) (g:TG) (te:TE):TE:=fun σ H Q=>wi σ H λJ H1=>∀ D,H1 D=none->∃ W:Nat->Nat->St->Hp->Prop,(∃ m,W 0 m (o7 cap σ) (bz H1 D (.lst [])))/\∀ i m σ' H',W i m σ' H'->
 (J.stop i H'/\Q (.ref D) H')\/(J.go i H'/\∃ N:St->Hp->Prop,(∀ σ2 H2,N σ2 H2->∃ m',m' < m/\W (i+1) m' σ2 H2)/\∀ x H2,J.yld i H' x H2->g x σ' H2 fun σ3 H3=>te σ3 H3 λv H4=>∃ ys,H4 D=some (.lst ys)/\ys.length < sizeLine/\N σ3 (bz H4 D (.lst (ys++[v]))))
def Aa (cap:List (Option Nat)) (wi:TI) (g:TG) (tc:TT) (te:TE):TE:=fun σ H Q=>wi σ H λJ H1=>∀ D,H1 D=none->∃ W:Nat->Nat->St->Hp->Prop,(∃ m,W 0 m (o7 cap σ) (bz H1 D (.lst [])))/\∀ i m σ' H',W i m σ' H'->
 (J.stop i H'/\Q (.ref D) H')\/(J.go i H'/\∃ N:St->Hp->Prop,(∀ σ2 H2,N σ2 H2->∃ m',m' < m/\W (i+1) m' σ2 H2)/\∀ x H2,J.yld i H' x H2->g x σ' H2 fun σ3 H3=>tc σ3 H3 λb H3'=>if b=true then te σ3 H3' λv H4=>∃ ys,H4 D=some (.lst ys)/\ys.length < sizeLine/\N σ3 (bz H4 D (.lst (ys++[v]))) else N σ3 H3')
section
variable {X:Cx} {elt tg iter c:Expr} {scope:Scope} {cl:List (Str×Addr)} {N:List Str} {cap:List (Option Nat)} {pos:Pos} {wi:TI} {g:TG} {te:TE} {tc:TT}
theorem rY (Sc:hG X scope cl N cap) {pins:List (Addr×Obj)} {σ σ3:St} {H2 H3:Hp} {s2 s4:Shared} {fp:List Addr} {h1':Heap} {C:Addr} (I2:ay X pins σ H2 s2) (f2:∀ b∈fp,qf X pins H2 b) {H1:Hp}
  (un3:Un (kS X.stack) fp H2 H1 s2.heap h1') (I4:ay (kc X scope cl N {s2 with heap:=h1'} H1 fp C) [] σ3 H3 s4) {h':Heap} (hC:s2.heap.objs.size<=C) (sb:Heap.SameBut C s4.heap h'):ay X pins σ H3 {s4 with heap:=h'}:=by
 have u:Un (kS X.stack) fp H2 H3 s2.heap s4.heap:=un3.trans I4.base;have ne:∀ b o,s2.heap.get? b=some o->b≠C:=λb o e=>P9 (Qb (P2 e) hC)
 have u':Un (kS X.stack) fp H2 H3 s2.heap h':=⟨λb o e n hb hx=>(sb.2 b (ne b o e)).trans (u.keep b o e n hb hx),λb o e n hb hx=>by
   obtain⟨sl,q⟩:=u.slot b o e n hb hx;exact⟨sl,(sb.2 b (ne b o e)).trans q⟩,u.free,λb o e hx=>by
   obtain⟨o',q⟩:=u.there b o e hx;exact⟨o',(sb.2 b (ne b o e)).trans q⟩,u.tups,u.frzs,u.tbls⟩
 have hok:mQ X.prog X.w H3 h':=λb ob e=>by
  refine(I4.hok b ob e).stay (λc w' hc q=>(sb.2 c ?_).trans q) (λ_ q=>q) λ_ _ q=>q
  rintro rfl;have hfree:H3 c=none:=I4.free;rcases hc with rfl | hc
  ·rw [hfree] at e; cases e
  ·rw [hfree] at hc; cases hc
 refine I2.call' (s':={s4 with heap:=h'}) (ch:=fp) I4.os u' hok I4.bare λb hb=>?_
 obtain⟨_,f1,_,f3,f4,f5⟩:=f2 b hb;exact⟨f3,f1,f4,f5⟩
theorem iz {s0:Shared} {H0:Hp} {C:Addr} {fp:List Addr} {σ:St} {H:Hp} {s:Shared} (I:ay (kc X scope cl N s0 H0 fp C) [] σ H s) (hn:∀ b∈fp,H b=none):∀ b∈fp,qf (kc X scope cl N s0 H0 fp C) [] H b:=λb hb=>
 ⟨hn b hb,(I.ok.exf b hb).1,I.ok.exfs b hb,.inl hb,(I.ok.exf b hb).2,λp hp=>absurd hp (by simp [kc])⟩
theorem At (hc:X.calm=true) (Sc:hG X scope cl N cap) (hi:PI X tg iter wi) (hg:∀ s0 H0 ex C,PG (kc X scope cl N s0 H0 ex C) tg g) (he:∀ s0 H0 ex C,PE (kc X scope cl N s0 H0 ex C) elt te)
  (hs:∀ x,foldedSetIterable iter X.env x=pure x:=by intro _; rfl):PE X (.ListComp elt [⟨tg,iter,[],0⟩] scope pos) (CL cap wi g te):=by
 intro pins s σ H Q I h;rw [eval_ListComp];have hcell:∀ y∈scope.names,y.2≠.cell:=λy hy=>by simpa using QZ.mp Sc.nocell y hy
 have hnames:∀ y∈scope.names,y.2=.local->scope.names.lookup y.1=some .local:=λy hy e=>by
  have:=QZ.mp Sc.names y hy;rw [e] at this
  simpa using this
 refine wpAny_comprehension_free (use:=none) rfl hs Sc.clos Sc.kind hnames (b9 (hi pins s σ H _ I h) λv s1 h1=>b9 h1 λitv s2 h2=>?_)
 obtain⟨it,fp,tn,J,H2,e,I2,T,st2,f2,hW⟩:=h2;subst e;refine Qs (wpAny_newFunctionEnv hcell (by intro y hy; simp at hy) (λh1 hns hsb=>?_) Sc.kind)
 obtain⟨W,⟨m0,w0⟩,turn⟩:=hW s2.heap.objs.size I2.fresh;dsimp only at hns hsb ⊢
 generalize hD:s2.heap.push {cls:=.type "list",dict:=none,data:=.seq ([]:List Value).toArray}=h1' at hns hsb ⊢
 obtain⟨I3,un3⟩:=rZ (tk:=s2.toks+([]:List (Str×Value)).length) Sc I2 f2 (λb hb=>let ⟨o,e,_⟩:=T.obj 0 _ st2 b hb; ⟨o,e⟩) hD hns hsb
 have hC:s2.heap.objs.size<=h1'.objs.size:=by rw [<- hD,QY]; exact Nat.le_succ _
 have k1:∀ b o,s2.heap.get? b=some o->h1.get? b=some o:=λb o e=>by
  have e1:h1'.get? b=some o:=by rw [<- hD]; exact pp _ e
  exact(hsb.2 b (P9 (P2 e1))).trans (pp _ e1)
 have st3:tn 0 h1:=T.keep 0 _ _ st2 λb _ o e=>k1 b o e
 have fr3:∀ b∈fp,(bz H2 s2.heap.objs.size (.lst [])) b=none:=λb hb=>by
  obtain⟨o,e,_⟩:=T.obj 0 _ st2 b hb;rw [aK (P9 (P2 e))];exact(f2 b hb).1
 have loop:∀ s3:Shared,s3={s2 with heap:=h1,toks:=s2.toks+([]:List (Str×Value)).length}->
   codeAny (model X.prog X.w) X.A (.compLoop (.ListComp elt [⟨tg,iter,[],0⟩] scope pos) 0 (.ref it) (.ref s2.heap.objs.size) (compEnvC scope cl h1'.objs.size X.env))
    (compPost (model X.prog X.w) X.A X.xe none (EP X pins σ Q) (.ref s2.heap.objs.size) h1'.objs.size) s3:=by
  rintro s3 rfl;refine oV (λn s'=>∃ i σ' H',ay (kc X scope cl N {s2 with heap:=h1'} (bz H2 s2.heap.objs.size (.lst [])) fp h1'.objs.size) [] σ' H' s'/\tn i s'.heap/\(∀ b∈fp,H' b=none)/\W i n σ' H') ?_ m0 ⟨0,_,_,I3,st3,fr3,w0⟩
  rintro n s3 ⟨i,σ3,H3,I3,st3,fr3,w3⟩;rcases turn i n σ3 H3 w3 with ⟨stop,qn⟩ | ⟨go,Nn,hN,step⟩
  ·refine b9 (T.done (kc X scope cl N {s2 with heap:=h1'} (bz H2 s2.heap.objs.size (.lst [])) fp h1'.objs.size) rfl rfl rfl hc i [] s3 σ3 H3 qz I3 (iz I3 fr3) st3 stop) λr s4 ⟨hr,I4⟩=>?_
   subst hr;obtain⟨m,hm,_⟩:=I4.loc;exact⟨m,hm,λh' sb=>⟨.ref _,H3,rY Sc I2 f2 un3 I4 hC sb,rfl,qn⟩⟩
  ·refine b9 (T.item (kc X scope cl N {s2 with heap:=h1'} (bz H2 s2.heap.objs.size (.lst [])) fp h1'.objs.size) rfl rfl rfl hc i [] s3 σ3 H3 qz I3 (iz I3 fr3) st3 go) λr s4 ⟨u,hr,h4⟩=>?_
   subst hr;refine b9 h4 λ_ s5 ⟨x,H5,I5,r5,y5,st5,fr5⟩=>?_
   have I5':=I5.pinned (iz I5 fr5) (T.obj _ _ st5);refine b9 (hg _ _ _ _ _ s5 σ3 H5 x u _ I5' r5 (step x H5 y5)) λ_ s6 ⟨σ6,H6,I6,q6⟩=>?_
   refine b9 (he _ _ _ _ _ s6 σ6 H6 _ I6 q6) λuv s7 ⟨v,H7,I7,r7,ys,hy,hl,q7⟩=>?_
   refine b9 (mV (X:=kc X scope cl N {s2 with heap:=h1'} (bz H2 s2.heap.objs.size (.lst [])) fp h1'.objs.size) _ s7 σ6 H7 (.ref s2.heap.objs.size) [v] (.ref s2.heap.objs.size) [uv] (λ_ H8=>Nn σ6 H8) I7 rfl (.cons r7 .nil) ⟨_,ys,v,rfl,rfl,hy,hl,q7⟩) λ_ s8 ⟨_,H8,I8,_,n8⟩=>?_
   obtain⟨m',hm,w8⟩:=hN σ6 H8 n8;refine⟨m',hm,i+1,σ6,H8,I8.unpinned,T.keep _ _ _ st5 λb hb o e=>(I8.pin (b,o) (Qc _ (Qc _ (dO hb e)))).1,λb hb=>?_,w8⟩
   obtain⟨o,e,d⟩:=T.obj _ _ st5 b hb;exact(I8.pin (b,o) (Qc _ (Qc _ (dO hb e)))).2.1
 exact codeAny_compStart_list (loop _ rfl) (T.self _ 0 _ _ _ st3 (loop _ rfl))
theorem vm (hc:X.calm=true) (Sc:hG X scope cl N cap) (hi:PI X tg iter wi) (hg:∀ s0 H0 ex C,PG (kc X scope cl N s0 H0 ex C) tg g) (hcnd:∀ s0 H0 ex C,PT (kc X scope cl N s0 H0 ex C) c tc) (he:∀ s0 H0 ex C,PE (kc X scope cl N s0 H0 ex C) elt te)
  (hs:∀ x,foldedSetIterable iter X.env x=pure x:=by intro _; rfl):PE X (.ListComp elt [⟨tg,iter,[c],0⟩] scope pos) (Aa cap wi g tc te):=by
 intro pins s σ H Q I h;rw [eval_ListComp];have hcell:∀ y∈scope.names,y.2≠.cell:=λy hy=>by simpa using QZ.mp Sc.nocell y hy
 have hnames:∀ y∈scope.names,y.2=.local->scope.names.lookup y.1=some .local:=λy hy e=>by
  have:=QZ.mp Sc.names y hy;rw [e] at this
  simpa using this
 refine wpAny_comprehension_free (use:=none) rfl hs Sc.clos Sc.kind hnames (b9 (hi pins s σ H _ I h) λv s1 h1=>b9 h1 λitv s2 h2=>?_)
 obtain⟨it,fp,tn,J,H2,e,I2,T,st2,f2,hW⟩:=h2;subst e;refine Qs (wpAny_newFunctionEnv hcell (by intro y hy; simp at hy) (λh1 hns hsb=>?_) Sc.kind)
 obtain⟨W,⟨m0,w0⟩,turn⟩:=hW s2.heap.objs.size I2.fresh;dsimp only at hns hsb ⊢
 generalize hD:s2.heap.push {cls:=.type "list",dict:=none,data:=.seq ([]:List Value).toArray}=h1' at hns hsb ⊢
 obtain⟨I3,un3⟩:=rZ (tk:=s2.toks+([]:List (Str×Value)).length) Sc I2 f2 (λb hb=>let ⟨o,e,_⟩:=T.obj 0 _ st2 b hb; ⟨o,e⟩) hD hns hsb
 have hC:s2.heap.objs.size<=h1'.objs.size:=by rw [<- hD,QY]; exact Nat.le_succ _
 have k1:∀ b o,s2.heap.get? b=some o->h1.get? b=some o:=λb o e=>by
  have e1:h1'.get? b=some o:=by rw [<- hD]; exact pp _ e
  exact(hsb.2 b (P9 (P2 e1))).trans (pp _ e1)
 have st3:tn 0 h1:=T.keep 0 _ _ st2 λb _ o e=>k1 b o e
 have fr3:∀ b∈fp,(bz H2 s2.heap.objs.size (.lst [])) b=none:=λb hb=>by
  obtain⟨o,e,_⟩:=T.obj 0 _ st2 b hb;rw [aK (P9 (P2 e))];exact(f2 b hb).1
 have loop:∀ s3:Shared,s3={s2 with heap:=h1,toks:=s2.toks+([]:List (Str×Value)).length}->
   codeAny (model X.prog X.w) X.A (.compLoop (.ListComp elt [⟨tg,iter,[c],0⟩] scope pos) 0 (.ref it) (.ref s2.heap.objs.size) (compEnvC scope cl h1'.objs.size X.env))
    (compPost (model X.prog X.w) X.A X.xe none (EP X pins σ Q) (.ref s2.heap.objs.size) h1'.objs.size) s3:=by
  rintro s3 rfl;refine vW (λn s'=>∃ i σ' H',ay (kc X scope cl N {s2 with heap:=h1'} (bz H2 s2.heap.objs.size (.lst [])) fp h1'.objs.size) [] σ' H' s'/\tn i s'.heap/\(∀ b∈fp,H' b=none)/\W i n σ' H') ?_ m0 ⟨0,_,_,I3,st3,fr3,w0⟩
  rintro n s3 ⟨i,σ3,H3,I3,st3,fr3,w3⟩;rcases turn i n σ3 H3 w3 with ⟨stop,qn⟩ | ⟨go,Nn,hN,step⟩
  ·refine b9 (T.done (kc X scope cl N {s2 with heap:=h1'} (bz H2 s2.heap.objs.size (.lst [])) fp h1'.objs.size) rfl rfl rfl hc i [] s3 σ3 H3 qz I3 (iz I3 fr3) st3 stop) λr s4 ⟨hr,I4⟩=>?_
   subst hr;obtain⟨m,hm,_⟩:=I4.loc;exact⟨m,hm,λh' sb=>⟨.ref _,H3,rY Sc I2 f2 un3 I4 hC sb,rfl,qn⟩⟩
  ·refine b9 (T.item (kc X scope cl N {s2 with heap:=h1'} (bz H2 s2.heap.objs.size (.lst [])) fp h1'.objs.size) rfl rfl rfl hc i [] s3 σ3 H3 qz I3 (iz I3 fr3) st3 go) λr s4 ⟨u,hr,h4⟩=>?_
   subst hr;refine b9 h4 λ_ s5 ⟨x,H5,I5,r5,y5,st5,fr5⟩=>?_
   have I5':=I5.pinned (iz I5 fr5) (T.obj _ _ st5);refine b9 (hg _ _ _ _ _ s5 σ3 H5 x u _ I5' r5 (step x H5 y5)) λ_ s6 ⟨σ6,H6,I6,q6⟩=>?_
   have again:∀ {s8:Shared} {H8:Hp},ay (kc X scope cl N {s2 with heap:=h1'} (bz H2 s2.heap.objs.size (.lst [])) fp h1'.objs.size) ([]++sK fp s5.heap) σ6 H8 s8->Nn σ6 H8->
     ∃ m,m < n/\∃ i σ' H',ay (kc X scope cl N {s2 with heap:=h1'} (bz H2 s2.heap.objs.size (.lst [])) fp h1'.objs.size) [] σ' H' s8/\tn i s8.heap/\(∀ b∈fp,H' b=none)/\W i m σ' H':=λ{s8 H8} I8 n8=>by
    obtain⟨m',hm,w8⟩:=hN σ6 H8 n8;refine⟨m',hm,i+1,σ6,H8,I8.unpinned,T.keep _ _ _ st5 λb hb o e=>(I8.pin (b,o) (Qc _ (Qc _ (dO hb e)))).1,λb hb=>?_,w8⟩
    obtain⟨o,e,d⟩:=T.obj _ _ st5 b hb;exact(I8.pin (b,o) (Qc _ (Qc _ (dO hb e)))).2.1
   refine b9 (hcnd _ _ _ _ _ s6 σ6 H6 _ I6 q6) λb s6' ⟨H6',I6',q6'⟩=>?_
   cases b with
   | true=>
    rw [if_pos rfl] at q6' ⊢;refine b9 (he _ _ _ _ _ s6' σ6 H6' _ I6' q6') λuv s7 ⟨v,H7,I7,r7,ys,hy,hl,q7⟩=>?_
    refine b9 (mV (X:=kc X scope cl N {s2 with heap:=h1'} (bz H2 s2.heap.objs.size (.lst [])) fp h1'.objs.size) _ s7 σ6 H7 (.ref s2.heap.objs.size) [v] (.ref s2.heap.objs.size) [uv] (λ_ H8=>Nn σ6 H8) I7 rfl (.cons r7 .nil) ⟨_,ys,v,rfl,rfl,hy,hl,q7⟩) λ_ s8 ⟨_,H8,I8,_,n8⟩=>?_
    exact again I8 n8
   | false=>
    rw [if_neg P6] at q6' ⊢;exact again I6' q6'
 exact codeAny_compStart_list (loop _ rfl) (T.self _ 0 _ _ _ st3 (loop _ rfl))
end
end L2
namespace DL
open PySem PySem.Spec PyProof.Rows L2
abbrev Fg:=PySem.W.Frag
inductive Ty where
 | non | bool | int | str | tup | lst | dic | verr
def Ty.name:Ty->String
 | .non=>"NoneType" | .bool=>"bool" | .int=>"int" | .str=>"str" | .tup=>"tuple" | .lst=>"list" | .dic=>"dict" | .verr=>"ValueError"
inductive D where
 | non | bl (b:Bool) | int (i:Int) | str (x:Str) | tup (ds:List D) | rl (ds:List D) | ref (a:Addr) | ty (n:Ty)
def Lj (K:Fg) (H:Hp) (a:Addr) (xs:List V):Prop:=
 (∃ o,H a=some (.frz o (.lst xs)))\/∃ (o:Obj) (its:Array Value) (n:Nat),K.lookup a=some o/\o.cls=.type "list"/\o.dict=none/\o.data=.seq its n/\its.size<=sizeLine/\a_ xs its.toList
theorem Lj.sq {K:Fg} {H:Hp} {a:Addr} {xs:List V} (h:Lj K H a xs):jD K H a xs:=by
 rcases h with h | h
 ·exact .inl (.inr h)
 ·exact .inr h
mutual
def bV (K:Fg) (H:Hp):D->V->Prop
 | .non,v=>v=.non
 | .bl b,v=>v=.bl b
 | .int i,v=>v=.int i
 | .str x,v=>v=.str x
 | .tup ds,v=>∃ a xs,v=.ref a/\m9 K H a xs/\IsDs K H ds xs
 | .rl ds,v=>∃ a xs,v=.ref a/\Lj K H a xs/\IsDs K H ds xs
 | .ref a,v=>v=.ref a
 | .ty n,v=>v=.ty n.name
def IsDs (K:Fg) (H:Hp):List D->List V->Prop
 | [],vs=>vs=[]
 | d::ds,vs=>∃ v r,vs=v::r/\bV K H d v/\IsDs K H ds r
end
def NK:HO->Prop
 | .tup _=>True
 | .frz _ _=>True
 | _=>False
def Kp (H H':Hp):Prop:=∀ a o,H a=some o->NK o->H' a=some o
theorem Kp.refl (H:Hp):Kp H H:=λ_ _ h _=>h
theorem Kp.trans {H H1 H2:Hp} (a:Kp H H1) (b:Kp H1 H2):Kp H H2:=λc o h i=>b c o (a c o h i) i
theorem Kp.tup {K:Fg} {H H':Hp} {a:Addr} {xs:List V} (k:Kp H H') (h:m9 K H a xs):m9 K H' a xs:=by
 rcases h with (h | ⟨o,h⟩) | h
 ·exact .inl (.inl (k _ _ h trivial))
 ·exact .inl (.inr ⟨o,k _ _ h trivial⟩)
 ·exact .inr h
theorem Kp.fro {K:Fg} {H H':Hp} {a:Addr} {xs:List V} (k:Kp H H') (h:Lj K H a xs):Lj K H' a xs:=by
 rcases h with ⟨o,h⟩ | h
 ·exact .inl ⟨o,k _ _ h trivial⟩
 ·exact .inr h
theorem Kp.new {H:Hp} {p:Addr} {o:HO} (h:H p=none):Kp H (bz H p o):=λb u e _=>by rw [aK (bf e h)]; exact e
theorem Kp.mut {H:Hp} {p:Addr} {o u:HO} (h:H p=some u) (n:¬ NK u):Kp H (bz H p o):=λb z e i=>by
 rw [aK (λq=>by subst q; rw [h] at e; cases e; exact n i)]; exact e
mutual
theorem bV.kp {K:Fg} {H H':Hp} (k:Kp H H'):∀ {d:D} {v:V},bV K H d v->bV K H' d v
 | .non,_,h=>by unfold bV at *; exact h
 | .bl _,_,h=>by unfold bV at *; exact h
 | .int _,_,h=>by unfold bV at *; exact h
 | .str _,_,h=>by unfold bV at *; exact h
 | .ref _,_,h=>by unfold bV at *; exact h
 | .ty _,_,h=>by unfold bV at *; exact h
 | .tup ds,_,h=>by
  unfold bV at*
  obtain⟨a,xs,e,t,r⟩:=h;exact⟨a,xs,e,k.tup t,IsDs.kp k r⟩
 | .rl ds,_,h=>by
  unfold bV at*
  obtain⟨a,xs,e,t,r⟩:=h;exact⟨a,xs,e,k.fro t,IsDs.kp k r⟩
theorem IsDs.kp {K:Fg} {H H':Hp} (k:Kp H H'):∀ {ds:List D} {vs:List V},IsDs K H ds vs->IsDs K H' ds vs
 | [],_,h=>by unfold IsDs at *; exact h
 | d::ds,_,h=>by
  unfold IsDs at*
  obtain⟨v,r,e,h1,h2⟩:=h;exact⟨v,r,e,bV.kp k h1,IsDs.kp k h2⟩
end
section
variable {K:Fg} {H:Hp}
theorem isInt {i:Int} {v:V}:bV K H (.int i) v↔v=.int i:=by unfold bV; exact Iff.rfl
theorem ck {b:Bool} {v:V}:bV K H (.bl b) v↔v=.bl b:=by unfold bV; exact Iff.rfl
theorem jV {b:Str} {v:V}:bV K H (.str b) v↔v=.str b:=by unfold bV; exact Iff.rfl
theorem cW {v:V}:bV K H .non v↔v=.non:=by unfold bV; exact Iff.rfl
theorem aX {a:Addr} {v:V}:bV K H (.ref a) v↔v=.ref a:=by unfold bV; exact Iff.rfl
theorem Ov {a:Ty} {v:V}:bV K H (.ty a) v↔v=.ty a.name:=by unfold bV; exact Iff.rfl
theorem cy {ds:List D} {v:V}:bV K H (.tup ds) v↔∃ a xs,v=.ref a/\m9 K H a xs/\IsDs K H ds xs:=by unfold bV; exact Iff.rfl
theorem xN {ds:List D} {v:V}:bV K H (.rl ds) v↔∃ a xs,v=.ref a/\Lj K H a xs/\IsDs K H ds xs:=by unfold bV; exact Iff.rfl
theorem j' {vs:List V}:IsDs K H [] vs↔vs=[]:=by unfold IsDs; exact Iff.rfl
theorem c8 {d:D} {ds:List D} {vs:List V}:IsDs K H (d::ds) vs↔∃ v r,vs=v::r/\bV K H d v/\IsDs K H ds r:=by
 constructor
 ·intro h; unfold IsDs at h; exact h
 ·intro h; unfold IsDs; exact h
theorem IsDs.nil:IsDs K H [] []:=j'.mpr rfl
theorem IsDs.cons {d:D} {ds:List D} {v:V} {vs:List V} (h1:bV K H d v) (h2:IsDs K H ds vs):IsDs K H (d::ds) (v::vs):=c8.mpr ⟨v,vs,rfl,h1,h2⟩
theorem IsDs.length:∀ {ds:List D} {vs:List V},IsDs K H ds vs->ds.length=vs.length
 | [],_,h=>by rw [j'.mp h]; rfl
 | d::ds,_,h=>by
  obtain⟨v,r,rfl,_,h2⟩:=c8.mp h;rw [Qe,Qe,IsDs.length h2]
theorem IsDs.get:∀ {ds:List D} {vs:List V} {i:Nat} {d:D},IsDs K H ds vs->ds[i]?=some d->∃ v,vs[i]?=some v/\bV K H d v
 | [],_,_,_,_,e=>by simp at e
 | c::ds,_,0,d,h,e=>by
  obtain⟨v,r,rfl,h1,h2⟩:=c8.mp h;simp at e;subst e;exact⟨v,rfl,h1⟩
 | c::ds,_,i+1,d,h,e=>by
  obtain⟨v,r,rfl,h1,h2⟩:=c8.mp h;obtain⟨u,q1,q2⟩:=IsDs.get (i:=i) (d:=d) h2 (by simpa using e)
  exact⟨u,by simpa using q1,q2⟩
theorem IsDs.set:∀ {ds:List D} {vs:List V} {d:D} {v:V} (i:Nat),IsDs K H ds vs->bV K H d v->IsDs K H (ds.set i d) (vs.set i v)
 | [],_,_,_,_,h,_=>by rw [j'.mp h]; exact IsDs.nil
 | c::ds,_,d,v,0,h,hd=>by
  obtain⟨u,r,rfl,h1,h2⟩:=c8.mp h;exact IsDs.cons hd h2
 | c::ds,_,d,v,i+1,h,hd=>by
  obtain⟨u,r,rfl,h1,h2⟩:=c8.mp h;exact IsDs.cons h1 (IsDs.set i h2 hd)
theorem IsDs.append:∀ {ds es:List D} {vs us:List V},IsDs K H ds vs->IsDs K H es us->IsDs K H (ds++es) (vs++us)
 | [],_,_,_,h,h'=>by rw [j'.mp h]; exact h'
 | c::ds,_,_,_,h,h'=>by
  obtain⟨u,r,rfl,h1,h2⟩:=c8.mp h;exact IsDs.cons h1 (IsDs.append h2 h')
theorem IsDs.drop:∀ {ds:List D} {vs:List V} (n:Nat),IsDs K H ds vs->IsDs K H (ds.drop n) (vs.drop n)
 | _,_,0,h=>h
 | [],_,n+1,h=>by rw [j'.mp h]; exact IsDs.nil
 | c::ds,_,n+1,h=>by
  obtain⟨u,r,rfl,h1,h2⟩:=c8.mp h;exact IsDs.drop n h2
theorem IsDs.take:∀ {ds:List D} {vs:List V} (n:Nat),IsDs K H ds vs->IsDs K H (ds.take n) (vs.take n)
 | _,_,0,h=>by simpa using IsDs.nil
 | [],_,n+1,h=>by rw [j'.mp h]; exact IsDs.nil
 | c::ds,_,n+1,h=>by
  obtain⟨u,r,rfl,h1,h2⟩:=c8.mp h;exact IsDs.cons h1 (IsDs.take n h2)
end
def vf (ks:List Int):Int:=reduceHash (Builtin.Tuple.tupleHashOf (ks.map hashInt))
def eT (x:List Int×Addr×Value):DictEntry:=⟨vf x.1,.ref x.2.1,x.2.2⟩
def lr (es:Array DictEntry) (ep:Nat):Obj:={cls:=.type "dict",dict:=none,data:=.dict es ep,slots:=#[]}
def lq (a:Addr) (xs:List (List Int×Addr×Value)) (ep:Nat):Heap->Prop:=λh=>(a == sysModules)=false/\xs.length<=sizeLine/\(xs.map (·.1)).Nodup/\h.get? a=some (lr (xs.map eT).toArray ep)
inductive IS where
 | dT (kvs:List (List Int×D)) (ep:Nat)
 | dK (kvs:List (dJ×D))
abbrev mW (K:Fg) (H:Hp):List (List Int×D)->List (List Int×Addr×Value)->Prop:=Paired λp q=>p.1=q.1/\m9 K H q.2.1 (p.1.map V.int)/\∃ v,aS v q.2.2/\bV K H p.2 v
def pQ (K:Fg) (H:Hp) (a:Addr):IS->Prop
 | .dT kvs ep=>∃ xs,H a=some (.ext (lq a xs ep))/\mW K H kvs xs
 | .dK kvs=>∃ ys,H a=some (.dK ys)/\Paired (λ(p:dJ×D) (q:dJ×V)=>p.1=q.1/\bV K H p.2 q.2) kvs ys
theorem mW.kp {K:Fg} {H H':Hp} {kvs:List (List Int×D)} {xs:List (List Int×Addr×Value)} (r:mW K H kvs xs) (k:Kp H H'):mW K H' kvs xs:=
 Paired.mapP r λ_ _ ⟨a,b,v,c,d⟩=>⟨a,k.tup b,v,c,d.kp k⟩
theorem pQ.there {K:Fg} {H:Hp} {a:Addr} {g:IS} (h:pQ K H a g):∃ o,H a=some o/\¬ NK o:=by
 cases g with
 | dT kvs ep=>obtain⟨xs,e,_⟩:=h; exact⟨_,e,λz=>z⟩
 | dK kvs=>obtain⟨xs,e,_⟩:=h; exact⟨_,e,λz=>z⟩
theorem pQ.step {K:Fg} {H H':Hp} {a:Addr} {g:IS} (h:pQ K H a g) (k:Kp H H') (s:H' a=H a):pQ K H' a g:=by
 cases g with
 | dT kvs ep=>obtain⟨xs,e,r⟩:=h; exact⟨xs,s.trans e,r.kp k⟩
 | dK kvs=>obtain⟨xs,e,r⟩:=h; exact⟨xs,s.trans e,Paired.mapP r λ_ _ z=>⟨z.1,z.2.kp k⟩⟩
inductive DO where
 | lst (ds:List D)
 | dic
 | exc (C:Addr)
 | fn (φ:Hp->Prop)
 | tbl (ψ:Hp->Array Value->Prop)
 | gen (g:IS)
abbrev DH:=Addr->Option DO
def put (S:DH) (a:Addr) (o:DO):DH:=λb=>if b=a then some o else S b
theorem av {S:DH} {a:Addr} {o:DO}:put S a o a=some o:=by unfold put; rw [if_pos rfl]
theorem cQ {S:DH} {a b:Addr} {o:DO} (h:b≠a):put S a o b=S b:=by unfold put; rw [if_neg h]
theorem tm {S:DH} {a p:Addr} {o:DO} (h:S a=some o) (h':S p=none):a≠p:=by intro e; subst e; rw [h] at h'; cases h'
def Cd (K:Fg) (H:Hp) (a:Addr):DO->Prop
 | .lst ds=>∃ xs,H a=some (.lst xs)/\IsDs K H ds xs
 | .dic=>∃ kvs,H a=some (.dK kvs)
 | .exc C=>∃ o u,H a=some (.frz o u)/\o.cls=.ref C
 | .fn φ=>(∃ o u,H a=some (.frz o u))/\∀ H',Kp H H'->φ H'
 | .tbl ψ=>∃ ps,H a=some (.tbl ps)/\∀ H',Kp H H'->ψ H' ps
 | .gen g=>pQ K H a g
def Hs (K:Fg) (H:Hp) (S:DH):Prop:=∀ a o,S a=some o->Cd K H a o
section
variable {K:Fg} {H H':Hp} {S:DH} {p:Addr}
theorem Hs.lst {ds:List D} (h:Hs K H S) (e:S p=some (.lst ds)):∃ xs,H p=some (.lst xs)/\IsDs K H ds xs:=h p _ e
theorem Hs.free (h:Hs K H S) (e:H p=none):S p=none:=by
 cases q:S p with
 | none=>rfl
 | some o=>
  have z:=h p o q;cases o with
  | lst ds=>obtain⟨xs,z,_⟩:=z; rw [e] at z; cases z
  | dic=>obtain⟨xs,z⟩:=z; rw [e] at z; cases z
  | exc C=>obtain⟨_,_,z,_⟩:=z; rw [e] at z; cases z
  | fn φ=>obtain⟨⟨_,_,z⟩,_⟩:=z; rw [e] at z; cases z
  | tbl ψ=>obtain⟨_,z,_⟩:=z; rw [e] at z; cases z
  | gen g=>obtain⟨_,z,_⟩:=pQ.there z; rw [e] at z; cases z
theorem Hs.step (h:Hs K H S) (k:Kp H H') (s:∀ a o,S a=some o->H' a=H a):Hs K H' S:=λa o e=>by
 have z:=h a o e;cases o with
 | lst ds=>obtain⟨xs,z,r⟩:=z; exact⟨xs,by rw [s a _ e]; exact z,r.kp k⟩
 | dic=>obtain⟨xs,z⟩:=z; exact⟨xs,by rw [s a _ e]; exact z⟩
 | exc C=>obtain⟨x,y,z,r⟩:=z; exact⟨x,y,by rw [s a _ e]; exact z,r⟩
 | fn φ=>obtain⟨⟨x,y,z⟩,r⟩:=z; exact⟨⟨x,y,by rw [s a _ e]; exact z⟩,λH2 k2=>r H2 (k.trans k2)⟩
 | tbl ψ=>obtain⟨ps,z,r⟩:=z; exact⟨ps,by rw [s a _ e]; exact z,λH2 k2=>r H2 (k.trans k2)⟩
 | gen g=>exact pQ.step z k (s a _ e)
theorem Hs.new {o:HO} (h:Hs K H S) (e:H p=none):Hs K (bz H p o) S:=h.step (Kp.new e) λa u q=>by
 rw [aK]; intro z; subst z; rw [h.free e] at q; cases q
theorem Hs.newL {xs:List V} {ds:List D} (h:Hs K H S) (e:H p=none) (r:IsDs K H ds xs):Hs K (bz H p (.lst xs)) (put S p (.lst ds)):=λa o q=>by
 by_cases z:a=p
 ·subst z;rw [av] at q;cases q;exact⟨xs,bu,r.kp (Kp.new e)⟩
 ·rw [cQ z] at q;exact(h.new e) a o q
theorem Hs.setL {xs ys:List V} {ds:List D} (h:Hs K H S) (e:H p=some (.lst xs)) (r:IsDs K H ds ys):Hs K (bz H p (.lst ys)) (put S p (.lst ds)):=λa o q=>by
 have k:Kp H (bz H p (.lst ys)):=Kp.mut e (λz=>z)
 by_cases z:a=p
 ·subst z;rw [av] at q;cases q;exact⟨ys,bu,r.kp k⟩
 ·rw [cQ z] at q;have w:=h a o q;cases o with
  | lst ds=>obtain⟨xs,w,r⟩:=w; exact⟨xs,by rw [aK z]; exact w,r.kp k⟩
  | dic=>obtain⟨xs,w⟩:=w; exact⟨xs,by rw [aK z]; exact w⟩
  | exc C=>obtain⟨x,y,w,r⟩:=w; exact⟨x,y,by rw [aK z]; exact w,r⟩
  | fn φ=>obtain⟨⟨x,y,w⟩,r⟩:=w; exact⟨⟨x,y,by rw [aK z]; exact w⟩,λH2 k2=>r H2 (k.trans k2)⟩
  | tbl ψ=>obtain⟨ps,w,r⟩:=w; exact⟨ps,by rw [aK z]; exact w,λH2 k2=>r H2 (k.trans k2)⟩
  | gen g=>exact pQ.step w k (aK z)
end
abbrev Lo:=List (Option D)
def Lc (K:Fg) (H:Hp):Lo->L2.St->Prop
 | [],σ=>σ=[]
 | none::L,σ=>∃ x r,σ=x::r/\Lc K H L r
 | some d::L,σ=>∃ v r,σ=some v::r/\bV K H d v/\Lc K H L r
section
variable {K:Fg} {H H':Hp}
theorem Lc.kp (k:Kp H H'):∀ {L:Lo} {σ:L2.St},Lc K H L σ->Lc K H' L σ
 | [],_,h=>h
 | none::L,_,h=>by
  obtain⟨x,r,e,h⟩:=h;exact⟨x,r,e,Lc.kp k h⟩
 | some d::L,_,h=>by
  obtain⟨v,r,e,h1,h⟩:=h;exact⟨v,r,e,h1.kp k,Lc.kp k h⟩
theorem Lc.get:∀ {L:Lo} {σ:L2.St} {i:Nat} {d:D},Lc K H L σ->L[i]?=some (some d)->∃ v,σ[i]?=some (some v)/\bV K H d v
 | [],_,_,_,_,e=>by simp at e
 | none::L,_,0,_,_,e=>by simp at e
 | some c::L,_,0,d,h,e=>by
  obtain⟨v,r,rfl,h1,h⟩:=h;simp at e;subst e;exact⟨v,rfl,h1⟩
 | none::L,_,i+1,d,h,e=>by
  obtain⟨x,r,rfl,h⟩:=h;obtain⟨u,q1,q2⟩:=Lc.get (i:=i) (d:=d) h (by simpa using e)
  exact⟨u,by simpa using q1,q2⟩
 | some c::L,_,i+1,d,h,e=>by
  obtain⟨v,r,rfl,_,h⟩:=h;obtain⟨u,q1,q2⟩:=Lc.get (i:=i) (d:=d) h (by simpa using e)
  exact⟨u,by simpa using q1,q2⟩
theorem Lc.set {d:D} {v:V} (hd:bV K H d v):∀ {L:Lo} {σ:L2.St} (i:Nat),Lc K H L σ->Lc K H (L.set i (some d)) (σ.set i (some v))
 | [],_,_,h=>by
  have e:_=[]:=h;subst e;exact rfl
 | none::L,_,0,h=>by
  obtain⟨x,r,rfl,h⟩:=h;exact⟨v,r,rfl,hd,h⟩
 | some c::L,_,0,h=>by
  obtain⟨x,r,rfl,_,h⟩:=h;exact⟨v,r,rfl,hd,h⟩
 | none::L,_,i+1,h=>by
  obtain⟨x,r,rfl,h⟩:=h;exact⟨x,r.set i (some v),rfl,Lc.set hd i h⟩
 | some c::L,_,i+1,h=>by
  obtain⟨x,r,rfl,h1,h⟩:=h;exact⟨x,r.set i (some v),rfl,h1,Lc.set hd i h⟩
theorem Lc.none:∀ (n:Nat),Lc K H (List.replicate n .none) (List.replicate n .none)
 | 0=>rfl
 | n+1=>⟨_,_,rfl,Lc.none n⟩
theorem Lc.start:∀ {ds:List D} {vs:List V} (n:Nat),IsDs K H ds vs->Lc K H (ds.map some++List.replicate n .none) (vs.map some++List.replicate n .none)
 | [],_,n,h=>by rw [j'.mp h]; exact Lc.none n
 | d::ds,_,n,h=>by
  obtain⟨v,r,rfl,h1,h2⟩:=c8.mp h;exact⟨v,_,rfl,h1,Lc.start n h2⟩
end
abbrev DK:=D->DH->Prop
abbrev DE:=Lo->DH->DK->Prop
abbrev DT:=Lo->DH->(Bool->DH->Prop)->Prop
abbrev DA:=Lo->DH->(List D->DH->Prop)->Prop
structure nH where
 nx:Lo->DH->Prop
 rt:DK
 bk:Lo->DH->Prop:=λ_ _=>False
 ct:Lo->DH->Prop:=λ_ _=>False
abbrev DS:=nH->Lo->DH->Prop
def up (K:Fg) (g:DE):TE:=fun σ H Q=>∃ L S k,Lc K H L σ/\Hs K H S/\g L S k/\∀ d S' v H',k d S'->Kp H H'->Hs K H' S'->bV K H' d v->Q v H'
def ml (K:Fg) (g:DT):TT:=fun σ H Q=>∃ L S k,Lc K H L σ/\Hs K H S/\g L S k/\∀ b S' H',k b S'->Kp H H'->Hs K H' S'->Q b H'
def qB (K:Fg) (g:DA):TA:=fun σ H Q=>∃ L S k,Lc K H L σ/\Hs K H S/\g L S k/\∀ ds S' vs H',k ds S'->Kp H H'->Hs K H' S'->IsDs K H' ds vs->Q vs H'
structure Lr (K:Fg) (H:Hp) (M:nH) (N:qR):Prop where
 nx:∀ L S σ H',M.nx L S->Kp H H'->Lc K H' L σ->Hs K H' S->N.nx σ H'
 rt:∀ d S v H',M.rt d S->Kp H H'->Hs K H' S->bV K H' d v->N.rt v H'
 bk:∀ L S σ H',M.bk L S->Kp H H'->Lc K H' L σ->Hs K H' S->N.bk σ H'
 ct:∀ L S σ H',M.ct L S->Kp H H'->Lc K H' L σ->Hs K H' S->N.ct σ H'
theorem Lr.kp {K:Fg} {H H1:Hp} {M:nH} {N:qR} (r:Lr K H M N) (k:Kp H H1):Lr K H1 M N:=
 ⟨λL S σ H' h k'=>r.nx L S σ H' h (k.trans k'),λd S v H' h k'=>r.rt d S v H' h (k.trans k'),λL S σ H' h k'=>r.bk L S σ H' h (k.trans k'),λL S σ H' h k'=>r.ct L S σ H' h (k.trans k')⟩
def o_ (K:Fg) (g:DS):TS:=λN σ H=>∃ L S M,Lc K H L σ/\Hs K H S/\g M L S/\Lr K H M N
theorem PE.imp {X:Cx} {e:Expr} {t t':TE} (h:PE X e t) (i:∀ σ H Q,t' σ H Q->t σ H Q):PE X e t':=λpins s σ H Q I q=>h pins s σ H Q I (i σ H Q q)
theorem PT.imp {X:Cx} {e:Expr} {t t':TT} (h:PT X e t) (i:∀ σ H Q,t' σ H Q->t σ H Q):PT X e t':=λpins s σ H Q I q=>h pins s σ H Q I (i σ H Q q)
theorem PW.imp {X:Cx} {e:Expr} {t t':TT} (h:PW X e t) (i:∀ σ H Q,t' σ H Q->t σ H Q):PW X e t':=λw pins s σ H Q I q=>h w pins s σ H Q I (i σ H Q q)
theorem PA.imp {X:Cx} {e:List Expr} {t t':TA} (h:PA X e t) (i:∀ σ H Q,t' σ H Q->t σ H Q):PA X e t':=λpos pins s σ H Q I q=>h pos pins s σ H Q I (i σ H Q q)
theorem PS.imp {X:Cx} {e:Stmt} {t t':TS} (h:PS X e t) (i:∀ N σ H,t' N σ H->t N σ H):PS X e t':=λpins s σ H Q I q=>h pins s σ H Q I (i Q σ H q)
theorem oA.imp {X:Cx} {e:List Stmt} {t t':TS} (h:oA X e t) (i:∀ N σ H,t' N σ H->t N σ H):oA X e t':=λpins s σ H Q I q=>h pins s σ H Q I (i Q σ H q)
theorem up.go {K:Fg} {g:DE} {σ:L2.St} {H:Hp} {Q:VK} {L:Lo} {S:DH} {k:DK} (hL:Lc K H L σ) (hS:Hs K H S) (h:g L S k)
  (n:∀ d S' v H',k d S'->Kp H H'->Lc K H' L σ->Hs K H' S'->bV K H' d v->Q v H'):up K g σ H Q:=
 ⟨L,S,k,hL,hS,h,λd S' v H' a b c e=>n d S' v H' a b (hL.kp b) c e⟩
theorem ml.go {K:Fg} {g:DT} {σ:L2.St} {H:Hp} {Q:Bool->Hp->Prop} {L:Lo} {S:DH} {k:Bool->DH->Prop} (hL:Lc K H L σ) (hS:Hs K H S) (h:g L S k)
  (n:∀ b S' H',k b S'->Kp H H'->Lc K H' L σ->Hs K H' S'->Q b H'):ml K g σ H Q:=
 ⟨L,S,k,hL,hS,h,λb S' H' a c e=>n b S' H' a c (hL.kp c) e⟩
theorem qB.go {K:Fg} {g:DA} {σ:L2.St} {H:Hp} {Q:List V->Hp->Prop} {L:Lo} {S:DH} {k:List D->DH->Prop} (hL:Lc K H L σ) (hS:Hs K H S) (h:g L S k)
  (n:∀ ds S' vs H',k ds S'->Kp H H'->Lc K H' L σ->Hs K H' S'->IsDs K H' ds vs->Q vs H'):qB K g σ H Q:=
 ⟨L,S,k,hL,hS,h,λd S' v H' a b c e=>n d S' v H' a b (hL.kp b) c e⟩
section
variable {X:Cx} {a b c:Expr} {ga gb gc:DE} {pos:Pos}
def kD (i:Nat):DE:=λL S k=>match L[i]? with
 | some (some d)=>k d S
 | _=>False
def dC (d:D):DE:=λ_ S k=>k d S
theorem LC (i:Nat) {x:Str} (hN:X.N[i]?=some x:=by rfl) (hv:Ny X.env.scope x:=by first | exact Or.inl rfl | exact Or.inr (Or.inl rfl) | exact Or.inr (Or.inr rfl)) (hd:(x == ("__debug__":Str))=false:=by decide)
  (hcd:(x == ("__classdict__":Str))=false:=by decide):PE X (.Name x pos) (up X.K (kD i)):=
 PE.imp (K9 hN hv hd hcd) fun σ H Q ⟨L,S,k,hL,hS,h,n⟩=>by
  unfold kD at h
  split at h
  ·rename_i d e
   obtain⟨v,e1,e2⟩:=hL.get e;exact⟨v,e1,n d S v H h (Kp.refl H) hS e2⟩
  ·exact h.elim
theorem Lq {e:Expr} {d:D} {v:V} (h:PE X e (tC v)) (hd:∀ H,bV X.K H d v):PE X e (up X.K (dC d)):=
 PE.imp h fun σ H Q ⟨L,S,k,hL,hS,h,n⟩=>n d S v H h (Kp.refl H) hS (hd H)
theorem MH {i j pos}:PE X (.Constant (.int i) j pos) (up X.K (dC (.int i))):=Lq J9 λ_=>isInt.mpr rfl
theorem N0 {i j pos}:PE X (.Constant (.bool i) j pos) (up X.K (dC (.bl i))):=Lq Nd λ_=>ck.mpr rfl
theorem MN {j pos}:PE X (.Constant .none j pos) (up X.K (dC .non)):=Lq J5 λ_=>cW.mpr rfl
theorem Mq {i j pos}:PE X (.Constant (.str i) j pos) (up X.K (dC (.str i))):=Lq KF λ_=>jV.mpr rfl
def IW:Expr->Bool
 | .Starred _ _=>true
 | _=>false
theorem bN {a:Expr} {es:List Expr} {env:Env} (h:IW a=false):starEach (a::es) env=(false,eval a env)::starEach es env:=by
 cases a <;> first | rfl | cases h
theorem dz {pos:Pos} {env:Env}:∀ {es:List Expr},(es.all λe=>!IW e)=true->(backTo pos (starEach es env)).any (·.1)=false
 | [],_=>rfl
 | e::es,h=>by
  rw [List.all_cons,QI] at h;rw [bN (by simpa using h.1)]
  exact dz h.2
def y8:DA:=λ_ S k=>k [] S
def nJ (g:DE) (t:DA):DA:=λL S k=>g L S λd S1=>t L S1 λds S2=>k (d::ds) S2
theorem J6:PA X [] (qB X.K y8):=PA.imp pN fun σ H Q ⟨L,S,k,hL,hS,h,n⟩=>n [] S [] H h (Kp.refl H) hS IsDs.nil
theorem GH {es:List Expr} {t:DA} (ha:PE X a (up X.K ga)) (hr:PA X es (qB X.K t)) (hs:starEach (a::es) X.env=(false,eval a X.env)::starEach es X.env:=by exact bN rfl):PA X (a::es) (qB X.K (nJ ga t)):=
 PA.imp (nv ha hr hs) fun σ H Q ⟨L,S,k,hL,hS,h,n⟩=>up.go hL hS h λd S1 v H1 h1 k1 hL1 hS1 i1=>qB.go hL1 hS1 h1 λds S2 vs H2 h2 k2 hL2 hS2 i2=>
  n (d::ds) S2 (v::vs) H2 h2 (k1.trans k2) hS2 (IsDs.cons (i1.kp k2) i2)
def DY (t:DA):DE:=λL S k=>t L S λds S1=>ds.length<=sizeLine/\k (.tup ds) S1
def MS (t:DA):DE:=λL S k=>t L S λds S1=>ds.length<=sizeLine/\∀ p,S1 p=none->k (.ref p) (put S1 p (.lst ds))
theorem LY {es:List Expr} {x1} {t:DA} (h:PA X es (qB X.K t)):PE X (.Tuple es x1 pos) (up X.K (DY t)):=
 PE.imp (JE h) fun σ H Q ⟨L,S,k,hL,hS,h,n⟩=>qB.go hL hS h λds S1 vs H1 h1 k1 hL1 hS1 i1=>by
  refine⟨by rw [<- i1.length]; exact h1.1,λp hp=>?_⟩
  have k2:Kp H1 (bz H1 p (.tup vs)):=Kp.new hp;exact n (.tup ds) S1 _ _ h1.2 (k1.trans k2) (hS1.new hp) (cy.mpr ⟨p,vs,rfl,m9.of bu,i1.kp k2⟩)
theorem MF {es:List Expr} {t:DA} (h:PA X es (qB X.K t)):PE X (.List es pos) (up X.K (MS t)):=
 PE.imp (Jj h) fun σ H Q ⟨L,S,k,hL,hS,h,n⟩=>qB.go hL hS h λds S1 vs H1 h1 k1 hL1 hS1 i1=>by
  refine⟨by rw [<- i1.length]; exact h1.1,λp hp=>?_⟩
  exact n (.ref p) _ _ _ (h1.2 p (hS1.free hp)) (k1.trans (Kp.new hp)) (hS1.newL hp i1) (aX.mpr rfl)
abbrev D2:=D->D->DH->DK->Prop
def jL (K:Fg) (r:D2):R2:=λx y H Q=>∃ d e S k,bV K H d x/\bV K H e y/\Hs K H S/\r d e S k/\∀ d' S' v H',k d' S'->Kp H H'->Hs K H' S'->bV K H' d' v->Q v H'
def xM (r:D2) (ga gb:DE):DE:=λL S k=>ga L S λx S1=>gb L S1 λy S2=>r x y S2 k
theorem wP {K:Fg} {r:D2}:∀ σ H Q,up K (xM r ga gb) σ H Q->L9 (jL K r) (up K ga) (up K gb) σ H Q:=fun σ H Q ⟨L,S,k,hL,hS,h,n⟩=>
 up.go hL hS h λd S1 v H1 h1 k1 hL1 hS1 i1=>up.go hL1 hS1 h1 λe S2 u H2 h2 k2 hL2 hS2 i2=>
  ⟨d,e,S2,k,i1.kp k2,i2,hS2,h2,λd' S' v H' q k3 z1 z2=>n d' S' v H' q (k1.trans (k2.trans k3)) z1 z2⟩
theorem Oh {op:Operator} {r:D2} (ho:fW X (binaryOp op) (jL X.K r)) (ha:PE X a (up X.K ga)) (hb:PE X b (up X.K gb)):PE X (.BinOp a op b pos) (up X.K (xM r ga gb)):=PE.imp (L7 ho ha hb) wP
theorem MZ {op:CmpOp} {r:D2} (ho:fW X (compareOp op) (jL X.K r)) (ha:PE X a (up X.K ga)) (hb:PE X b (up X.K gb)) (hm:behindInMarks op b=false):PE X (.Compare a [op] [b] pos) (up X.K (xM r ga gb)):=PE.imp (G8 ho ha hb hm) wP
theorem Oy {r:D2} (hr:Ba X (jL X.K r)) (ha:PE X a (up X.K ga)) (hb:PE X b (up X.K gb)) (hs:pe b):PE X (.Subscript a b pos) (up X.K (xM r ga gb)):=PE.imp (Na hr ha hb hs) wP
abbrev D1:=D->DH->DK->Prop
def NU (K:Fg) (r:D1):V->Hp->VK->Prop:=λx H Q=>∃ d S k,bV K H d x/\Hs K H S/\r d S k/\∀ d' S' v H',k d' S'->Kp H H'->Hs K H' S'->bV K H' d' v->Q v H'
def NB (r:D1) (ga:DE):DE:=λL S k=>ga L S λx S1=>r x S1 k
theorem Oe {op:UnaryOp} {r:D1} (ho:Ll X (unaryOp op) (NU X.K r)) (ha:PE X a (up X.K ga)):PE X (.UnaryOp op a pos) (up X.K (NB r ga)):=
 PE.imp (Lv ho ha) fun σ H Q ⟨L,S,k,hL,hS,h,n⟩=>up.go hL hS h λd S1 v H1 h1 k1 hL1 hS1 i1=>⟨d,S1,k,i1,hS1,h1,λd' S' v H' q k3 z1 z2=>n d' S' v H' q (k1.trans k3) z1 z2⟩
def uL (g:DE):DT:=λL S k=>g L S λd S1=>match d with
 | .bl c=>k c S1
 | _=>False
theorem yc {K:Fg} {g:DE}:∀ σ H Q,ml K (uL g) σ H Q->IU (up K g) σ H Q:=fun σ H Q ⟨L,S,k,hL,hS,h,n⟩=>
 up.go hL hS h λd S1 v H1 h1 k1 hL1 hS1 i1=>by
  cases d with
  | bl c=>
   have e:=ck.mp i1;subst e;exact⟨c,rfl,n c S1 H1 h1 k1 hS1⟩
  | _=>exact(show False from h1).elim
theorem JH {op:CmpOp} {r:D2} (ho:fW X (compareOp op) (jL X.K r)) (ha:PE X a (up X.K ga)) (hb:PE X b (up X.K gb)) (hm:behindInMarks op b=false):PT X (.Compare a [op] [b] pos) (ml X.K (uL (xM r ga gb))):=
 PT.imp (PT.imp (GX ho ha hb hm) fun σ H Q h=>wP σ H _ h) yc
theorem K1 {e:Expr} {g:DE} (h:PE X e (up X.K g)) (he:∀ whole,isTrue e X.env whole=(do let v <- whole; standAt e.pos; holding [v] (truthy v)):=by intro _; rfl):PT X e (ml X.K (uL g)):=
 PT.imp (KQ h he) yc
variable {tA tB':DT} {aw:List Expr}
def Iw (t u:DT):DT:=λL S k=>t L S λc S1=>if c=true then u L S1 k else k false S1
def Mj (t u:DT):DT:=λL S k=>t L S λc S1=>if c=true then k true S1 else u L S1 k
def II (t:DT):DT:=λL S k=>t L S λc S1=>k (!c) S1
theorem Gq (ha:PT X a (ml X.K tA)):PW X (.BoolOp .And [a] pos) (ml X.K tA):=GO ha
theorem J0 (ha:PT X a (ml X.K tA)):PW X (.BoolOp .Or [a] pos) (ml X.K tA):=Kl ha
theorem KR (ha:PT X a (ml X.K tA)) (hb:PW X (.BoolOp .And (b::aw) pos) (ml X.K tB')):PW X (.BoolOp .And (a::b::aw) pos) (ml X.K (Iw tA tB')):=
 PW.imp (Kq ha hb) fun σ H Q ⟨L,S,k,hL,hS,h,n⟩=>ml.go hL hS h λc S1 H1 h1 k1 hL1 hS1=>by
  cases c with
  | true=>
   rw [if_pos rfl] at h1 ⊢;exact ml.go hL1 hS1 h1 λc2 S2 H2 h2 k2 _ hS2=>n c2 S2 H2 h2 (k1.trans k2) hS2
  | false=>
   rw [if_neg P6] at h1 ⊢;exact n false S1 H1 h1 k1 hS1
theorem LF (ha:PT X a (ml X.K tA)) (hb:PW X (.BoolOp .Or (b::aw) pos) (ml X.K tB')):PW X (.BoolOp .Or (a::b::aw) pos) (ml X.K (Mj tA tB')):=
 PW.imp (MB ha hb) fun σ H Q ⟨L,S,k,hL,hS,h,n⟩=>ml.go hL hS h λc S1 H1 h1 k1 hL1 hS1=>by
  cases c with
  | true=>
   rw [if_pos rfl] at h1 ⊢;exact n true S1 H1 h1 k1 hS1
  | false=>
   rw [if_neg P6] at h1 ⊢;exact ml.go hL1 hS1 h1 λc2 S2 H2 h2 k2 _ hS2=>n c2 S2 H2 h2 (k1.trans k2) hS2
theorem JP (ha:PT X a (ml X.K tA)):PT X (.UnaryOp .Not a pos) (ml X.K (II tA)):=
 PT.imp (J7 ha) fun σ H Q ⟨L,S,k,hL,hS,h,n⟩=>ml.go hL hS h λc S1 H1 h1 k1 hL1 hS1=>n _ S1 H1 h1 k1 hS1
def O7 (t:DT) (ga gb:DE):DE:=λL S k=>t L S λc S1=>if c=true then ga L S1 k else gb L S1 k
theorem Od {c:Expr} (hc:PT X c (ml X.K tA)) (ha:PE X a (up X.K ga)) (hb:PE X b (up X.K gb)):PE X (.IfExp c a b pos) (up X.K (O7 tA ga gb)):=
 PE.imp (EH hc ha hb) fun σ H Q ⟨L,S,k,hL,hS,h,n⟩=>ml.go hL hS h λd S1 H1 h1 k1 hL1 hS1=>by
  cases d with
  | true=>
   rw [if_pos rfl] at h1 ⊢;exact up.go hL1 hS1 h1 λd2 S2 v2 H2 h2 k2 _ hS2 i2=>n d2 S2 v2 H2 h2 (k1.trans k2) hS2 i2
  | false=>
   rw [if_neg P6] at h1 ⊢;exact up.go hL1 hS1 h1 λd2 S2 v2 H2 h2 k2 _ hS2 i2=>n d2 S2 v2 H2 h2 (k1.trans k2) hS2 i2
end
section
variable {X:Cx}
theorem og {K:Fg} {H:Hp} {S:DH} {k:DK} {Q:VK} {d:D} {v:V} (n:∀ d' S' v H',k d' S'->Kp H H'->Hs K H' S'->bV K H' d' v->Q v H') (hS:Hs K H S) (h:k d S) (i:bV K H d v):Q v H:=n d S v H h (Kp.refl H) hS i
def KJ (C:Int->Int->Prop) (g:Int->Int->D):D2:=λd e S k=>match d,e with
 | .int i,.int j=>C i j/\k (g i j) S
 | _,_=>False
theorem Cc {f:Value->Value->Sem Value} {C:Int->Int->Prop} {g:Int->Int->D} {gV:Int->Int->V} (ho:fW X f (rI C gV)) (hg:∀ i j H,bV X.K H (g i j) (gV i j)):fW X f (jL X.K (KJ C g)):=by
 intro pins s σ H x y v u Q I rx ry h;obtain⟨d,e,S,k,i1,i2,hS,r,n⟩:=h;cases d with
 | int i=>
  cases e with
  | int j=>
   have e1:=isInt.mp i1;have e2:=isInt.mp i2;subst e1;subst e2;exact ho pins s σ H _ _ v u Q I rx ry ⟨i,j,rfl,rfl,r.1,og n hS r.2 (hg i j H)⟩
  | _=>exact(show False from r).elim
 | _=>exact(show False from r).elim
def B5 (g:Int->Int->D):D2:=λd e S k=>match d,e with
 | .int i,.int j=>k (g i j) S
 | _,_=>False
theorem yf {f:Value->Value->Sem Value} {g:Int->Int->D} {gV:Int->Int->V} (ho:fW X f (GN gV)) (hg:∀ i j H,bV X.K H (g i j) (gV i j)):fW X f (jL X.K (B5 g)):=by
 intro pins s σ H x y v u Q I rx ry h;obtain⟨d,e,S,k,i1,i2,hS,r,n⟩:=h;cases d with
 | int i=>
  cases e with
  | int j=>
   have e1:=isInt.mp i1;have e2:=isInt.mp i2;subst e1;subst e2;exact ho pins s σ H _ _ v u Q I rx ry ⟨i,j,rfl,rfl,og n hS r (hg i j H)⟩
  | _=>exact(show False from r).elim
 | _=>exact(show False from r).elim
def Al (i j:Int):Prop:=j≠0/\j.natAbs.log2 < 9000
abbrev OM:D2:=B5 λi j=>.int (i - j)
abbrev OE:D2:=KJ IntMulOk λi j=>.int (i*j)
abbrev MV:D2:=KJ Al λi j=>.int (i.fdiv j)
abbrev NO:D2:=KJ (λ_ j=>j≠0) λi j=>.int (i.fmod j)
abbrev N6:D2:=KJ BB λi j=>.int (i ^ j.toNat)
abbrev Om:D2:=KJ BB λi j=>.int (i*2 ^ j.toNat)
abbrev PX:D2:=B5 λi j=>.bl (decide (i < j))
abbrev Pb:D2:=B5 λi j=>.bl (decide (i<=j))
abbrev Pz:D2:=B5 λi j=>.bl (decide (j < i))
abbrev Py:D2:=B5 λi j=>.bl (decide (j<=i))
theorem jZ:fW X (binaryOp .Sub) (jL X.K OM):=yf Jx λ_ _ _=>isInt.mpr rfl
theorem aM:fW X (binaryOp .Mult) (jL X.K OE):=Cc (C:=IntMulOk) (gV:=λi j=>.int (i*j)) (Ni λ_ _ _ _ _ _ _ hc q=>mul_int q hc) λ_ _ _=>isInt.mpr rfl
theorem jh:fW X (binaryOp .FloorDiv) (jL X.K MV):=Cc (C:=Al) (gV:=λi j=>.int (i.fdiv j)) (Ni λ_ _ _ _ _ _ _ hc q=>floordiv_int hc.1 q (.inl (PyProof.noPylong_of_log2 hc.2))) λ_ _ _=>isInt.mpr rfl
theorem pi:fW X (binaryOp .Mod) (jL X.K NO):=Cc Hf λ_ _ _=>isInt.mpr rfl
theorem Id:fW X (binaryOp .Pow) (jL X.K N6):=Cc JJ λ_ _ _=>isInt.mpr rfl
theorem LE:fW X (binaryOp .LShift) (jL X.K Om):=Cc KB λ_ _ _=>isInt.mpr rfl
theorem uG:fW X (compareOp .Lt) (jL X.K PX):=yf Nb λ_ _ _=>ck.mpr rfl
theorem LV:fW X (compareOp .LtE) (jL X.K Pb):=yf Mg λ_ _ _=>ck.mpr rfl
theorem EG:fW X (compareOp .Gt) (jL X.K Pz):=yf LH λ_ _ _=>ck.mpr rfl
theorem Oa:fW X (compareOp .GtE) (jL X.K Py):=yf L0 λ_ _ _=>ck.mpr rfl
def Ms:D2:=λd e S k=>match d,e with
 | .int i,.int j=>k (.int (i+j)) S
 | .str x,.str y=>x.length+y.length<=sizeLine/\k (.str (x++y)) S
 | .tup xs,.tup ys=>xs≠[]/\ys≠[]/\xs.length+ys.length<=sizeLine/\k (.tup (xs++ys)) S
 | .ref a,.ref b=>∃ xs ys,S a=some (.lst xs)/\S b=some (.lst ys)/\xs.length+ys.length<=sizeLine/\∀ p,S p=none->k (.ref p) (put S p (.lst (xs++ys)))
 | _,_=>False
theorem vd {K:Fg} {H:Hp} {ds:List D} {vs:List V} (i:IsDs K H ds vs) (h:ds≠[]):vs≠[]:=by
 intro e;subst e;have:=i.length;exact h (Rg.mp this)
theorem cX:fW X (binaryOp .Add) (jL X.K Ms):=by
 intro pins s σ H x y v u Q I rx ry h;obtain⟨d,e,S,k,i1,i2,hS,r,n⟩:=h;cases d with
 | int i=>
  cases e with
  | int j=>
   have e1:=isInt.mp i1;have e2:=isInt.mp i2;subst e1;subst e2;exact Jk pins s σ H _ _ v u Q I rx ry ⟨i,j,rfl,rfl,og n hS r (isInt.mpr rfl)⟩
  | _=>exact(show False from r).elim
 | str i=>
  cases e with
  | str j=>
   have e1:=jV.mp i1;have e2:=jV.mp i2;subst e1;subst e2;exact zD pins s σ H _ _ v u Q I rx ry ⟨i,j,rfl,rfl,r.1,og n hS r.2 (jV.mpr rfl)⟩
  | _=>exact(show False from r).elim
 | tup xs=>
  cases e with
  | tup ys=>
   obtain⟨a,vs,rfl,t1,j1⟩:=cy.mp i1;obtain⟨b,us,rfl,t2,j2⟩:=cy.mp i2;obtain⟨h1,h2,h3,r⟩:=r;refine Hv pins s σ H _ _ v u Q I rx ry ⟨a,b,vs,us,rfl,rfl,t1,t2,vd j1 h1,by rw [<- j1.length,<- j2.length]; exact h3,λz=>absurd z (vd j2 h2),λ_ p hp=>?_⟩
   have kp:Kp H (bz H p (.tup (vs++us))):=Kp.new hp;exact n _ S _ _ r kp (hS.new hp) (cy.mpr ⟨p,_,rfl,m9.of bu,(j1.append j2).kp kp⟩)
  | _=>exact(show False from r).elim
 | ref a=>
  cases e with
  | ref b=>
   have e1:=aX.mp i1;have e2:=aX.mp i2;subst e1;subst e2;obtain⟨xs,ys,h1,h2,h3,r⟩:=r;obtain⟨vs,q1,j1⟩:=hS.lst h1;obtain⟨us,q2,j2⟩:=hS.lst h2;refine KK pins s σ H _ _ v u Q I rx ry ⟨a,b,vs,us,rfl,rfl,q1,q2,by rw [<- j1.length,<- j2.length]; exact h3,λp hp=>?_⟩
   exact n _ _ _ _ (r p (hS.free hp)) (Kp.new hp) (hS.newL hp (j1.append j2)) (aX.mpr rfl)
  | _=>exact(show False from r).elim
 | _=>exact(show False from r).elim
def Li:D->D->Option Bool
 | .int i,.int j=>some (decide (i=j))
 | .bl i,.bl j=>some (decide (i=j))
 | .str i,.str j=>some (decide (i=j))
 | _,_=>none
def O6:D2:=λd e S k=>match Li d e with
 | some b=>k (.bl b) S
 | none=>False
def Oq:D2:=λd e S k=>match Li d e with
 | some b=>k (.bl (!b)) S
 | none=>False
theorem IA {K:Fg} {H:Hp} {d e:D} {x y:V} {b:Bool} (h:Li d e=some b) (i1:bV K H d x) (i2:bV K H e y):JI x y=true/\decide (x=y)=b:=by
 unfold Li at h
 split at h
 ·have e1:=isInt.mp i1;have e2:=isInt.mp i2;subst e1; subst e2
  cases h;exact⟨rfl,by simp⟩
 ·have e1:=ck.mp i1;have e2:=ck.mp i2;subst e1; subst e2
  cases h;exact⟨rfl,by simp⟩
 ·have e1:=jV.mp i1;have e2:=jV.mp i2;subst e1; subst e2
  cases h;exact⟨rfl,by simp⟩
 ·cases h
theorem nA:fW X (compareOp .Eq) (jL X.K O6):=by
 intro pins s σ H x y v u Q I rx ry h;obtain⟨d,e,S,k,i1,i2,hS,r,n⟩:=h;unfold O6 at r;cases q:Li d e with
 | none=>rw [q] at r; exact r.elim
 | some b=>
  rw [q] at r;obtain⟨h1,h2⟩:=IA q i1 i2;exact Lw pins s σ H _ _ v u Q I rx ry ⟨h1,by rw [h2]; exact og n hS r (ck.mpr rfl)⟩
theorem Jv:fW X (compareOp .NotEq) (jL X.K Oq):=by
 intro pins s σ H x y v u Q I rx ry h;obtain⟨d,e,S,k,i1,i2,hS,r,n⟩:=h;unfold Oq at r;cases q:Li d e with
 | none=>rw [q] at r; exact r.elim
 | some b=>
  rw [q] at r;obtain⟨h1,h2⟩:=IA q i1 i2;exact L_ pins s σ H _ _ v u Q I rx ry ⟨h1,by rw [h2]; exact og n hS r (ck.mpr rfl)⟩
def zn:D->Bool
 | .non=>true
 | _=>false
def OV:D2:=λd e S k=>match d,e with
 | .bl c,.bl b=>k (.bl (c == b)) S
 | d,.non=>k (.bl (zn d)) S
 | _,_=>False
def E7:D2:=λd e S k=>match d,e with
 | .bl c,.bl b=>k (.bl (!(c == b))) S
 | d,.non=>k (.bl (!zn d)) S
 | _,_=>False
theorem xG {K:Fg} {H:Hp} {d:D} {x:V} (i:bV K H d x):decide (x=.non)=zn d:=by
 cases d with
 | non=>rw [cW.mp i]; rfl
 | bl b=>rw [ck.mp i]; rfl
 | int b=>rw [isInt.mp i]; rfl
 | str b=>rw [jV.mp i]; rfl
 | ref b=>rw [aX.mp i]; rfl
 | ty b=>rw [Ov.mp i]; rfl
 | tup b=>obtain⟨a,xs,rfl,_⟩:=cy.mp i; rfl
 | rl b=>obtain⟨a,xs,rfl,_⟩:=xN.mp i; rfl
theorem FZ:fW X (compareOp .Is) (jL X.K OV):=by
 intro pins s σ H x y v u Q I rx ry h;obtain⟨d,e,S,k,i1,i2,hS,r,n⟩:=h;unfold OV at r
 split at r
 ·rename_i c b
  have e1:=ck.mp i1;have e2:=ck.mp i2;subst e1; subst e2
  cases rx; cases ry
  exact is_bool ⟨.bl _,H,I,rfl,og n hS r (ck.mpr rfl)⟩
 ·have e2:=cW.mp i2;exact Kf pins s σ H _ _ v u Q I rx ry ⟨e2,by rw [xG i1]; exact og n hS r (ck.mpr rfl)⟩
 ·exact r.elim
theorem AG:fW X (compareOp .IsNot) (jL X.K E7):=by
 intro pins s σ H x y v u Q I rx ry h;obtain⟨d,e,S,k,i1,i2,hS,r,n⟩:=h;unfold E7 at r
 split at r
 ·rename_i c b
  have e1:=ck.mp i1;have e2:=ck.mp i2;subst e1; subst e2
  cases rx; cases ry
  exact isnot_bool ⟨.bl _,H,I,rfl,og n hS r (ck.mpr rfl)⟩
 ·have e2:=cW.mp i2;exact GK pins s σ H _ _ v u Q I rx ry ⟨e2,by rw [xG i1]; exact og n hS r (ck.mpr rfl)⟩
 ·exact r.elim
def OF:D1:=λd S k=>match d with
 | .int i=>k (.int (-i)) S
 | _=>False
theorem lM:Ll X (unaryOp .USub) (NU X.K OF):=by
 intro pins s σ H x v Q I rx h;obtain⟨d,S,k,i1,hS,r,n⟩:=h;cases d with
 | int i=>
  have e1:=isInt.mp i1;subst e1;exact KD pins s σ H _ v Q I rx ⟨i,rfl,og n hS r (isInt.mpr rfl)⟩
 | _=>exact(show False from r).elim
def zE:D2:=λd e S k=>match d,e with
 | .tup ds,.int i=>(match atI ds i with
  | some c=>k c S
  | none=>False)
 | .rl ds,.int i=>(match atI ds i with
  | some c=>k c S
  | none=>False)
 | .ref a,.int i=>(match S a with
  | some (.lst ds)=>(match atI ds i with
   | some c=>k c S
   | none=>False)
  | _=>False)
 | _,_=>False
theorem IsDs.atI {K:Fg} {H:Hp} {ds:List D} {vs:List V} {i:Int} {d:D} (r:IsDs K H ds vs) (h:atI ds i=some d):∃ v,L2.atI vs i=some v/\bV K H d v:=by
 unfold L2.atI at h ⊢;rw [<- r.length];cases q:FF ds.length i with
 | none=>rw [q] at h; cases h
 | some j=>
  rw [q] at h;exact r.get h
theorem N4:Ba X (jL X.K zE):=by
 intro value slice pins s σ H x y v u Q I rx ry h hs;obtain⟨d,e,S,k,i1,i2,hS,r,n⟩:=h;cases e with
 | int i=>
  have e2:=isInt.mp i2;subst e2;cases d with
  | tup ds=>
   obtain⟨a,vs,rfl,t,j⟩:=cy.mp i1;cases q:atI ds i with
   | none=>simp only [zE,q] at r
   | some c=>
    simp only [zE,q] at r;obtain⟨w,e1,e2⟩:=j.atI q;exact Kh value slice pins s σ H _ _ v u Q I rx ry ⟨a,vs,i,w,rfl,rfl,t,e1,og n hS r e2⟩ hs
  | rl ds=>
   obtain⟨a,vs,rfl,t,j⟩:=xN.mp i1;cases q:atI ds i with
   | none=>simp only [zE,q] at r
   | some c=>
    simp only [zE,q] at r;obtain⟨w,e1,e2⟩:=j.atI q;exact Az value slice pins s σ H _ _ v u Q I rx ry ⟨a,vs,i,w,rfl,rfl,t.sq,e1,og n hS r e2⟩ hs
  | ref a=>
   have e1:=aX.mp i1;subst e1;cases z:S a with
   | none=>simp only [zE,z] at r
   | some o=>
    cases o with
    | dic=>simp only [zE,z] at r
    | exc _=>simp only [zE,z] at r
    | fn _=>simp only [zE,z] at r
    | tbl _=>simp only [zE,z] at r
    | gen _=>simp only [zE,z] at r
    | lst ds=>
     obtain⟨vs,hl,j⟩:=hS.lst z;cases q:atI ds i with
     | none=>simp only [zE,z,q] at r
     | some c=>
      simp only [zE,z,q] at r;obtain⟨w,e1,e2⟩:=j.atI q;exact Az value slice pins s σ H _ _ v u Q I rx ry ⟨a,vs,i,w,rfl,rfl,jD.of hl,e1,og n hS r e2⟩ hs
  | _=>exact(show False from r).elim
 | _=>
  cases d <;> exact(show False from r).elim
end
abbrev bC:=List D->DH->DK->Prop
def wL (K:Fg) (r:bC):List V->Hp->VK->Prop:=λxs H Q=>∃ ds S k,IsDs K H ds xs/\Hs K H S/\r ds S k/\∀ d' S' v H',k d' S'->Kp H H'->Hs K H' S'->bV K H' d' v->Q v H'
def nN (r:bC) (t:DA):DE:=λL S k=>t L S λds S1=>r ds S1 k
section
variable {X:Cx} {x:Str} {p pos:Pos} {e:Expr} {es:List Expr} {t:DA} {id T:String} {r:bC}
theorem xB {K:Fg}:∀ σ H Q,up K (nN r t) σ H Q->NP (wL K r) (qB K t) σ H Q:=fun σ H Q ⟨L,S,k,hL,hS,h,n⟩=>
 qB.go hL hS h λds S1 vs H1 h1 k1 hL1 hS1 i1=>⟨ds,S1,k,i1,hS1,h1,λd' S' v H' q k3 z1 z2=>n d' S' v H' q (k1.trans k3) z1 z2⟩
theorem HU (hc:c_ X (.builtin id) (wL X.K r)) (hg:Gl X x) (hm:X.mg x=none) (hv:bootBuiltins x=some (.builtin id)) (ha:PA X (e::es) (qB X.K t)) (hn:x≠"__name__":=by decide) (hdb:(x == ("__debug__":Str))=false:=by decide)
  (he:starEach (e::es) X.env=(false,eval e X.env)::starEach es X.env:=by exact bN rfl) (hpl:(backTo pos (starEach es X.env)).any (·.1)=false:=by exact dz rfl):PE X (.Call (.Name x p) (e::es) [] pos) (up X.K (nN r t)):=
 PE.imp (xV hc hg hm hv ha hn hdb he hpl) xB
theorem GL (hc:c_ X (.type T) (wL X.K r)) (hg:Gl X x) (hm:X.mg x=none) (hv:bootBuiltins x=some (.type T)) (ha:PA X (e::es) (qB X.K t)) (hn:x≠"__name__":=by decide) (hdb:(x == ("__debug__":Str))=false:=by decide)
  (he:starEach (e::es) X.env=(false,eval e X.env)::starEach es X.env:=by exact bN rfl) (hpl:(backTo pos (starEach es X.env)).any (·.1)=false:=by exact dz rfl):PE X (.Call (.Name x p) (e::es) [] pos) (up X.K (nN r t)):=
 PE.imp (pH hc hg hm hv ha hn hdb he hpl) xB
def cg (K:Fg) (F:bC):Sp:=λvs H Q _=>wL K F vs H Q
structure aE (P:Program) (w:World) (K:Fg) (mg:Str->Option Value) (base:Heap) (x:Str) (n:Nat) (F:bC):Prop where
 ex:∃ f fd ps,aI P w K mg base ca n f fd ps (cg K F)/\mg x=some (.ref f)/\PySem.W.keepIn K (.ref f)=true/\nP K fd ps []
theorem Kd {n:Nat} {F:bC} (c:aE X.prog X.w X.K X.mg X.base x n F) (hr:ce n X.A) (hg:Gl X x) (ha:PA X (e::es) (qB X.K t)) (hdb:(x == ("__debug__":Str))=false:=by decide)
  (he:starEach (e::es) X.env=(false,eval e X.env)::starEach es X.env:=by exact bN rfl) (hpl:(backTo pos (starEach es X.env)).any (·.1)=false:=by exact dz rfl):
  PE X (.Call (.Name x p) (e::es) [] pos) (up X.K (nN F t)):=by
 obtain⟨f,fd,ps,F1,h1,h2,h3⟩:=c.ex;refine PE.imp (z_ F1 hr hg h1 h2 h3 .nil Nr ha hdb he hpl) fun σ H Q ⟨L,S,k,hL,hS,h,n⟩=>?_
 refine qB.go hL hS h λds S1 vs H1 h1 k1 hL1 hS1 i1=>?_
 show cg X.K F (vs++[]) H1 Q E0
 rw [Qn];exact⟨ds,S1,k,i1,hS1,h1,λd' S' v H' q k3 z1 z2=>n d' S' v H' q (k1.trans k3) z1 z2⟩
def LG:bC:=λds S k=>match ds with
 | [.int i]=>k (.int (if i < 0 then -i else i)) S
 | _=>False
theorem k_ {K:Fg} {H:Hp} {d:D} {xs:List V} (h:IsDs K H [d] xs):∃ x,xs=[x]/\bV K H d x:=by
 obtain⟨v,r,rfl,h1,h2⟩:=c8.mp h;rw [j'.mp h2];exact⟨v,rfl,h1⟩
theorem uP {K:Fg} {H:Hp} {d e:D} {xs:List V} (h:IsDs K H [d,e] xs):∃ x y,xs=[x,y]/\bV K H d x/\bV K H e y:=by
 obtain⟨v,r,rfl,h1,h2⟩:=c8.mp h;obtain⟨y,rfl,h3⟩:=k_ h2;exact⟨v,y,rfl,h1,h3⟩
theorem AY:c_ X (.builtin "abs") (wL X.K LG):=by
 intro pins s σ H xs us Q I rs h;obtain⟨ds,S,k,i,hS,r,n⟩:=h;unfold LG at r
 split at r
 ·obtain⟨x,rfl,i1⟩:=k_ i;have e1:=isInt.mp i1;subst e1;exact Ee pins s σ H _ us Q I rs ⟨_,rfl,og n hS r (isInt.mpr rfl)⟩
 ·exact r.elim
def JS:bC:=λds S k=>match ds with
 | [.tup xs]=>k (.int xs.length) S
 | [.rl xs]=>k (.int xs.length) S
 | [.ref a]=>(match S a with
  | some (.lst xs)=>k (.int xs.length) S
  | _=>False)
 | _=>False
theorem Nq:c_ X (.builtin "len") (wL X.K JS):=by
 intro pins s σ H xs us Q I rs h;obtain⟨ds,S,k,i,hS,r,n⟩:=h;unfold JS at r
 split at r
 ·obtain⟨x,rfl,i1⟩:=k_ i;obtain⟨a,vs,rfl,t,j⟩:=cy.mp i1;exact kg pins s σ H _ us Q I rs ⟨a,vs,rfl,.inr t,by rw [<- j.length]; exact og n hS r (isInt.mpr rfl)⟩
 ·obtain⟨x,rfl,i1⟩:=k_ i;obtain⟨a,vs,rfl,t,j⟩:=xN.mp i1;exact kg pins s σ H _ us Q I rs ⟨a,vs,rfl,.inl t.sq,by rw [<- j.length]; exact og n hS r (isInt.mpr rfl)⟩
 ·obtain⟨x,rfl,i1⟩:=k_ i;have e1:=aX.mp i1;subst e1
  split at r
  ·rename_i z
   obtain⟨vs,hl,j⟩:=hS.lst z;exact kg pins s σ H _ us Q I rs ⟨_,vs,rfl,.inl (jD.of hl),by rw [<- j.length]; exact og n hS r (isInt.mpr rfl)⟩
  ·exact r.elim
 ·exact r.elim
def Kn:bC:=λds S k=>match ds with
 | [.int i,.int j]=>k (.int (if j > i then j else i)) S
 | _=>False
def LD:bC:=λds S k=>match ds with
 | [.int i,.int j]=>k (.int (if j < i then j else i)) S
 | _=>False
theorem Ii (hc:X.calm=true:=by rfl):c_ X (.builtin "max") (wL X.K Kn):=by
 intro pins s σ H xs us Q I rs h;obtain⟨ds,S,k,i,hS,r,n⟩:=h;unfold Kn at r
 split at r
 ·obtain⟨x,y,rfl,i1,i2⟩:=uP i;have e1:=isInt.mp i1;have e2:=isInt.mp i2;subst e1; subst e2
  exact Cy hc pins s σ H _ us Q I rs ⟨_,_,rfl,og n hS r (isInt.mpr rfl)⟩
 ·exact r.elim
theorem M7 (hc:X.calm=true:=by rfl):c_ X (.builtin "min") (wL X.K LD):=by
 intro pins s σ H xs us Q I rs h;obtain⟨ds,S,k,i,hS,r,n⟩:=h;unfold LD at r
 split at r
 ·obtain⟨x,y,rfl,i1,i2⟩:=uP i;have e1:=isInt.mp i1;have e2:=isInt.mp i2;subst e1; subst e2
  exact B' hc pins s σ H _ us Q I rs ⟨_,_,rfl,og n hS r (isInt.mpr rfl)⟩
 ·exact r.elim
def Ig:D1:=λd S k=>match d with
 | .int i=>k (.int ((Builtin.Int.intBits i:Nat):Int)) S
 | _=>False
theorem Jr {o:Expr} {g:DE} {apos cpos:Pos} (ho:PE X o (up X.K g)) (hbase:attributeBase o "bit_length" X.env (eval o X.env)=eval o X.env:=by rfl) (hline:(apos.endLine == cpos.line)=true:=by rfl):
  PE X (.Call (.Attribute o "bit_length" apos) [] [] cpos) (up X.K (NB Ig g)):=by
 refine PE.imp (Jm PySem.F.plainAttrs_int PySem.F.slot_int_bit_length PySem.F.type_int_bit_length (r:=λx xs H Q=>∃ i,x=.int i/\xs=[]/\Q (.int ((Builtin.Int.intBits i:Nat):Int)) H) ?_ ho hbase hline) fun σ H Q ⟨L,S,k,hL,hS,h,n⟩=>?_
 ·intro pins s σ H x xs v us Q I rx rs h;obtain⟨i,rfl,rfl,q⟩:=h;obtain⟨t,rfl⟩:=rx;cases rs;exact call_int_bit_length ⟨.int _,H,I.tok _,⟨_,rfl⟩,q⟩
 ·refine up.go hL hS h λd S1 v H1 h1 k1 hL1 hS1 i1=>?_
  cases d with
  | int i=>
   have e1:=isInt.mp i1;subst e1;exact⟨rfl,i,rfl,rfl,n _ S1 _ H1 h1 k1 hS1 (isInt.mpr rfl)⟩
  | _=>exact(show False from h1).elim
def xa (xs:List D) (lo hi:Option Int):List D:=(xs.drop (HT.dL xs.length 0 lo)).take (HT.dL xs.length xs.length hi - HT.dL xs.length 0 lo)
abbrev Lm:=Lo->DH->(Option Int->DH->Prop)->Prop
def OQ (K:Fg) (g:Lm):TO:=fun σ H Q=>∃ L S k,Lc K H L σ/\Hs K H S/\g L S k/\∀ i S' H',k i S'->Kp H H'->Hs K H' S'->Q i H'
def IG:Lm:=λ_ S k=>k none S
def ID (g:DE):Lm:=λL S k=>g L S λd S1=>match d with
 | .int i=>k (some i) S1
 | _=>False
theorem Hd:PO X none (OQ X.K IG):=by
 intro pins s σ H Q I h;obtain⟨L,S,k,hL,hS,h,n⟩:=h;exact H9 pins s σ H Q I (n none S H h (Kp.refl H) hS)
theorem GF {e:Expr} {g:DE} (he:PE X e (up X.K g)):PO X (some e) (OQ X.K (ID g)):=by
 intro pins s σ H Q I h;obtain⟨L,S,k,hL,hS,h,n⟩:=h;refine G7 he pins s σ H Q I (up.go hL hS h λd S1 v H1 h1 k1 hL1 hS1 i1=>?_)
 cases d with
 | int i=>
  have e1:=isInt.mp i1;subst e1;exact⟨i,rfl,n (some i) S1 H1 h1 k1 hS1⟩
 | _=>exact(show False from h1).elim
end
section
variable {X:Cx} {st:Stmt} {aw:List Stmt} {g h:DS} {e:Expr} {ge:DE} {pos:Pos}
def Im:DS:=λM L S=>M.nx L S
def zB (g h:DS):DS:=λM L S=>g {M with nx:=h M} L S
theorem KZ:oA X [] (o_ X.K Im):=oA.imp Gb λN σ H ⟨L,S,M,hL,hS,h,r⟩=>r.nx L S σ H h (Kp.refl H) hL hS
theorem F0 {K:Fg}:∀ N σ H,o_ K (zB g h) N σ H->MA (o_ K g) (o_ K h) N σ H:=λN σ H ⟨L,S,M,hL,hS,q,r⟩=>
 ⟨L,S,{M with nx:=h M},hL,hS,q,⟨λL' S' σ' H' q' k' hL' hS'=>⟨L',S',M,hL',hS',q',r.kp k'⟩,r.rt,r.bk,r.ct⟩⟩
theorem Ga (h1:PS X st (o_ X.K g)) (h2:oA X aw (o_ X.K h)):oA X (st::aw) (o_ X.K (zB g h)):=oA.imp (FL h1 h2) F0
theorem KL (h1:PS X st (o_ X.K g)):oA X [st] (o_ X.K g):=GS h1
def IB (ge:DE):DS:=λM L S=>ge L S λ_ S1=>M.nx L S1
theorem EZ (he:PE X e (up X.K ge)) (hs:swapsWith e none pos.line X.env=pure false:=by rfl):PS X (.Expr e pos) (o_ X.K (IB ge)):=
 PS.imp (HA he hs) λN σ H ⟨L,S,M,hL,hS,h,r⟩=>up.go hL hS h λd S1 v H1 h1 k1 hL1 hS1 _=>r.nx L S1 σ H1 h1 k1 hL1 hS1
def Jt (ge:DE):DS:=λM L S=>ge L S M.rt
theorem Hu (he:PE X e (up X.K ge)):PS X (.Return (some e) pos) (o_ X.K (Jt ge)):=
 PS.imp (JK he) λN σ H ⟨L,S,M,hL,hS,h,r⟩=>up.go hL hS h λd S1 v H1 h1 k1 _ hS1 i1=>r.rt d S1 v H1 h1 k1 hS1 i1
def BS (c:DT) (g h:DS):DS:=λM L S=>c L S λb S1=>if b=true then g M L S1 else h M L S1
theorem Jl {c:Expr} {a b:List Stmt} {gc:DT} (hc:PT X c (ml X.K gc)) (ha:oA X a (o_ X.K g)) (hb:oA X b (o_ X.K h)):PS X (.If c a b pos) (o_ X.K (BS gc g h)):=
 PS.imp (Ml hc ha hb) λN σ H ⟨L,S,M,hL,hS,q,r⟩=>ml.go hL hS q λt S1 H1 h1 k1 hL1 hS1=>by
  cases t with
  | true=>
   rw [if_pos rfl] at h1 ⊢;exact⟨L,S1,M,hL1,hS1,h1,r.kp k1⟩
  | false=>
   rw [if_neg P6] at h1 ⊢;exact⟨L,S1,M,hL1,hS1,h1,r.kp k1⟩
def Em:DS:=λ_ _ _=>False
theorem BN:PS X st (o_ X.K Em):=PS.imp DF λN σ H ⟨L,S,M,hL,hS,h,r⟩=>h.elim
def EO (i:Nat) (ge:DE):DS:=λM L S=>ge L S λd S1=>M.nx (L.set i (some d)) S1
theorem HS {i:Nat} {x:Str} {pos':Pos} (hN:X.N.Nodup) (he:PE X e (up X.K ge)) (hi:X.N[i]?=some x:=by rfl) (hx:FY X.env.scope x:=by first | exact Or.inl rfl | exact Or.inr rfl) (hs:swapsWith e (some (.Name x pos')) pos.line X.env=pure false:=by rfl)
  (hf:X.fn x=true\/X.env.scope.names.lookup x=some .local:=by first | exact .inl rfl | exact .inr rfl | assumption):PS X (.Assign [.Name x pos'] e pos) (o_ X.K (EO i ge)):=
 PS.imp (K7 hN hi hx he hs hf) λN σ H ⟨L,S,M,hL,hS,h,r⟩=>up.go hL hS h λd S1 v H1 h1 k1 hL1 hS1 i1=>r.nx _ S1 _ H1 h1 k1 (hL1.set i1 i) hS1
def LR (i j:Nat) (ta:DA):DS:=λM L S=>ta L S λds S1=>match ds with
 | [d,e]=>M.nx ((L.set i (some d)).set j (some e)) S1
 | _=>False
theorem GD {i j:Nat} {x y:Str} {a b:Expr} {ta:DA} {px py pt:Pos} {kt k2 pt2} (hc:X.calm=true) (hN:X.N.Nodup) (hij:i≠j) (ha:PA X [a,b] (qB X.K ta)) (hi:X.N[i]?=some x:=by rfl) (hj:X.N[j]?=some y:=by rfl)
  (hx:X.env.scope.names.lookup x=some .local:=by rfl) (hy:X.env.scope.names.lookup y=some .local:=by rfl)
  (hw:swappedStores [.Tuple [.Name x px,.Name y py] kt pt] (.Tuple [a,b] k2 pt2) X.env=pure (some [x,y]):=by rfl)
  (hs:swapsWithSole [.Tuple [.Name x px,.Name y py] kt pt] (.Tuple [a,b] k2 pt2) pos.line X.env=pure false:=by rfl):
  PS X (.Assign [.Tuple [.Name x px,.Name y py] kt pt] (.Tuple [a,b] k2 pt2) pos) (o_ X.K (LR i j ta)):=
 PS.imp (Ja hc hN hi hj hij hx hy ha hw hs) λN σ H ⟨L,S,M,hL,hS,h,r⟩=>qB.go hL hS h λds S1 vs H1 h1 k1 hL1 hS1 i1=>by
  split at h1
  ·obtain⟨v,u,rfl,j1,j2⟩:=uP i1;exact⟨v,u,rfl,r.nx _ S1 _ H1 h1 k1 ((hL1.set j1 i).set j2 j) hS1⟩
  ·exact h1.elim
abbrev DG:=D->Lo->DH->(Lo->DH->Prop)->Prop
def A_ (K:Fg) (g:DG):TG:=λv σ H Q=>∃ d L S k,bV K H d v/\Lc K H L σ/\Hs K H S/\g d L S k/\∀ L' S' σ' H',k L' S'->Kp H H'->Lc K H' L' σ'->Hs K H' S'->Q σ' H'
theorem PG.imp {e:Expr} {t t':TG} (h:PG X e t) (i:∀ v σ H Q,t' v σ H Q->t v σ H Q):PG X e t':=λpins s σ H v u Q I rv q=>h pins s σ H v u Q I rv (i v σ H Q q)
def mf (i:Nat):DG:=λd L S k=>k (L.set i (some d)) S
theorem HB {i:Nat} {x:Str} (hN:X.N.Nodup) (hi:X.N[i]?=some x:=by rfl) (hx:FY X.env.scope x:=by first | exact Or.inl rfl | exact Or.inr rfl) (hf:X.fn x=true\/X.env.scope.names.lookup x=some .local:=by first | exact .inl rfl | exact .inr rfl | assumption):PG X (.Name x pos) (A_ X.K (mf i)):=
 PG.imp (Ax hN hi hx hf) λv σ H Q ⟨d,L,S,k,i1,hL,hS,h,n⟩=>n _ S _ H h (Kp.refl H) (hL.set i1 i) hS
abbrev FQ:=List D->Lo->DH->(Lo->DH->Prop)->Prop
def Go (K:Fg) (g:FQ):D':=λv σ H Q=>∃ d L S k,IsDs K H d v/\Lc K H L σ/\Hs K H S/\g d L S k/\∀ L' S' σ' H',k L' S'->Kp H H'->Lc K H' L' σ'->Hs K H' S'->Q σ' H'
theorem Ay.imp {e:List Expr} {t t':D'} (h:Ay X e t) (i:∀ v σ H Q,t' v σ H Q->t v σ H Q):Ay X e t':=λpins s σ H v u Q I rv q=>h pins s σ H v u Q I rv (i v σ H Q q)
def FU:FQ:=λds L S k=>ds=[]/\k L S
def wx (t:DG) (u:FQ):FQ:=λds L S k=>match ds with
 | d::r=>t d L S λL1 S1=>u r L1 S1 k
 | []=>False
theorem GA:Ay X [] (Go X.K FU):=Ay.imp Hr λv σ H Q ⟨d,L,S,k,i1,hL,hS,h,n⟩=>by
 obtain⟨rfl,h⟩:=h;exact⟨j'.mp i1,n L S σ H h (Kp.refl H) hL hS⟩
theorem ES {es:List Expr} {t:DG} {u:FQ} (h1:PG X e (A_ X.K t)) (h2:Ay X es (Go X.K u)) (hs:(assignEach (e::es) X.env).map (·.2)=assign e X.env::(assignEach es X.env).map (·.2):=by rfl):Ay X (e::es) (Go X.K (wx t u)):=
 Ay.imp (D5 h1 h2 hs) λvs σ H Q ⟨ds,L,S,k,i1,hL,hS,h,n⟩=>by
  cases ds with
  | nil=>exact(show False from h).elim
  | cons d r=>
   obtain⟨v,vr,rfl,j1,j2⟩:=c8.mp i1;exact⟨v,vr,rfl,d,L,S,_,j1,hL,hS,h,λL1 S1 σ1 H1 q k1 hL1 hS1=>⟨r,L1,S1,k,j2.kp k1,hL1,hS1,q,λL' S' σ' H' q' k'=>n L' S' σ' H' q' (k1.trans k')⟩⟩
def Le (ge:DE) (g:DG):DS:=λM L S=>ge L S λd S1=>g d L S1 M.nx
theorem Gc {tg e:Expr} {g:DG} (he:PE X e (up X.K ge)) (hg:PG X tg (A_ X.K g)) (hs:swapsWithSole [tg] e pos.line X.env=pure false:=by rfl) (hw:swappedStores [tg] e X.env=pure none:=by rfl)
  (h1:(assignEach [tg] X.env).map (·.2)=[assign tg X.env]:=by rfl):PS X (.Assign [tg] e pos) (o_ X.K (Le ge g)):=
 PS.imp (K3 he hg hs hw h1) λN σ H ⟨L,S,M,hL,hS,h,r⟩=>up.go hL hS h λd S1 v H1 h1 k1 hL1 hS1 i1=>
  ⟨d,L,S1,M.nx,i1,hL1,hS1,h1,λL' S' σ' H' q k' hL' hS'=>r.nx L' S' σ' H' q (k1.trans k') hL' hS'⟩
def Dh (c:DT) (b:DS):DS:=λM L S=>∃ W:Nat->Lo->DH->Prop,(∃ m,W m L S)/\∀ m L S,W m L S->
 c L S λt S1=>if t=true then ∃ N:Lo->DH->Prop,(∀ L' S',N L' S'->∃ m',m' < m/\W m' L' S')/\b {M with nx:=N,ct:=N,bk:=M.nx} L S1 else M.nx L S1
theorem Bj {c:Expr} {body:List Stmt} {gc:DT} (hp:PassesOwn (model X.prog X.w) X.A X.env X.xe) (hc:PT X c (ml X.K gc)) (hb:oA X body (o_ X.K g)):PS X (.While c body [] pos) (o_ X.K (Dh gc g)):=
 PS.imp (Fk hp hc hb) λN σ H ⟨L,S,M,hL,hS,⟨W,⟨m0,w0⟩,turn⟩,r⟩=>by
  refine⟨λm σ H1=>∃ L S,Lc X.K H1 L σ/\Hs X.K H1 S/\W m L S/\Kp H H1,⟨m0,L,S,hL,hS,w0,Kp.refl H⟩,?_⟩
  rintro m σ1 H1 ⟨L1,S1,hL1,hS1,w1,k1⟩;refine ml.go hL1 hS1 (turn m L1 S1 w1) λt S2 H2 h2 k2 hL2 hS2=>?_
  cases t with
  | true=>
   rw [if_pos rfl] at h2 ⊢;obtain⟨N',hN,hb⟩:=h2;refine⟨fun σ' H'=>∃ L' S',Lc X.K H' L' σ'/\Hs X.K H' S'/\N' L' S'/\Kp H H',?_,L1,S2,_,hL2,hS2,hb,?_⟩
   ·rintro σ' H' ⟨L',S',hL',hS',n',k'⟩;obtain⟨m',hm,w'⟩:=hN L' S' n';exact⟨m',hm,L',S',hL',hS',w',k'⟩
   ·have r2:=r.kp (k1.trans k2);exact⟨λL' S' σ' H' n' k' hL' hS'=>⟨L',S',hL',hS',n',(k1.trans k2).trans k'⟩,r2.rt,r2.nx,λL' S' σ' H' n' k' hL' hS'=>⟨L',S',hL',hS',n',(k1.trans k2).trans k'⟩⟩
  | false=>
   rw [if_neg P6] at h2 ⊢;exact(r.kp (k1.trans k2)).nx L1 S2 σ1 H2 h2 (Kp.refl H2) hL2 hS2
def ja (ok:DH->Prop) (g:DG) (b:DS) (M:nH):List D->Lo->DH->Prop
 | [],L,S=>ok S/\M.nx L S
 | d::r,L,S=>ok S/\g d L S λL1 S1=>b {M with nx:=λL2 S2=>ja ok g b M r L2 S2,ct:=λL2 S2=>ja ok g b M r L2 S2,bk:=M.nx} L1 S1
theorem rM {K:Fg} {ok:DH->Prop} {gg:DG} {b:DS} {M:nH} {ds:List D} {L:Lo} {S:DH} {N:qR} {σ:L2.St} {H:Hp} {J:It} (hL:Lc K H L σ) (hS:Hs K H S) (h:ja ok gg b M ds L S) (r:Lr K H M N)
  (hgo:∀ i d S1 H1,ds[i]?=some d->Kp H H1->Hs K H1 S1->ok S1->J.go i H1/\∀ x H',J.yld i H1 x H'->H'=H1/\bV K H1 d x)
  (hst:∀ S1 H1,Kp H H1->Hs K H1 S1->ok S1->J.stop ds.length H1):
  ∃ W:Nat->Nat->L2.St->Hp->Prop,(∃ m,W 0 m σ H)/\∀ i m σ H,W i m σ H->
   (J.stop i H/\N.nx σ H)\/(J.go i H/\∃ N':L2.St->Hp->Prop,(∀ σ' H',N' σ' H'->∃ m',m' < m/\W (i+1) m' σ' H')/\∀ x H',J.yld i H x H'->A_ K gg x σ H' fun σ2 H2=>o_ K b {N with nx:=N',ct:=N',bk:=N.nx} σ2 H2):=by
 refine⟨λi m σ1 H1=>m=ds.length - i/\i<=ds.length/\∃ L1 S1,Lc K H1 L1 σ1/\Hs K H1 S1/\Kp H H1/\ja ok gg b M (ds.drop i) L1 S1,⟨ds.length,by simp,QW _,L,S,hL,hS,Kp.refl H,h⟩,?_⟩
 rintro i m σ1 H1 ⟨rfl,hi,L1,S1,hL1,hS1,k1,w1⟩
 by_cases hlt:i < ds.length
 ·have e:ds.drop i=ds[i]::ds.drop (i+1):=QS hlt;rw [e] at w1;obtain⟨o1,w1⟩:=w1;obtain⟨g1,y1⟩:=hgo i ds[i] S1 H1 (by simp [hlt]) k1 hS1 o1
  refine .inr ⟨g1,fun σ' H'=>i+1<=ds.length/\∃ L' S',Lc K H' L' σ'/\Hs K H' S'/\Kp H H'/\ja ok gg b M (ds.drop (i+1)) L' S',fun σ' H' ⟨q1,q2⟩=>⟨ds.length - (i+1),by omega,rfl,q1,q2⟩,λx H' y=>?_⟩
  obtain⟨rfl,ix⟩:=y1 x H' y;refine⟨ds[i],L1,S1,_,ix,hL1,hS1,w1,λL2 S2 σ2 H2 q k2 hL2 hS2=>⟨L2,S2,_,hL2,hS2,q,?_⟩⟩
  have r2:=r.kp (k1.trans k2);exact⟨λL3 S3 σ3 H3 q3 k3 hL3 hS3=>⟨hlt,L3,S3,hL3,hS3,(k1.trans k2).trans k3,q3⟩,r2.rt,r2.nx,λL3 S3 σ3 H3 q3 k3 hL3 hS3=>⟨hlt,L3,S3,hL3,hS3,(k1.trans k2).trans k3,q3⟩⟩
 ·have e:i=ds.length:=by omega
  subst e;rw [List.drop_length] at w1;obtain⟨o1,w1⟩:=w1;exact .inl ⟨hst S1 H1 k1 hS1 o1,r.nx L1 S1 σ1 H1 w1 k1 hL1 hS1⟩
def bj (S:DH):D->Option (List D×Option Addr)
 | .tup ds=>some (ds,none)
 | .rl ds=>some (ds,none)
 | .ref a=>(match S a with
  | some (.lst ds)=>some (ds,some a)
  | _=>none)
 | _=>none
def ir:List D×Option Addr->DH->Prop
 | (_,none)=>λ_=>True
 | (ds,some a)=>λS=>S a=some (.lst ds)
theorem PI.imp {tg e:Expr} {w w':TI} (h:PI X tg e w) (i:∀ σ H R,w' σ H R->w σ H R):PI X tg e w':=λpins s σ H R I q=>h pins s σ H R I (i σ H R q)
def NN (K:Fg) (t:TE):TI:=fun σ H R=>t σ H λx H1=>∃ a,x=.ref a/\(((∃ xs,jD K H1 a xs)/\R (L8 K a) H1)\/((∃ xs,m9 K H1 a xs)/\R (LL K a) H1))
theorem zd {tg l:Expr} {tl:TE} (hl:PE X l tl):PI X tg l (NN X.K tl):=by
 intro pins s σ H R I h;refine b9 (hl pins s σ H _ I h) λv s1 ⟨x,H1,I1,r1,q1⟩=>?_
 obtain⟨a,e,q1⟩:=q1;subst e;cases r1;rcases q1 with ⟨⟨xs,hq⟩,q⟩ | ⟨⟨xs,hq⟩,q⟩
 ·obtain⟨its,rv,p,hz⟩:=I1.list hq;refine wpAny_pyIter_list p.isList ?_;refine⟨s1.heap.objs.size,[s1.heap.objs.size],_,_,H1,rfl,I1.kept (t':=s1.toks) λb o e=>pp _ e,BG a _,⟨_,P0 _ rfl,rfl,rfl⟩,λb hb=>?_,q⟩
  have e:b=s1.heap.objs.size:=by simpa using hb
  subst e;exact I1.fpOk (P3 _) (I1.hok.fresh (P3 _))
 ·obtain⟨its,rv,p,hz⟩:=I1.tuple hq;refine wpAny_pyIter_tuple (show s1.heap.IsTuple a its.toArray from p) ?_
  refine⟨s1.heap.objs.size,[s1.heap.objs.size],_,_,H1,rfl,I1.kept (t':=s1.toks) λb o e=>pp _ e,zC a _,⟨_,P0 _ rfl,rfl,rfl⟩,λb hb=>?_,q⟩
  have e:b=s1.heap.objs.size:=by simpa using hb
  subst e;exact I1.fpOk (P3 _) (I1.hok.fresh (P3 _))
def Iq (ta:DA) (g:DG) (b:DS):DS:=λM L S=>ta L S λds S1=>match ds with
 | [.int n]=>(-(2 ^ 62)<=n/\n < 2 ^ 62)/\ja (λ_=>True) g b M ((List.range n.toNat).map λi=>D.int (i:Nat)) L S1
 | _=>False
theorem DW {tg a:Expr} {body:List Stmt} {ta:DA} {gg:DG} {p pos':Pos} (hp:PassesOwn (model X.prog X.w) X.A X.env X.xe) (hc:X.calm=true) (hgl:Gl X "range") (hm:X.mg "range"=none) (ha:PA X [a] (qB X.K ta)) (hg:PG X tg (A_ X.K gg)) (hb:oA X body (o_ X.K g))
  (hs1:starEach [a] X.env=[(false,eval a X.env)]:=by rfl) (hs:∀ x,foldedSetIterable (.Call (.Name "range" p) [a] [] pos') X.env x=pure x:=by intro _; rfl):PS X (.For tg (.Call (.Name "range" p) [a] [] pos') body [] pos) (o_ X.K (Iq ta gg g)):=
 PS.imp (vD hp hc (u_ hgl hm ha hs1) hg hb hs) λN σ H ⟨L,S,M,hL,hS,h,r⟩=>qB.go hL hS h λds S1 vs H1 h1 k1 hL1 hS1 i1=>by
  split at h1
  ·obtain⟨v,rfl,j⟩:=k_ i1;have e:=isInt.mp j;subst e;obtain⟨⟨h2,h3⟩,h1⟩:=h1;refine⟨_,rfl,h2,h3,rM hL1 hS1 h1 (r.kp k1) (λi d S2 H2 e k2 hS2 _=>?_) λS2 H2 k2 hS2 _=>?_⟩
   ·rw [Qt] at e;cases q:(List.range (Int.toNat _))[i]? with
    | none=>rw [q] at e; cases e
    | some z=>
     rw [q] at e;cases e;have hz:=QD.mp q;obtain⟨hz1,hz2⟩:=hz;rw [List.length_range] at hz1;rw [List.getElem_range] at hz2;subst hz2;exact⟨hz1,λx H' y=>⟨y.1,by rw [y.2]; exact isInt.mpr (by rw [Int.zero_add])⟩⟩
   ·rw [P5,List.length_range];exact P3 _
  ·exact h1.elim
end
section
variable {P:Program} {w:World} {K:Fg} {mg:Str->Option Value} {base:Heap}
theorem _root_.L2.bL.okD {x qual:Str} {st:Stmt} {f:Addr} {fd:FuncData} {N ps:List Str} {k:Nat} {F:bC} (Fn:bL K x qual st f fd) (Sc:ao N ps (am st)) (len:∀ ds S k,F ds S k->ds.length=ps.length)
  (hbody:∀ (cdv:Value) (A:Around) (outer:List Env) (s:Shared) (H:Hp) (E:XK),ce k (A.deeper (envOfC qual (am st) s.heap.objs.size f cdv))->
   ∃ g,oA (fu ca P w K mg base N qual (am st) f cdv A outer s H E).nox (fS st) (o_ K g)/\
    ∀ ds S k,F ds S k->g {nx:=λ_ S'=>k .non S',rt:=k} (ds.map some++List.replicate (N.length - ps.length) none) S):aI P w K mg base ca (k+1) f fd ps (cg K F):=by
 refine Fn.ok Sc (λvs H Q E h=>?_) (λcdv A outer s H vs Q E hr h=>?_)
 ·obtain⟨ds,S,k,i,_,q,_⟩:=h;rw [<- i.length];exact len ds S k q
 ·obtain⟨g,hg,q⟩:=hbody cdv A outer s H E hr;obtain⟨ds,S,k',i,hS,h,n⟩:=h;refine⟨_,hg,ds.map some++List.replicate (N.length - ps.length) none,S,_,?_,hS,q ds S k' h,?_⟩
  ·unfold L2.start;rw [<- i.length,len ds S k' h];exact Lc.start _ i
  ·exact⟨λL S' σ H' h1 k1 _ hS'=>n _ S' _ H' h1 k1 hS' (cW.mpr rfl),λd S' v H' h1 k1 hS' i1=>n d S' v H' h1 k1 hS' i1,λ_ _ _ _ h1=>h1.elim,λ_ _ _ _ h1=>h1.elim⟩
theorem aE.mk' {x qual:Str} {st:Stmt} {f:Addr} {fd:FuncData} {ps:List Str} {n:Nat} {F:bC} (Fn:bL K x qual st f fd) (h:aI P w K mg base ca n f fd ps (cg K F)) (hm:mg x=some (.ref f)) (hb:nP K fd ps []):aE P w K mg base x n F:=
 ⟨f,fd,ps,h,hm,Fn.kp,hb⟩
end
end DL
namespace DL
open PySem PySem.Spec PyProof.Rows L2 HM
theorem dy {m n:Nat} {x y:Int} (hx:Bt m x) (hy:Bt n y) (h:m+n<=134217728:=by decide):IntMulOk x y:=IntMulOk.of_le (intBits_le_iff.mpr hx) (intBits_le_iff.mpr hy) h
theorem y4 {m:Nat} {y:Int} (h0:y≠0) (hy:Bt m y) (h:m<=9000:=by decide):Al x y:=⟨h0,(Nat.log2_lt (by omega)).mpr (hy.mono h)⟩
def pr (a b:Int):D:=.tup [.int a,.int b]
def fr (q:Rat):D:=pr q.num (q.den:Int)
end DL
namespace DL
theorem yb {x:D} {r:List D}:L2.atI (x::r) 0=some x:=L2.rq (j:=0) rfl
theorem LW {x y:D} {r:List D}:L2.atI (x::y::r) 1=some y:=L2.rq (j:=1) rfl
theorem Nw {n:Nat}:L2.FF (n+1) 0=some 0:=by
 unfold L2.FF;rw [if_pos (by decide),if_pos (by omega)]
 rfl
end DL
namespace DL
open PySem PySem.Spec PyProof.Rows L2
def G':D->D->Option Bool
 | .int i,.int j=>some (i == j)
 | .bl i,.bl j=>some (i == j)
 | .str i,.str j=>some (i == j)
 | .non,.non=>some true
 | .non,.int _=>some false
 | .int _,.non=>some false
 | .non,.bl _=>some false
 | .bl _,.non=>some false
 | .bl a,.int j=>some ((if a then 1 else 0) == j)
 | .int i,.bl b=>some (i == (if b then 1 else 0))
 | _,_=>none
def jM (f:D->D->Option Bool):List D->List D->Option Bool
 | [],[]=>some true
 | [],_::_=>some false
 | _::_,[]=>some false
 | x::xs,y::ys=>match f x y,jM f xs ys with
  | some a,some b=>some (a && b)
  | _,_=>none
def jQ:Nat->D->D->Option Bool
 | 0,d,e=>G' d e
 | n+1,.tup xs,.tup ys=>jM (jQ n) xs ys
 | _+1,d,e=>G' d e
theorem tM (n:Nat) (d e:D):jQ (n+1) d e=(match d,e with | .tup xs,.tup ys=>jM (jQ n) xs ys | d,e=>G' d e):=by
 cases d <;> cases e <;> rfl
def jT (f:D->D->Option Bool):List D->List D->Nat->Bool
 | x::_,y::_,0=>(f x y).getD false
 | _::xs,_::ys,j+1=>jT f xs ys j
 | _,_,_=>false
theorem Eb (e:Nat->Bool) (m:Nat):(List.range (m+1)).all e=(e 0 && (List.range m).all λj=>e (j+1)):=by
 rw [List.range_succ_eq_map,List.all_cons,List.all_map]
 rfl
theorem o8 {f:D->D->Option Bool}:∀ {xs ys:List D} {b:Bool},jM f xs ys=some b->((List.range (min xs.length ys.length)).all (jT f xs ys) && xs.length == ys.length)=b
 | [],[],b,h=>by unfold jM at h; cases h; rfl
 | [],_::_,b,h=>by unfold jM at h; cases h; simp
 | _::_,[],b,h=>by unfold jM at h; cases h; simp
 | x::xs,y::ys,b,h=>by
  unfold jM at h
  split at h
  ·rename_i a c e1 e2
   cases h;have ih:=o8 e2;rw [Qe,Qe,Nat.succ_min_succ,Eb];have e3:jT f (x::xs) (y::ys) 0=a:=by unfold jT; rw [e1]; rfl
   rw [e3,Bool.and_assoc];have e4:(λj=>jT f (x::xs) (y::ys) (j+1))=jT f xs ys:=by funext j; rfl
   rw [e4];have e5:(xs.length+1 == ys.length+1)=(xs.length == ys.length):=by simp
   rw [e5,ih]
  ·cases h
theorem rp {f:D->D->Option Bool}:∀ {xs ys:List D} {b:Bool} {j:Nat} {x y:D},jM f xs ys=some b->xs[j]?=some x->ys[j]?=some y->f x y=some (jT f xs ys j)
 | [],_,_,_,_,_,_,e,_=>by simp at e
 | _::_,[],_,_,_,_,_,_,e=>by simp at e
 | x::xs,y::ys,b,0,x',y',h,e1,e2=>by
  simp at e1 e2
  subst e1; subst e2
  unfold jM at h
  split at h
  ·rename_i a c q1 q2
   unfold jT;rw [q1]
   rfl
  ·cases h
 | x::xs,y::ys,b,j+1,x',y',h,e1,e2=>by
  unfold jM at h
  split at h
  ·rename_i a c q1 q2
   unfold jT;exact rp q2 (by simpa using e1) (by simpa using e2)
  ·cases h
section
variable {X:Cx} {pins:List (Addr×Obj)} {σ:L2.St} {H:Hp} {s:Shared}
theorem vG {K:Fg} {ds es:List D} {xs ys:List V} {us ws:List Value} {j:Nat} (i1:IsDs K H ds xs) (i2:IsDs K H es ys) (r1:a_ xs us) (r2:a_ ys ws) (h1:j < us.length) (h2:j < ws.length):
  ∃ d e x y,ds[j]?=some d/\es[j]?=some e/\bV K H d x/\bV K H e y/\aS x us[j]/\aS y ws[j]:=by
 have l1:=i1.length;have l2:=i2.length;have l3:=r1.length;have l4:=r2.length;have e1:ds[j]?=some ds[j]:=by simp [show j < ds.length by omega]
 have e2:es[j]?=some es[j]:=by simp [show j < es.length by omega]
 obtain⟨x,q1,d1⟩:=i1.get e1;obtain⟨y,q2,d2⟩:=i2.get e2;obtain⟨u,q3,rx⟩:=r1.get q1;obtain⟨w,q4,ry⟩:=r2.get q2;have f1:us[j]=u:=(QD.mp q3).2;have f2:ws[j]=w:=(QD.mp q4).2;exact⟨_,_,x,y,e1,e2,d1,d2,by rw [f1]; exact rx,by rw [f2]; exact ry⟩
theorem Eu {K:Fg} {A:Around} {d e:D} {x y:V} {u w:Value} {b:Bool} (h:G' d e=some b) (i1:bV K H d x) (i2:bV K H e y) (rx:aS x u) (ry:aS y w):SeqAt.EqAt A s u w b/\SeqAt.RcAt A s u w b:=by
 unfold G' at h
 split at h
 ·cases h; rw [isInt.mp i1] at rx; rw [isInt.mp i2] at ry; obtain⟨t,rfl⟩:=rx; obtain⟨t',rfl⟩:=ry; exact⟨(SeqAt.EqAt.int_int _ _ _ _),(SeqAt.RcAt.int_int _ _ _ _)⟩
 ·cases h; rw [ck.mp i1] at rx; rw [ck.mp i2] at ry; cases rx; cases ry; exact⟨(SeqAt.EqAt.bool_bool _ _),(SeqAt.RcAt.bool_bool _ _)⟩
 ·cases h; rw [jV.mp i1] at rx; rw [jV.mp i2] at ry; obtain⟨t,rfl⟩:=rx; obtain⟨t',rfl⟩:=ry; exact⟨(SeqAt.EqAt.str_str _ _ _ _),(SeqAt.RcAt.str_str _ _ _ _)⟩
 ·cases h; rw [cW.mp i1] at rx; rw [cW.mp i2] at ry; cases rx; cases ry; exact⟨SeqAt.EqAt.same _,SeqAt.RcAt.none_none⟩
 ·cases h; rw [cW.mp i1] at rx; rw [isInt.mp i2] at ry; cases rx; obtain⟨t',rfl⟩:=ry; exact⟨(SeqAt.EqAt.none_int _ _),(SeqAt.RcAt.none_int _ _)⟩
 ·cases h; rw [isInt.mp i1] at rx; rw [cW.mp i2] at ry; obtain⟨t,rfl⟩:=rx; cases ry; exact⟨(SeqAt.EqAt.int_none _ _),(SeqAt.RcAt.int_none _ _)⟩
 ·cases h; rw [cW.mp i1] at rx; rw [ck.mp i2] at ry; cases rx; cases ry; exact⟨(SeqAt.EqAt.none_bool _),(SeqAt.RcAt.none_bool _)⟩
 ·cases h; rw [ck.mp i1] at rx; rw [cW.mp i2] at ry; cases rx; cases ry; exact⟨(SeqAt.EqAt.bool_none _),(SeqAt.RcAt.bool_none _)⟩
 ·cases h; rw [ck.mp i1] at rx; rw [isInt.mp i2] at ry; cases rx; obtain⟨t',rfl⟩:=ry; exact⟨(SeqAt.EqAt.bool_int _ _ _),(SeqAt.RcAt.bool_int _ _ _)⟩
 ·cases h; rw [isInt.mp i1] at rx; rw [ck.mp i2] at ry; obtain⟨t,rfl⟩:=rx; cases ry; exact⟨(SeqAt.EqAt.int_bool _ _ _),(SeqAt.RcAt.int_bool _ _ _)⟩
 ·cases h
theorem xO {K:Fg} {d e:D} {x:V} {b:Bool} (h:G' d e=some b) (i1:bV K H d x) (i2:bV K H e x):b=true:=by
 unfold G' at h
 split at h
 ·cases h; have e1:=isInt.mp i1; have e2:=isInt.mp i2; rw [e1] at e2; cases e2; simp
 ·cases h; have e1:=ck.mp i1; have e2:=ck.mp i2; rw [e1] at e2; cases e2; simp
 ·cases h; have e1:=jV.mp i1; have e2:=jV.mp i2; rw [e1] at e2; cases e2; simp
 ·cases h; rfl
 ·have e1:=cW.mp i1; have e2:=isInt.mp i2; rw [e1] at e2; cases e2
 ·have e1:=isInt.mp i1; have e2:=cW.mp i2; rw [e1] at e2; cases e2
 ·have e1:=cW.mp i1; have e2:=ck.mp i2; rw [e1] at e2; cases e2
 ·have e1:=ck.mp i1; have e2:=cW.mp i2; rw [e1] at e2; cases e2
 ·have e1:=ck.mp i1; have e2:=isInt.mp i2; rw [e1] at e2; cases e2
 ·have e1:=isInt.mp i1; have e2:=ck.mp i2; rw [e1] at e2; cases e2
 ·cases h
theorem uO {K:Fg} {f:D->D->Option Bool} (hf:∀ d e x b,f d e=some b->bV K H d x->bV K H e x->b=true):∀ {ds es:List D} {xs:List V} {b:Bool},jM f ds es=some b->IsDs K H ds xs->IsDs K H es xs->b=true
 | [],[],_,_,h,_,_=>by unfold jM at h; cases h; rfl
 | [],_::_,_,_,_,i1,i2=>by
  have e1:=j'.mp i1;obtain⟨v,r,e2,_⟩:=c8.mp i2;rw [e1] at e2; cases e2
 | _::_,[],_,_,_,i1,i2=>by
  have e1:=j'.mp i2;obtain⟨v,r,e2,_⟩:=c8.mp i1;rw [e1] at e2; cases e2
 | d::ds,e::es,xs,b,h,i1,i2=>by
  obtain⟨v,r,e1,h1,h2⟩:=c8.mp i1;obtain⟨v',r',e2,h3,h4⟩:=c8.mp i2;rw [e1] at e2;cases e2;unfold jM at h
  split at h
  ·rename_i a c q1 q2
   cases h;rw [hf _ _ _ _ q1 h1 h3,uO hf q2 h2 h4]
   rfl
  ·cases h
theorem yx (I:ay X pins σ H s):∀ (n:Nat) (d e:D) (x:V) (b:Bool),jQ n d e=some b->bV X.K H d x->bV X.K H e x->b=true
 | 0,d,e,x,b,h,i1,i2=>xO (by unfold jQ at h; exact h) i1 i2
 | n+1,d,e,x,b,h,i1,i2=>by
  rw [tM] at h
  split at h
  ·rename_i xs ys
   obtain⟨a,vs,e1,t1,j1⟩:=cy.mp i1;obtain⟨a',vs',e2,t2,j2⟩:=cy.mp i2;rw [e1] at e2;cases e2;have q:=I.tuple_inj t1 t2;subst q;exact uO (λd e x b=>yx I n d e x b) h j1 j2
  ·exact xO h i1 i2
theorem qt (I:ay X pins σ H s):∀ (n:Nat) (A:Around) (d e:D) (x y:V) (u w:Value) (b:Bool),A.units+n < cLine->jQ n d e=some b->bV X.K H d x->bV X.K H e y->aS x u->aS y w->SeqAt.EqAt A s u w b/\SeqAt.RcAt A s u w b
 | 0,A,d,e,x,y,u,w,b,hu,h,i1,i2,rx,ry=>Eu (by unfold jQ at h; exact h) i1 i2 rx ry
 | n+1,A,d,e,x,y,u,w,b,hu,h,i1,i2,rx,ry=>by
  have h0:=h;rw [tM] at h
  split at h
  ·rename_i xs ys
   obtain⟨p,vs,rfl,t1,j1⟩:=cy.mp i1;obtain⟨q,vs',rfl,t2,j2⟩:=cy.mp i2;cases rx;cases ry;obtain⟨us,r1,p1,_⟩:=I.tuple t1;obtain⟨ws,r2,p2,_⟩:=I.tuple t2;have l1:=j1.length;have l2:=j2.length;have l3:=r1.length;have l4:=r2.length;have rc:SeqAt.RcAt A s (.ref p) (.ref q) b:=by
    have e:=o8 h;have z:=SeqAt.RcAt.tuples (A:=A) (s:=s) (items:=us.toArray) (items2:=ws.toArray) (e:=jT (jQ n) xs ys) (show s.heap.IsTuple p us.toArray from p1) (show s.heap.IsTuple q ws.toArray from p2) (by omega) (λj h1 h2=>by
     simp only [P7] at h1 h2
     obtain⟨d,e,x,y,q1,q2,d1,d2,rx,ry⟩:=vG j1 j2 r1 r2 h1 h2;have:=(qt I n A.in1 d e x y us[j] ws[j] _ (by show A.units+1+n < cLine; omega) (rp h q1 q2) d1 d2 rx ry).1
     simpa using this)
    simp only [P7] at z;rw [<- l3,<- l4,<- l1,<- l2,e] at z;exact z
   refine⟨?_,rc⟩
   by_cases hpq:p=q
   ·subst hpq;have:=yx I (n+1) _ _ _ _ h0 i1 i2;subst this;exact SeqAt.EqAt.same _
   ·exact SeqAt.EqAt.of_refs hpq rc
  ·exact Eu h i1 i2 rx ry
theorem ED {K:Fg} {A:Around} {d e:D} {x y:V} {u w:Value} {b:Bool} (h:G' d e=some b) (i1:bV K H d x) (i2:bV K H e y) (rx:aS x u) (ry:aS y w):SeqAt.RcNeAt A s u w (!b):=by
 unfold G' at h
 split at h
 ·cases h; rw [isInt.mp i1] at rx; rw [isInt.mp i2] at ry; obtain⟨t,rfl⟩:=rx; obtain⟨t',rfl⟩:=ry; exact(SeqAt.RcNeAt.int_int _ _ _ _)
 ·cases h; rw [ck.mp i1] at rx; rw [ck.mp i2] at ry; cases rx; cases ry; exact(SeqAt.RcNeAt.bool_bool _ _)
 ·cases h; rw [jV.mp i1] at rx; rw [jV.mp i2] at ry; obtain⟨t,rfl⟩:=rx; obtain⟨t',rfl⟩:=ry; exact(SeqAt.RcNeAt.str_str _ _ _ _)
 ·cases h; rw [cW.mp i1] at rx; rw [cW.mp i2] at ry; cases rx; cases ry; exact SeqAt.RcNeAt.none_none
 ·cases h; rw [cW.mp i1] at rx; rw [isInt.mp i2] at ry; cases rx; obtain⟨t',rfl⟩:=ry; exact(SeqAt.RcNeAt.none_int _ _)
 ·cases h; rw [isInt.mp i1] at rx; rw [cW.mp i2] at ry; obtain⟨t,rfl⟩:=rx; cases ry; exact(SeqAt.RcNeAt.int_none _ _)
 ·cases h; rw [cW.mp i1] at rx; rw [ck.mp i2] at ry; cases rx; cases ry; exact(SeqAt.RcNeAt.none_bool _)
 ·cases h; rw [ck.mp i1] at rx; rw [cW.mp i2] at ry; cases rx; cases ry; exact(SeqAt.RcNeAt.bool_none _)
 ·cases h; rw [ck.mp i1] at rx; rw [isInt.mp i2] at ry; cases rx; obtain⟨t',rfl⟩:=ry; exact(SeqAt.RcNeAt.bool_int _ _ _)
 ·cases h; rw [isInt.mp i1] at rx; rw [ck.mp i2] at ry; obtain⟨t,rfl⟩:=rx; cases ry; exact(SeqAt.RcNeAt.int_bool _ _ _)
 ·cases h
theorem KW (I:ay X pins σ H s) (n:Nat) (A:Around) (d e:D) (x y:V) (u w:Value) (b:Bool) (hu:A.units+n < cLine) (h:jQ n d e=some b) (i1:bV X.K H d x) (i2:bV X.K H e y) (rx:aS x u) (ry:aS y w):SeqAt.RcNeAt A s u w (!b):=by
 cases n with
 | zero=>exact ED (by unfold jQ at h; exact h) i1 i2 rx ry
 | succ n=>
  rw [tM] at h
  split at h
  ·rename_i xs ys
   obtain⟨p,vs,rfl,t1,j1⟩:=cy.mp i1;obtain⟨q,vs',rfl,t2,j2⟩:=cy.mp i2;cases rx;cases ry;obtain⟨us,r1,p1,_⟩:=I.tuple t1;obtain⟨ws,r2,p2,_⟩:=I.tuple t2;have l1:=j1.length;have l2:=j2.length;have l3:=r1.length;have l4:=r2.length;have e:=o8 h;have z:=SeqAt.RcNeAt.tuples (A:=A) (s:=s) (items:=us.toArray) (items2:=ws.toArray) (e:=jT (jQ n) xs ys) (show s.heap.IsTuple p us.toArray from p1) (show s.heap.IsTuple q ws.toArray from p2) (by omega) (λj h1 h2=>by
    simp only [P7] at h1 h2
    obtain⟨d,e,x,y,q1,q2,d1,d2,rx,ry⟩:=vG j1 j2 r1 r2 h1 h2;have:=(qt I n A.in1 d e x y us[j] ws[j] _ (by show A.units+1+n < cLine; omega) (rp h q1 q2) d1 d2 rx ry).1
    simpa using this)
   simp only [P7] at z;rw [<- l3,<- l4,<- l1,<- l2,e] at z;exact z
  ·exact ED h i1 i2 rx ry
end
structure EJ (X:Cx) (e:Expr) (g:DE):Prop where
 h:PE X e (up X.K g)
structure TJ (X:Cx) (e:Expr) (g:DT):Prop where
 h:PT X e (ml X.K g)
structure WJ (X:Cx) (e:Expr) (g:DT):Prop where
 h:PW X e (ml X.K g)
structure AJ (X:Cx) (e:List Expr) (g:DA):Prop where
 h:PA X e (qB X.K g)
structure SJ (X:Cx) (e:Stmt) (g:DS):Prop where
 h:PS X e (o_ X.K g)
structure Ad (X:Cx) (e:List Stmt) (g:DS):Prop where
 h:oA X e (o_ X.K g)
structure GJ (X:Cx) (e:Expr) (g:DG):Prop where
 h:PG X e (A_ X.K g)
structure MQ (X:Cx) (e:List Expr) (g:FQ):Prop where
 h:Ay X e (Go X.K g)
structure OJ (X:Cx) (e:Option Expr) (g:Lm):Prop where
 h:PO X e (OQ X.K g)
theorem WJ.pt {X:Cx} {e:Expr} {g:DT} (h:WJ X e g):TJ X e g:=⟨PW.pt h.h⟩
section
variable {X:Cx} {a b c:Expr} {ga gb gc:DE} {pos:Pos}
theorem ac (i:Nat) {x:Str} (hN:X.N[i]?=some x:=by rfl) (hv:Ny X.env.scope x:=by first | exact Or.inl rfl | exact Or.inr (Or.inl rfl) | exact Or.inr (Or.inr rfl)) (hd:(x == ("__debug__":Str))=false:=by decide) (hcd:(x == ("__classdict__":Str))=false:=by decide):EJ X (.Name x pos) (kD i):=⟨LC (i:=i) (hN:=hN) (hv:=hv) (hd:=hd) (hcd:=hcd)⟩
end
section
variable {X:Cx} {a b c:Expr} {ga gb gc:DE} {pos:Pos}
theorem ae {i j pos}:EJ X (.Constant (.int i) j pos) (dC (.int i)):=⟨MH⟩
end
section
variable {X:Cx} {a b c:Expr} {ga gb gc:DE} {pos:Pos}
theorem fA {i j pos}:EJ X (.Constant (.bool i) j pos) (dC (.bl i)):=⟨N0⟩
end
section
variable {X:Cx} {a b c:Expr} {ga gb gc:DE} {pos:Pos}
theorem g_ {j pos}:EJ X (.Constant .none j pos) (dC .non):=⟨MN⟩
end
section
variable {X:Cx} {a b c:Expr} {ga gb gc:DE} {pos:Pos}
theorem rO {i j pos}:EJ X (.Constant (.str i) j pos) (dC (.str i)):=⟨Mq⟩
end
section
variable {X:Cx} {a b c:Expr} {ga gb gc:DE} {pos:Pos}
theorem ad:AJ X [] y8:=⟨J6⟩
end
section
variable {X:Cx} {a b c:Expr} {ga gb gc:DE} {pos:Pos}
theorem aa {es:List Expr} {t:DA} (ha:EJ X a ga) (hr:AJ X es t) (hs:starEach (a::es) X.env=(false,eval a X.env)::starEach es X.env:=by exact bN rfl):AJ X (a::es) (nJ ga t):=⟨GH (ha:=ha.h) (hr:=hr.h) (hs:=hs)⟩
end
section
variable {X:Cx} {a b c:Expr} {ga gb gc:DE} {pos:Pos}
theorem au {es:List Expr} {x1} {t:DA} (h:AJ X es t):EJ X (.Tuple es x1 pos) (DY t):=⟨LY (h:=h.h)⟩
end
section
variable {X:Cx} {a b c:Expr} {ga gb gc:DE} {pos:Pos}
theorem iV {es:List Expr} {t:DA} (h:AJ X es t):EJ X (.List es pos) (MS t):=⟨MF (h:=h.h)⟩
end
section
variable {X:Cx} {a b c:Expr} {ga gb gc:DE} {pos:Pos}
theorem ar {op:Operator} {r:D2} (ho:fW X (binaryOp op) (jL X.K r)) (ha:EJ X a ga) (hb:EJ X b gb):EJ X (.BinOp a op b pos) (xM r ga gb):=⟨Oh (ho:=ho) (ha:=ha.h) (hb:=hb.h)⟩
end
section
variable {X:Cx} {a b c:Expr} {ga gb gc:DE} {pos:Pos}
theorem wK {op:CmpOp} {r:D2} (ho:fW X (compareOp op) (jL X.K r)) (ha:EJ X a ga) (hb:EJ X b gb) (hm:behindInMarks op b=false):EJ X (.Compare a [op] [b] pos) (xM r ga gb):=⟨MZ (ho:=ho) (ha:=ha.h) (hb:=hb.h) (hm:=hm)⟩
end
section
variable {X:Cx} {a b c:Expr} {ga gb gc:DE} {pos:Pos}
theorem ah {r:D2} (hr:Ba X (jL X.K r)) (ha:EJ X a ga) (hb:EJ X b gb) (hs:pe b):EJ X (.Subscript a b pos) (xM r ga gb):=⟨Oy (hr:=hr) (ha:=ha.h) (hb:=hb.h) (hs:=hs)⟩
end
section
variable {X:Cx} {a b c:Expr} {ga gb gc:DE} {pos:Pos}
theorem lQ {op:UnaryOp} {r:D1} (ho:Ll X (unaryOp op) (NU X.K r)) (ha:EJ X a ga):EJ X (.UnaryOp op a pos) (NB r ga):=⟨Oe (ho:=ho) (ha:=ha.h)⟩
end
section
variable {X:Cx} {a b c:Expr} {ga gb gc:DE} {pos:Pos}
theorem ax {op:CmpOp} {r:D2} (ho:fW X (compareOp op) (jL X.K r)) (ha:EJ X a ga) (hb:EJ X b gb) (hm:behindInMarks op b=false):TJ X (.Compare a [op] [b] pos) (uL (xM r ga gb)):=⟨JH (ho:=ho) (ha:=ha.h) (hb:=hb.h) (hm:=hm)⟩
end
section
variable {X:Cx} {a b c:Expr} {ga gb gc:DE} {pos:Pos}
theorem fb {e:Expr} {g:DE} (h:EJ X e g) (he:∀ whole,isTrue e X.env whole=(do let v <- whole; standAt e.pos; holding [v] (truthy v)):=by intro _; rfl):TJ X e (uL g):=⟨K1 (h:=h.h) (he:=he)⟩
end
section
variable {X:Cx} {a b c:Expr} {ga gb gc:DE} {pos:Pos}
variable {tA tB':DT} {aw:List Expr}
theorem tG (ha:TJ X a tA):WJ X (.BoolOp .And [a] pos) tA:=⟨Gq (ha:=ha.h)⟩
end
section
variable {X:Cx} {a b c:Expr} {ga gb gc:DE} {pos:Pos}
variable {tA tB':DT} {aw:List Expr}
theorem rj (ha:TJ X a tA):WJ X (.BoolOp .Or [a] pos) tA:=⟨J0 (ha:=ha.h)⟩
end
section
variable {X:Cx} {a b c:Expr} {ga gb gc:DE} {pos:Pos}
variable {tA tB':DT} {aw:List Expr}
theorem wV (ha:TJ X a tA) (hb:WJ X (.BoolOp .And (b::aw) pos) tB'):WJ X (.BoolOp .And (a::b::aw) pos) (Iw tA tB'):=⟨KR (ha:=ha.h) (hb:=hb.h)⟩
end
section
variable {X:Cx} {a b c:Expr} {ga gb gc:DE} {pos:Pos}
variable {tA tB':DT} {aw:List Expr}
theorem rE (ha:TJ X a tA) (hb:WJ X (.BoolOp .Or (b::aw) pos) tB'):WJ X (.BoolOp .Or (a::b::aw) pos) (Mj tA tB'):=⟨LF (ha:=ha.h) (hb:=hb.h)⟩
end
section
variable {X:Cx} {a b c:Expr} {ga gb gc:DE} {pos:Pos}
variable {tA tB':DT} {aw:List Expr}
theorem po (ha:TJ X a tA):TJ X (.UnaryOp .Not a pos) (II tA):=⟨JP (ha:=ha.h)⟩
end
section
variable {X:Cx} {a b c:Expr} {ga gb gc:DE} {pos:Pos}
variable {tA tB':DT} {aw:List Expr}
theorem uV {c:Expr} (hc:TJ X c tA) (ha:EJ X a ga) (hb:EJ X b gb):EJ X (.IfExp c a b pos) (O7 tA ga gb):=⟨Od (hc:=hc.h) (ha:=ha.h) (hb:=hb.h)⟩
end
section
variable {X:Cx} {x:Str} {p pos:Pos} {e:Expr} {es:List Expr} {t:DA} {id T:String} {r:bC}
theorem cI (hc:c_ X (.builtin id) (wL X.K r)) (hg:Gl X x) (hm:X.mg x=none) (hv:bootBuiltins x=some (.builtin id)) (ha:AJ X (e::es) t) (hn:x≠"__name__":=by decide) (hdb:(x == ("__debug__":Str))=false:=by decide) (he:starEach (e::es) X.env=(false,eval e X.env)::starEach es X.env:=by exact bN rfl) (hpl:(backTo pos (starEach es X.env)).any (·.1)=false:=by exact dz rfl):EJ X (.Call (.Name x p) (e::es) [] pos) (nN r t):=⟨HU (hc:=hc) (hg:=hg) (hm:=hm) (hv:=hv) (ha:=ha.h) (hn:=hn) (hdb:=hdb) (he:=he) (hpl:=hpl)⟩
end
section
variable {X:Cx} {x:Str} {p pos:Pos} {e:Expr} {es:List Expr} {t:DA} {id T:String} {r:bC}
theorem Dq (hc:c_ X (.type T) (wL X.K r)) (hg:Gl X x) (hm:X.mg x=none) (hv:bootBuiltins x=some (.type T)) (ha:AJ X (e::es) t) (hn:x≠"__name__":=by decide) (hdb:(x == ("__debug__":Str))=false:=by decide) (he:starEach (e::es) X.env=(false,eval e X.env)::starEach es X.env:=by exact bN rfl) (hpl:(backTo pos (starEach es X.env)).any (·.1)=false:=by exact dz rfl):EJ X (.Call (.Name x p) (e::es) [] pos) (nN r t):=⟨GL (hc:=hc) (hg:=hg) (hm:=hm) (hv:=hv) (ha:=ha.h) (hn:=hn) (hdb:=hdb) (he:=he) (hpl:=hpl)⟩
end
section
variable {X:Cx} {x:Str} {p pos:Pos} {e:Expr} {es:List Expr} {t:DA} {id T:String} {r:bC}
theorem GM {n:Nat} {F:bC} (c:aE X.prog X.w X.K X.mg X.base x n F) (hr:ce n X.A) (hg:Gl X x) (ha:AJ X (e::es) t) (hdb:(x == ("__debug__":Str))=false:=by decide) (he:starEach (e::es) X.env=(false,eval e X.env)::starEach es X.env:=by exact bN rfl) (hpl:(backTo pos (starEach es X.env)).any (·.1)=false:=by exact dz rfl):EJ X (.Call (.Name x p) (e::es) [] pos) (nN F t):=⟨Kd (c:=c) (hr:=hr) (hg:=hg) (ha:=ha.h) (hdb:=hdb) (he:=he) (hpl:=hpl)⟩
theorem dq {n m:Nat} {F:bC} (c:aE X.prog X.w X.K X.mg X.base x n F) (hr:ce m X.A) (ha:AJ X (e::es) t) (hg:Gl X x:=by exact rfl) (le:n<=m:=by decide) (hdb:(x == ("__debug__":Str))=false:=by decide) (he:starEach (e::es) X.env=(false,eval e X.env)::starEach es X.env:=by exact bN rfl) (hpl:(backTo pos (starEach es X.env)).any (·.1)=false:=by exact dz rfl):EJ X (.Call (.Name x p) (e::es) [] pos) (nN F t):=GM c (hr.mono le) hg ha hdb he hpl
end
section
variable {X:Cx} {x:Str} {p pos:Pos} {e:Expr} {es:List Expr} {t:DA} {id T:String} {r:bC}
theorem Hz {o:Expr} {g:DE} {apos cpos:Pos} (ho:EJ X o g) (hbase:attributeBase o "bit_length" X.env (eval o X.env)=eval o X.env:=by rfl) (hline:(apos.endLine == cpos.line)=true:=by rfl):EJ X (.Call (.Attribute o "bit_length" apos) [] [] cpos) (NB Ig g):=⟨Jr (ho:=ho.h) (hbase:=hbase) (hline:=hline)⟩
end
section
variable {X:Cx} {x:Str} {p pos:Pos} {e:Expr} {es:List Expr} {t:DA} {id T:String} {r:bC}
theorem gP:OJ X none IG:=⟨Hd⟩
end
section
variable {X:Cx} {x:Str} {p pos:Pos} {e:Expr} {es:List Expr} {t:DA} {id T:String} {r:bC}
theorem cf {e:Expr} {g:DE} (he:EJ X e g):OJ X (some e) (ID g):=⟨GF (he:=he.h)⟩
end
section
variable {X:Cx} {st:Stmt} {aw:List Stmt} {g h:DS} {e:Expr} {ge:DE} {pos:Pos}
theorem aG:Ad X [] Im:=⟨KZ⟩
end
section
variable {X:Cx} {st:Stmt} {aw:List Stmt} {g h:DS} {e:Expr} {ge:DE} {pos:Pos}
theorem af (h1:SJ X st g) (h2:Ad X aw h):Ad X (st::aw) (zB g h):=⟨Ga (h1:=h1.h) (h2:=h2.h)⟩
end
section
variable {X:Cx} {st:Stmt} {aw:List Stmt} {g h:DS} {e:Expr} {ge:DE} {pos:Pos}
theorem aj (h1:SJ X st g):Ad X [st] g:=⟨KL (h1:=h1.h)⟩
end
section
variable {X:Cx} {st:Stmt} {aw:List Stmt} {g h:DS} {e:Expr} {ge:DE} {pos:Pos}
theorem mU (he:EJ X e ge) (hs:swapsWith e none pos.line X.env=pure false:=by rfl):SJ X (.Expr e pos) (IB ge):=⟨EZ (he:=he.h) (hs:=hs)⟩
end
section
variable {X:Cx} {st:Stmt} {aw:List Stmt} {g h:DS} {e:Expr} {ge:DE} {pos:Pos}
theorem ak (he:EJ X e ge):SJ X (.Return (some e) pos) (Jt ge):=⟨Hu (he:=he.h)⟩
end
section
variable {X:Cx} {st:Stmt} {aw:List Stmt} {g h:DS} {e:Expr} {ge:DE} {pos:Pos}
theorem aC {c:Expr} {a b:List Stmt} {gc:DT} (hc:TJ X c gc) (ha:Ad X a g) (hb:Ad X b h):SJ X (.If c a b pos) (BS gc g h):=⟨Jl (hc:=hc.h) (ha:=ha.h) (hb:=hb.h)⟩
end
section
variable {X:Cx} {st:Stmt} {aw:List Stmt} {g h:DS} {e:Expr} {ge:DE} {pos:Pos}
theorem dj:SJ X st Em:=⟨BN⟩
end
section
variable {X:Cx} {st:Stmt} {aw:List Stmt} {g h:DS} {e:Expr} {ge:DE} {pos:Pos}
theorem ai {i:Nat} {x:Str} {pos':Pos} (hN:X.N.Nodup) (he:EJ X e ge) (hi:X.N[i]?=some x:=by rfl) (hx:FY X.env.scope x:=by first | exact Or.inl rfl | exact Or.inr rfl) (hs:swapsWith e (some (.Name x pos')) pos.line X.env=pure false:=by rfl) (hf:X.fn x=true\/X.env.scope.names.lookup x=some .local:=by first | exact .inl rfl | exact .inr rfl | assumption):SJ X (.Assign [.Name x pos'] e pos) (EO i ge):=⟨HS (hN:=hN) (he:=he.h) (hi:=hi) (hx:=hx) (hs:=hs) (hf:=hf)⟩
end
section
variable {X:Cx} {st:Stmt} {aw:List Stmt} {g h:DS} {e:Expr} {ge:DE} {pos:Pos}
theorem oI {i j:Nat} {x y:Str} {a b:Expr} {ta:DA} {px py pt:Pos} {kt k2 pt2} (hc:X.calm=true) (hN:X.N.Nodup) (hij:i≠j) (ha:AJ X [a,b] ta) (hi:X.N[i]?=some x:=by rfl) (hj:X.N[j]?=some y:=by rfl) (hx:X.env.scope.names.lookup x=some .local:=by rfl) (hy:X.env.scope.names.lookup y=some .local:=by rfl) (hw:swappedStores [.Tuple [.Name x px,.Name y py] kt pt] (.Tuple [a,b] k2 pt2) X.env=pure (some [x,y]):=by rfl) (hs:swapsWithSole [.Tuple [.Name x px,.Name y py] kt pt] (.Tuple [a,b] k2 pt2) pos.line X.env=pure false:=by rfl):SJ X (.Assign [.Tuple [.Name x px,.Name y py] kt pt] (.Tuple [a,b] k2 pt2) pos) (LR i j ta):=⟨GD (hc:=hc) (hN:=hN) (hij:=hij) (ha:=ha.h) (hi:=hi) (hj:=hj) (hx:=hx) (hy:=hy) (hw:=hw) (hs:=hs)⟩
end
section
variable {X:Cx} {st:Stmt} {aw:List Stmt} {g h:DS} {e:Expr} {ge:DE} {pos:Pos}
theorem aP {i:Nat} {x:Str} (hN:X.N.Nodup) (hi:X.N[i]?=some x:=by rfl) (hx:FY X.env.scope x:=by first | exact Or.inl rfl | exact Or.inr rfl) (hf:X.fn x=true\/X.env.scope.names.lookup x=some .local:=by first | exact .inl rfl | exact .inr rfl | assumption):GJ X (.Name x pos) (mf i):=⟨HB (hN:=hN) (hi:=hi) (hx:=hx) (hf:=hf)⟩
end
section
variable {X:Cx} {st:Stmt} {aw:List Stmt} {g h:DS} {e:Expr} {ge:DE} {pos:Pos}
theorem jX:MQ X [] FU:=⟨GA⟩
end
section
variable {X:Cx} {st:Stmt} {aw:List Stmt} {g h:DS} {e:Expr} {ge:DE} {pos:Pos}
theorem cD {es:List Expr} {t:DG} {u:FQ} (h1:GJ X e t) (h2:MQ X es u) (hs:(assignEach (e::es) X.env).map (·.2)=assign e X.env::(assignEach es X.env).map (·.2):=by rfl):MQ X (e::es) (wx t u):=⟨ES (h1:=h1.h) (h2:=h2.h) (hs:=hs)⟩
end
section
variable {X:Cx} {st:Stmt} {aw:List Stmt} {g h:DS} {e:Expr} {ge:DE} {pos:Pos}
theorem iU {tg e:Expr} {g:DG} (he:EJ X e ge) (hg:GJ X tg g) (hs:swapsWithSole [tg] e pos.line X.env=pure false:=by rfl) (hw:swappedStores [tg] e X.env=pure none:=by rfl) (h1:(assignEach [tg] X.env).map (·.2)=[assign tg X.env]:=by rfl):SJ X (.Assign [tg] e pos) (Le ge g):=⟨Gc (he:=he.h) (hg:=hg.h) (hs:=hs) (hw:=hw) (h1:=h1)⟩
end
section
variable {X:Cx} {st:Stmt} {aw:List Stmt} {g h:DS} {e:Expr} {ge:DE} {pos:Pos}
theorem kK {c:Expr} {body:List Stmt} {gc:DT} (hp:PassesOwn (model X.prog X.w) X.A X.env X.xe) (hc:TJ X c gc) (hb:Ad X body g):SJ X (.While c body [] pos) (Dh gc g):=⟨Bj (hp:=hp) (hc:=hc.h) (hb:=hb.h)⟩
end
section
variable {X:Cx} {st:Stmt} {aw:List Stmt} {g h:DS} {e:Expr} {ge:DE} {pos:Pos}
theorem Cz {tg a:Expr} {body:List Stmt} {ta:DA} {gg:DG} {p pos':Pos} (hp:PassesOwn (model X.prog X.w) X.A X.env X.xe) (hc:X.calm=true) (hgl:Gl X "range") (hm:X.mg "range"=none) (ha:AJ X [a] ta) (hg:GJ X tg gg) (hb:Ad X body g) (hs1:starEach [a] X.env=[(false,eval a X.env)]:=by rfl) (hs:∀ x,foldedSetIterable (.Call (.Name "range" p) [a] [] pos') X.env x=pure x:=by intro _; rfl):SJ X (.For tg (.Call (.Name "range" p) [a] [] pos') body [] pos) (Iq ta gg g):=⟨DW (hp:=hp) (hc:=hc) (hgl:=hgl) (hm:=hm) (ha:=ha.h) (hg:=hg.h) (hb:=hb.h) (hs1:=hs1) (hs:=hs)⟩
end
section
variable {P:Program} {w:World} {K:Fg} {mg:Str->Option Value} {base:Heap}
theorem _root_.L2.bL.okJ {x qual:Str} {st:Stmt} {f:Addr} {fd:FuncData} {N ps:List Str} {k:Nat} {F:bC} (Fn:bL K x qual st f fd) (Sc:ao N ps (am st)) (len:∀ ds S k,F ds S k->ds.length=ps.length)
  (hbody:∀ (cdv:Value) (A:Around) (outer:List Env) (s:Shared) (H:Hp) (E:XK),ce k (A.deeper (envOfC qual (am st) s.heap.objs.size f cdv))->
   ∃ g,Ad (fu ca P w K mg base N qual (am st) f cdv A outer s H E).nox (fS st) g/\
    ∀ ds S k,F ds S k->g {nx:=λ_ S'=>k .non S',rt:=k} (ds.map some++List.replicate (N.length - ps.length) none) S):aI P w K mg base ca (k+1) f fd ps (cg K F):=
 Fn.okD Sc len λcdv A outer s H E hr=>let ⟨g,h,q⟩:=hbody cdv A outer s H E hr; ⟨g,h.h,q⟩
end
end DL
namespace L2
open PySem PySem.Spec PyProof.Rows
section
variable {X:Cx} {pos:Pos}
def Ot (K:PySem.W.Frag) (n:Nat) (t:D'):TG:=λv σ H Q=>∃ a xs,v=.ref a/\jD K H a xs/\xs.length=n/\t xs σ H Q
theorem KG {es:List Expr} {k:Nat} {t:D'} {n:Nat} (hc:X.calm=true) (h:Ay X es t)
  (hn:(assignEach es X.env).length=n:=by rfl) (hst:(assignEach es X.env).findIdx? (·.1)=none:=by rfl):PG X (.Tuple es k pos) (Ot X.K n t):=by
 intro pins s σ H v u Q I r hw;obtain⟨a,xs,e1,hq,hl,hw⟩:=hw;subst e1;cases r;obtain⟨its,rv,ht,hz⟩:=I.list hq;have e2:(assignEach es X.env).length=its.toArray.size:=by simp [hn,<- hl,rv.length]
 rw [arm_assign_Tuple];refine gt (wpAny_standAt ?_);unfold unpack;rw [e2,hst];refine gt (Qq (PySem.W.kun_itemsOf (I.ok.hd hc) ht.isList λh' hx=>?_))
 have I1:ay X pins σ H {s with heap:=h'}:=I.kept (t':=s.toks) λb o e=>hx b o (P9 (P2 e)) e
 exact h pins _ σ H xs _ Q I1 (by simpa using rv) hw
theorem PG.or {e:Expr} {t t':TG} (h:PG X e t) (h':PG X e t'):PG X e (λv σ H Q=>t v σ H Q\/t' v σ H Q):=by
 intro pins s σ H v u Q I r q;rcases q with q | q
 ·exact h pins s σ H v u Q I r q
 ·exact h' pins s σ H v u Q I r q
end
def qv (X:Cx) (scope:Scope):List (Option Nat)->List Str->Prop
 | some j::r,x::xs=>(X.N[j]?=some x/\(X.env.scope.names.lookup x=some .cell\/X.env.scope.names.lookup x=some .free)/\((relabel scope X.env).names.lookup x=some .cell\/(relabel scope X.env).names.lookup x=some .free))/\qv X scope r xs
 | none::r,_::xs=>qv X scope r xs
 | _,_=>True
theorem qv.get {X:Cx} {scope:Scope}:∀ {cap:List (Option Nat)} {N:List Str},qv X scope cap N->∀ (i j:Nat) (x:Str),cap[i]?=some (some j)->N[i]?=some x->
  X.N[j]?=some x/\(X.env.scope.names.lookup x=some .cell\/X.env.scope.names.lookup x=some .free)/\((relabel scope X.env).names.lookup x=some .cell\/(relabel scope X.env).names.lookup x=some .free)
 | [],_,_,_,_,_,h,_=>by simp at h
 | _::_,[],_,_,_,_,_,h=>by simp at h
 | some _::_,_::_,h,0,j,x,h1,h2=>by
  simp at h1 h2
  subst h1 h2;exact h.1
 | none::_,_::_,_,0,j,x,h1,_=>by simp at h1
 | some _::_,_::_,h,i+1,j,x,h1,h2=>qv.get h.2 i j x (by simpa using h1) (by simpa using h2)
 | none::r,_::xs,h,i+1,j,x,h1,h2=>qv.get (show qv X scope r xs from h) i j x (by simpa using h1) (by simpa using h2)
def xq (X:Cx):List (Str×Addr)->Prop
 | []=>True
 | p::r=>X.env.cells.lookup p.1=some p.2/\xq X r
theorem xq.mem {X:Cx}:∀ {cl:List (Str×Addr)},xq X cl->∀ p∈cl,X.env.cells.lookup p.1=some p.2
 | [],_,p,hp=>by simp at hp
 | q::r,h,p,hp=>by
  rcases P8.mp hp with e | e
  ·subst e; exact h.1
  ·exact xq.mem h.2 p e
theorem ot {X:Cx} {scope:Scope} {cl:List (Str×Addr)} {N:List Str} {cap:List (Option Nat)} (h1:scope.kind=.function) (h2:closureFor scope X.env=pure cl) (h3:(scope.names.all λy=>y.2 != NameKind.cell)=true)
  (h4:(scope.names.all λy=>y.2 != NameKind.local || scope.names.lookup y.1 == some NameKind.local)=true) (h5:xq X cl)
  (h6:((relabel scope X.env).names.all λy=>(y.2 != NameKind.cell && y.2 != NameKind.free) || (cl.lookup y.1).isSome)=true) (h7:cap.length=N.length) (h8:qv X scope cap N):hG X scope cl N cap:=⟨h1,h2,h3,h4,h5.mem,h6,h7,h8.get⟩
end L2
namespace DL
open PySem PySem.Spec PyProof.Rows L2
section
variable {X:Cx} {pos:Pos}
def pf (n:Nat) (t:FQ):DG:=λd L S k=>match bj S d with
 | some p=>p.1.length=n/\t p.1 L S k
 | none=>False
theorem Jp {es:List Expr} {k:Nat} {t:FQ} {n:Nat} (hc:X.calm=true) (h:MQ X es t) (hn:(assignEach es X.env).length=n:=by rfl) (hst:(assignEach es X.env).findIdx? (·.1)=none:=by rfl):GJ X (.Tuple es k pos) (pf n t):=
 ⟨PG.imp (PG.or (JF hc h.h hn hst) (KG hc h.h hn hst)) λv σ H Q ⟨d,L,S,k,i1,hL,hS,h,m⟩=>by
  cases d with
  | tup ds=>
   obtain⟨a,xs,rfl,t1,j⟩:=cy.mp i1;exact .inl ⟨a,xs,rfl,t1,by rw [<- j.length]; exact h.1,ds,L,S,k,j,hL,hS,h.2,m⟩
  | rl ds=>
   obtain⟨a,xs,rfl,t1,j⟩:=xN.mp i1;exact .inr ⟨a,xs,rfl,t1.sq,by rw [<- j.length]; exact h.1,ds,L,S,k,j,hL,hS,h.2,m⟩
  | ref a=>
   have e1:=aX.mp i1;subst e1;cases z:S a with
   | none=>simp only [pf,bj,z] at h
   | some o=>
    cases o with
    | dic=>simp only [pf,bj,z] at h
    | exc _=>simp only [pf,bj,z] at h
    | fn _=>simp only [pf,bj,z] at h
    | tbl _=>simp only [pf,bj,z] at h
    | gen _=>simp only [pf,bj,z] at h
    | lst ds=>
     simp only [pf,bj,z] at h;obtain⟨xs,hl,j⟩:=hS.lst z;exact .inr ⟨a,xs,rfl,jD.of hl,by rw [<- j.length]; exact h.1,ds,L,S,k,j,hL,hS,h.2,m⟩
  | _=>exact(show False from h).elim⟩
end
def DQ (cap:List (Option Nat)) (L:Lo):Lo:=cap.map λo=>match o with
 | some j=>(L[j]?).join
 | none=>none
theorem Lc.cap {K:Fg} {H:Hp} {L:Lo} {σ:L2.St} (hL:Lc K H L σ):∀ cap:List (Option Nat),Lc K H (DQ cap L) (o7 cap σ)
 | []=>rfl
 | Option.none::r=>⟨_,_,rfl,Lc.cap hL r⟩
 | Option.some j::r=>by
  show Lc K H ((L[j]?).join::DQ r L) ((σ[j]?).join::o7 r σ)
  cases e:L[j]? with
  | none=>exact⟨_,_,rfl,Lc.cap hL r⟩
  | some o=>
   cases o with
   | none=>exact⟨_,_,rfl,Lc.cap hL r⟩
   | some d=>
    obtain⟨v,e1,e2⟩:=hL.get e;rw [e1];exact⟨v,_,rfl,e2,Lc.cap hL r⟩
abbrev DB:=Lo->DH->(Option D->DH->Prop)->Prop
def jR (ge:DE):DB:=λL S k=>ge L S λv S1=>k (some v) S1
def tW (c:DT) (ge:DE):DB:=λL S k=>c L S λb S1=>if b=true then ge L S1 λv S2=>k (some v) S2 else k none S1
def cz (ok:DH->Prop) (p:Addr) (g:DG) (bd:DB) (k:DK):List D->List D->Lo->DH->Prop
 | [],_,_,S=>ok S/\k (.ref p) S
 | d::r,acc,L,S=>ok S/\g d L S λL1 S1=>bd L1 S1 λo S2=>match o with
  | some v=>S2 p=some (.lst acc)/\acc.length < sizeLine/\cz ok p g bd k r (acc++[v]) L1 (put S2 p (.lst (acc++[v])))
  | none=>cz ok p g bd k r acc L1 S2
def Jb (cap:List (Option Nat)) (ta:DA) (g:DG) (bd:DB):DE:=λL S k=>ta L S λds S1=>match ds with
 | [.int n]=>(-(2 ^ 62)<=n/\n < 2 ^ 62)/\∀ p,S1 p=none->cz (λ_=>True) p g bd k ((List.range n.toNat).map λi=>D.int (i:Nat)) [] (DQ cap L) (put S1 p (.lst []))
 | _=>False
section
variable {K:Fg} {ok:DH->Prop} {gg:DG} {ge:DE} {gc:DT} {k:DK} {ds:List D} {L:Lo} {S:DH} {σ:L2.St} {H:Hp} {J:It} {Q:VK} {p:Addr}
theorem qi (hL:Lc K H L σ) (hS:Hs K H S) (hp:H p=none) (h:cz ok p gg (jR ge) k ds [] L (put S p (.lst [])))
  (n:∀ d S' v H',k d S'->Kp H H'->Hs K H' S'->bV K H' d v->Q v H')
  (hgo:∀ i d S1 H1,ds[i]?=some d->Kp H H1->Hs K H1 S1->ok S1->J.go i H1/\∀ x H',J.yld i H1 x H'->H'=H1/\bV K H1 d x)
  (hst:∀ S1 H1,Kp H H1->Hs K H1 S1->ok S1->J.stop ds.length H1):
  ∃ W:Nat->Nat->L2.St->Hp->Prop,(∃ m,W 0 m σ (bz H p (.lst [])))/\∀ i m σ' H',W i m σ' H'->
   (J.stop i H'/\Q (.ref p) H')\/(J.go i H'/\∃ N:L2.St->Hp->Prop,(∀ σ2 H2,N σ2 H2->∃ m',m' < m/\W (i+1) m' σ2 H2)/\∀ x H2,J.yld i H' x H2->A_ K gg x σ' H2 fun σ3 H3=>up K ge σ3 H3 λv H4=>∃ ys,H4 p=some (.lst ys)/\ys.length < sizeLine/\N σ3 (bz H4 p (.lst (ys++[v])))):=by
 refine⟨λi m σ1 H1=>m=ds.length - i/\i<=ds.length/\∃ acc L1 S1,Lc K H1 L1 σ1/\Hs K H1 S1/\Kp H H1/\cz ok p gg (jR ge) k (ds.drop i) acc L1 S1,⟨ds.length,by simp,QW _,[],L,_,hL.kp (Kp.new hp),hS.newL hp IsDs.nil,Kp.new hp,h⟩,?_⟩
 rintro i m σ1 H1 ⟨rfl,hi,acc,L1,S1,hL1,hS1,k1,w1⟩
 by_cases hlt:i < ds.length
 ·have e:ds.drop i=ds[i]::ds.drop (i+1):=QS hlt;rw [e] at w1;obtain⟨o1,w1⟩:=w1;obtain⟨g1,y1⟩:=hgo i ds[i] S1 H1 (by simp [hlt]) k1 hS1 o1
  refine .inr ⟨g1,fun σ' H'=>i+1<=ds.length/\∃ acc L' S',Lc K H' L' σ'/\Hs K H' S'/\Kp H H'/\cz ok p gg (jR ge) k (ds.drop (i+1)) acc L' S',fun σ' H' ⟨q1,q2⟩=>⟨ds.length - (i+1),by omega,rfl,q1,q2⟩,λx H' y=>?_⟩
  obtain⟨rfl,ix⟩:=y1 x H' y;refine⟨ds[i],L1,S1,_,ix,hL1,hS1,w1,λL2 S2 σ2 H2 q k2 hL2 hS2=>up.go hL2 hS2 q λd S3 v H3 h3 k3 hL3 hS3 i3=>?_⟩
  obtain⟨z1,z2,z3⟩:=h3;obtain⟨xs,hl,j⟩:=hS3.lst z1;have k4:Kp H3 (bz H3 p (.lst (xs++[v]))):=Kp.mut hl (λz=>z)
  exact⟨xs,hl,by rw [<- j.length]; exact z2,hlt,_,L2,_,hL3.kp k4,hS3.setL hl (j.append (IsDs.cons i3 IsDs.nil)),((k1.trans k2).trans k3).trans k4,z3⟩
 ·have e:i=ds.length:=by omega
  subst e;rw [List.drop_length] at w1;obtain⟨o1,w1⟩:=w1;exact .inl ⟨hst S1 H1 k1 hS1 o1,n _ S1 _ H1 w1 k1 hS1 (aX.mpr rfl)⟩
theorem qx (hL:Lc K H L σ) (hS:Hs K H S) (hp:H p=none) (h:cz ok p gg (tW gc ge) k ds [] L (put S p (.lst [])))
  (n:∀ d S' v H',k d S'->Kp H H'->Hs K H' S'->bV K H' d v->Q v H')
  (hgo:∀ i d S1 H1,ds[i]?=some d->Kp H H1->Hs K H1 S1->ok S1->J.go i H1/\∀ x H',J.yld i H1 x H'->H'=H1/\bV K H1 d x)
  (hst:∀ S1 H1,Kp H H1->Hs K H1 S1->ok S1->J.stop ds.length H1):
  ∃ W:Nat->Nat->L2.St->Hp->Prop,(∃ m,W 0 m σ (bz H p (.lst [])))/\∀ i m σ' H',W i m σ' H'->
   (J.stop i H'/\Q (.ref p) H')\/(J.go i H'/\∃ N:L2.St->Hp->Prop,(∀ σ2 H2,N σ2 H2->∃ m',m' < m/\W (i+1) m' σ2 H2)/\∀ x H2,J.yld i H' x H2->A_ K gg x σ' H2 fun σ3 H3=>ml K gc σ3 H3 λb H3'=>if b=true then up K ge σ3 H3' λv H4=>∃ ys,H4 p=some (.lst ys)/\ys.length < sizeLine/\N σ3 (bz H4 p (.lst (ys++[v]))) else N σ3 H3'):=by
 refine⟨λi m σ1 H1=>m=ds.length - i/\i<=ds.length/\∃ acc L1 S1,Lc K H1 L1 σ1/\Hs K H1 S1/\Kp H H1/\cz ok p gg (tW gc ge) k (ds.drop i) acc L1 S1,⟨ds.length,by simp,QW _,[],L,_,hL.kp (Kp.new hp),hS.newL hp IsDs.nil,Kp.new hp,h⟩,?_⟩
 rintro i m σ1 H1 ⟨rfl,hi,acc,L1,S1,hL1,hS1,k1,w1⟩
 by_cases hlt:i < ds.length
 ·have e:ds.drop i=ds[i]::ds.drop (i+1):=QS hlt;rw [e] at w1;obtain⟨o1,w1⟩:=w1;obtain⟨g1,y1⟩:=hgo i ds[i] S1 H1 (by simp [hlt]) k1 hS1 o1
  refine .inr ⟨g1,fun σ' H'=>i+1<=ds.length/\∃ acc L' S',Lc K H' L' σ'/\Hs K H' S'/\Kp H H'/\cz ok p gg (tW gc ge) k (ds.drop (i+1)) acc L' S',fun σ' H' ⟨q1,q2⟩=>⟨ds.length - (i+1),by omega,rfl,q1,q2⟩,λx H' y=>?_⟩
  obtain⟨rfl,ix⟩:=y1 x H' y;refine⟨ds[i],L1,S1,_,ix,hL1,hS1,w1,λL2 S2 σ2 H2 q k2 hL2 hS2=>ml.go hL2 hS2 q λb S2' H2' h2 k2' hL2' hS2'=>?_⟩
  cases b with
  | true=>
   rw [if_pos rfl] at h2 ⊢;refine up.go hL2' hS2' h2 λd S3 v H3 h3 k3 hL3 hS3 i3=>?_
   obtain⟨z1,z2,z3⟩:=h3;obtain⟨xs,hl,j⟩:=hS3.lst z1;have k4:Kp H3 (bz H3 p (.lst (xs++[v]))):=Kp.mut hl (λz=>z)
   exact⟨xs,hl,by rw [<- j.length]; exact z2,hlt,_,L2,_,hL3.kp k4,hS3.setL hl (j.append (IsDs.cons i3 IsDs.nil)),(((k1.trans k2).trans k2').trans k3).trans k4,z3⟩
  | false=>
   rw [if_neg P6] at h2 ⊢;exact⟨hlt,acc,L2,S2',hL2',hS2',(k1.trans k2).trans k2',h2⟩
 ·have e:i=ds.length:=by omega
  subst e;rw [List.drop_length] at w1;obtain⟨o1,w1⟩:=w1;exact .inl ⟨hst S1 H1 k1 hS1 o1,n _ S1 _ H1 w1 k1 hS1 (aX.mpr rfl)⟩
end
theorem CU {K:Fg} {H:Hp} {n:Int}:∀ i d (S1:DH) H1,((List.range n.toNat).map λi=>D.int (i:Nat))[i]?=some d->Kp H H1->Hs K H1 S1->(λ_=>True:DH->Prop) S1->(M3 0 n.toNat).go i H1/\∀ x H',(M3 0 n.toNat).yld i H1 x H'->H'=H1/\bV K H1 d x:=by
 intro i d S1 H1 e _ _ _;rw [Qt] at e;cases q:(List.range (Int.toNat _))[i]? with
 | none=>rw [q] at e; cases e
 | some z=>
  rw [q] at e;cases e;obtain⟨hz1,hz2⟩:=QD.mp q;rw [List.length_range] at hz1;rw [List.getElem_range] at hz2;subst hz2;exact⟨hz1,λx H' y=>⟨y.1,by rw [y.2]; exact isInt.mpr (by rw [Int.zero_add])⟩⟩
def t5 (K:Fg) (mg:Str->Option Value) (x:Str) (ns:List Int):Prop:=∃ p o its n,mg x=some (.ref p)/\K.lookup p=some o/\o.cls=.type "tuple"/\o.data=.seq its n/\its.size<=sizeLine/\a_ (ns.map V.int) its.toList
theorem pV {K:Fg} {H:Hp}:∀ ns:List Int,IsDs K H (ns.map D.int) (ns.map V.int)
 | []=>IsDs.nil
 | _::ns=>IsDs.cons (isInt.mpr rfl) (pV ns)
theorem fZ {X:Cx} {x:Str} {ns:List Int} {pos:Pos} (g:t5 X.K X.mg x ns) (hg:Gl X x) (hd:(x == ("__debug__":Str))=false:=by decide):EJ X (.Name x pos) (dC (.tup (ns.map D.int))):=by
 obtain⟨p,o,its,n,hm,h1,h2,h3,h4,h5⟩:=g;exact⟨Lq (AU (v:=.ref p) hg hm rfl hd) λH=>cy.mpr ⟨p,_,rfl,.inr ⟨o,its,n,h1,h2,h3,h4,h5⟩,pV ns⟩⟩
theorem jL.imp {K:Fg} {r r':D2} (i:∀ d e S k,r' d e S k->r d e S k):∀ x y H Q,jL K r' x y H Q->jL K r x y H Q:=λx y H Q ⟨d,e,S,k,a,b,c,h,n⟩=>⟨d,e,S,k,a,b,c,i d e S k h,n⟩
theorem wL.imp {K:Fg} {r r':bC} (i:∀ ds S k,r' ds S k->r ds S k):∀ xs H Q,wL K r' xs H Q->wL K r xs H Q:=λxs H Q ⟨ds,S,k,a,b,h,n⟩=>⟨ds,S,k,a,b,i ds S k h,n⟩
theorem Ba.imp {X:Cx} {r r':R2} (h:Ba X r) (i:∀ x y H Q,r' x y H Q->r x y H Q):Ba X r':=λvalue slice pins s σ H x y v u Q I rx ry q=>h value slice pins s σ H x y v u Q I rx ry (i x y H Q q)
theorem c_.imp {X:Cx} {f:Value} {r r':List V->Hp->VK->Prop} (h:c_ X f r) (i:∀ xs H Q,r' xs H Q->r xs H Q):c_ X f r':=λpins s σ H xs us Q I rs q=>h pins s σ H xs us Q I rs (i xs H Q q)
def Cu:D2:=λd e S k=>match d,e with
 | .tup ds,.int i=>(match L2.atI ds i with
  | some c=>k c S
  | none=>False)
 | .rl ds,.int i=>∃ c,L2.atI ds i=some c/\k c S
 | .ref a,.int i=>∃ ds c,S a=some (.lst ds)/\L2.atI ds i=some c/\k c S
 | _,_=>False
theorem ag {X:Cx}:Ba X (jL X.K Cu):=Ba.imp N4 (jL.imp λd e S k h=>by
 unfold Cu at h
 split at h
 ·exact h
 ·obtain⟨c,h1,h2⟩:=h;simp only [zE,h1];exact h2
 ·obtain⟨ds,c,h0,h1,h2⟩:=h;simp only [zE,h0,h1];exact h2
 ·exact h.elim)
def Ip:bC:=λds S k=>match ds with
 | [.tup xs]=>k (.int xs.length) S
 | [.rl xs]=>k (.int xs.length) S
 | [.ref a]=>∃ xs,S a=some (.lst xs)/\k (.int xs.length) S
 | _=>False
theorem wQ {X:Cx}:c_ X (.builtin "len") (wL X.K Ip):=c_.imp Nq (wL.imp λds S k h=>by
 unfold Ip at h
 split at h
 ·exact h
 ·exact h
 ·obtain⟨xs,h1,h2⟩:=h;simp only [JS,h1];exact h2
 ·exact h.elim)
def Nk (gi:DE) (g:DG) (b:DS):DS:=λM L S=>gi L S λd S1=>∃ p,bj S1 d=some p/\ja (ir p) g b M p.1 L S1
def DZ (n:Nat) (t:FQ):DG:=λd L S k=>∃ p,bj S d=some p/\p.1.length=n/\t p.1 L S k
theorem GJ.imp {X:Cx} {e:Expr} {g g':DG} (h:GJ X e g) (i:∀ d L S k,g' d L S k->g d L S k):GJ X e g':=⟨PG.imp h.h λv σ H Q ⟨d,L,S,k,a,hL,hS,q,n⟩=>⟨d,L,S,k,a,hL,hS,i d L S k q,n⟩⟩
theorem nj {X:Cx} {pos:Pos} {es:List Expr} {k:Nat} {t:FQ} {n:Nat} (hc:X.calm=true) (h:MQ X es t) (hn:(assignEach es X.env).length=n:=by rfl) (hst:(assignEach es X.env).findIdx? (·.1)=none:=by rfl):GJ X (.Tuple es k pos) (DZ n t):=
 GJ.imp (Jp hc h hn hst) λd L S k ⟨p,h1,h2⟩=>by
  simp only [pf,h1];exact h2
section
variable {X:Cx} {pos:Pos}
def Kg (go gi:DE):DG:=λd L S k=>go L S λo S1=>gi L S1 λi S2=>match o,i with
 | .ref a,.int j=>∃ ds n,S2 a=some (.lst ds)/\FF ds.length j=some n/\k L (put S2 a (.lst (ds.set n d)))
 | _,_=>False
theorem A3 {o i:Expr} {go gi:DE} (ho:EJ X o go) (hi:EJ X i gi)
  (ha:∀ v,assign (.Subscript o i pos) X.env v=(do
   let ov <- holding [v] (eval o X.env)
   let iv <- holding [v,ov] (eval i X.env)
   standAt pos
   holding [v,ov,iv] (setItem ov iv v)
   release [v,ov,iv] []):=by intro _; rfl):GJ X (.Subscript o i pos) (Kg go gi):=
 ⟨PG.imp (y7 ho.h hi.h Fq ha) λv σ H Q ⟨d,L,S,k,i1,hL,hS,h,n⟩=>up.go hL hS h λc S1 u H1 h1 k1 hL1 hS1 j1=>up.go hL1 hS1 h1 λc2 S2 u2 H2 h2 k2 hL2 hS2 j2=>by
  cases c with
  | ref a=>
   cases c2 with
   | int z=>
    have e1:=aX.mp j1;have e2:=isInt.mp j2;subst e1;subst e2;obtain⟨ds,m,w,q,h2⟩:=h2;obtain⟨vs,hl,j⟩:=hS2.lst w;refine⟨a,vs,z,m,rfl,rfl,hl,by rw [<- j.length]; exact q,?_⟩
    have k3:Kp H2 (bz H2 a (.lst (vs.set m v))):=Kp.mut hl (λz=>z)
    exact n L _ σ _ h2 (k1.trans (k2.trans k3)) (hL2.kp k3) (hS2.setL hl (j.set m (i1.kp (k1.trans k2))))
   | _=>exact(show False from h2).elim
  | _=>exact(show False from h2).elim⟩
theorem zN {K:Fg} {S1:DH} {H1:Hp} {d:D} {v:V} {p:List D×Option Addr} (hS1:Hs K H1 S1) (i1:bV K H1 d v) (hp:bj S1 d=some p):∃ a,v=.ref a/\
  (((∃ xs, jD K H1 a xs) ∧ (∀ i c S2 H2, p.1[i]? = some c → Kp H1 H2 → Hs K H2 S2 → ir p S2 → (L8 K a).go i H2 ∧ ∀ x H', (L8 K a).yld i H2 x H' → H' = H2 ∧ bV K H2 c x) ∧ ∀ S2 H2, Kp H1 H2 → Hs K H2 S2 → ir p S2 → (L8 K a).stop p.1.length H2) ∨
   ((∃ xs,m9 K H1 a xs)/\(∀ i c S2 H2,p.1[i]?=some c->Kp H1 H2->Hs K H2 S2->ir p S2->(LL K a).go i H2/\∀ x H',(LL K a).yld i H2 x H'->H'=H2/\bV K H2 c x)/\∀ S2 H2,Kp H1 H2->Hs K H2 S2->ir p S2->(LL K a).stop p.1.length H2)):=by
 cases d with
 | tup ds=>
  cases hp;obtain⟨a,xs,rfl,t,j⟩:=cy.mp i1;refine⟨a,rfl,.inr ⟨⟨xs,t⟩,λi d S2 H2 e k2 hS2 _=>?_,λS2 H2 k2 hS2 _=>⟨xs,k2.tup t,by rw [<- j.length]; exact P3 _⟩⟩⟩
  obtain⟨w,e1,e2⟩:=j.get e;refine⟨⟨xs,w,k2.tup t,e1⟩,λx H' y=>⟨y.1,?_⟩⟩
  have z:=y.2 xs (k2.tup t);rw [e1] at z;cases z;exact e2.kp k2
 | rl ds=>
  cases hp;obtain⟨a,xs,rfl,t,j⟩:=xN.mp i1;refine⟨a,rfl,.inl ⟨⟨xs,t.sq⟩,λi d S2 H2 e k2 hS2 _=>?_,λS2 H2 k2 hS2 _=>⟨xs,(k2.fro t).sq,by rw [<- j.length]; exact P3 _⟩⟩⟩
  obtain⟨w,e1,e2⟩:=j.get e;refine⟨⟨xs,w,(k2.fro t).sq,e1⟩,λx H' y=>⟨y.1,?_⟩⟩
  have z:=y.2 xs (k2.fro t).sq;rw [e1] at z;cases z;exact e2.kp k2
 | ref a=>
  have e1:=aX.mp i1;subst e1;cases z:S1 a with
  | none=>simp only [bj,z] at hp; cases hp
  | some o=>
   cases o with
   | dic=>simp only [bj,z] at hp; cases hp
   | exc _=>simp only [bj,z] at hp; cases hp
   | fn _=>simp only [bj,z] at hp; cases hp
   | tbl _=>simp only [bj,z] at hp; cases hp
   | gen _=>simp only [bj,z] at hp; cases hp
   | lst ds=>
    simp only [bj,z] at hp;cases hp;obtain⟨xs,hl,j⟩:=hS1.lst z;refine⟨a,rfl,.inl ⟨⟨xs,jD.of hl⟩,λi d S2 H2 e k2 hS2 o2=>?_,λS2 H2 k2 hS2 o2=>?_⟩⟩
    ·obtain⟨ys,hl2,j2⟩:=hS2.lst o2;obtain⟨w,e1,e2⟩:=j2.get e;refine⟨⟨ys,w,jD.of hl2,e1⟩,λx H' y=>⟨y.1,?_⟩⟩
     have q:=y.2 ys (jD.of hl2);rw [e1] at q;cases q;exact e2
    ·obtain⟨ys,hl2,j2⟩:=hS2.lst o2;exact⟨ys,jD.of hl2,by rw [<- j2.length]; exact P3 _⟩
 | _=>cases hp
theorem fh {tg iter:Expr} {body:List Stmt} {gi:DE} {gg:DG} {g:DS} (hp:PassesOwn (model X.prog X.w) X.A X.env X.xe) (hc:X.calm=true) (hi:EJ X iter gi) (hg:GJ X tg gg) (hb:Ad X body g)
  (hs:∀ x,foldedSetIterable iter X.env x=pure x:=by intro _; rfl):SJ X (.For tg iter body [] pos) (Nk gi gg g):=
 ⟨PS.imp (vD hp hc (zd hi.h) hg.h hb.h hs) λN σ H ⟨L,S,M,hL,hS,h,r⟩=>up.go hL hS h λd S1 v H1 h1 k1 hL1 hS1 i1=>by
  obtain⟨p,hp,h1⟩:=h1;obtain⟨a,e,q⟩:=zN hS1 i1 hp;refine⟨a,e,?_⟩;rcases q with ⟨q1,q2,q3⟩ | ⟨q1,q2,q3⟩
  ·exact .inl ⟨q1,rM hL1 hS1 h1 (r.kp k1) q2 q3⟩
  ·exact .inr ⟨q1,rM hL1 hS1 h1 (r.kp k1) q2 q3⟩⟩
def Fy (cap:List (Option Nat)) (gi:DE) (g:DG) (bd:DB):DE:=λL S k=>gi L S λd S1=>∃ q,bj S1 d=some q/\∀ p,S1 p=none->cz (ir q) p g bd k q.1 [] (DQ cap L) (put S1 p (.lst []))
theorem Da {elt tg iter:Expr} {scope:Scope} {cl:List (Str×Addr)} {N:List Str} {cap:List (Option Nat)} {gg:DG} {ge gi:DE} (hc:X.calm=true) (Sc:hG X scope cl N cap) (hi:EJ X iter gi) (hg:∀ s0 H0 ex C,GJ (kc X scope cl N s0 H0 ex C) tg gg) (he:∀ s0 H0 ex C,EJ (kc X scope cl N s0 H0 ex C) elt ge)
  (hs:∀ x,foldedSetIterable iter X.env x=pure x:=by intro _; rfl):EJ X (.ListComp elt [⟨tg,iter,[],0⟩] scope pos) (Fy cap gi gg (jR ge)):=
 ⟨PE.imp (At hc Sc (zd hi.h) (λs0 H0 ex C=>(hg s0 H0 ex C).h) (λs0 H0 ex C=>(he s0 H0 ex C).h) hs) fun σ H Q ⟨L,S,k,hL,hS,h,n⟩=>up.go hL hS h λd S1 v H1 h1 k1 hL1 hS1 i1=>by
  obtain⟨p,hp,h1⟩:=h1;obtain⟨a,e,q⟩:=zN hS1 i1 hp;refine⟨a,e,?_⟩;have n':∀ d S' v H',k d S'->Kp H1 H'->Hs X.K H' S'->bV X.K H' d v->Q v H':=λd S' v H' q k3=>n d S' v H' q (k1.trans k3)
  rcases q with ⟨q1,q2,q3⟩ | ⟨q1,q2,q3⟩
  ·exact .inl ⟨q1,λD hD=>qi (hL1.cap cap) hS1 hD (h1 D (hS1.free hD)) n' q2 q3⟩
  ·exact .inr ⟨q1,λD hD=>qi (hL1.cap cap) hS1 hD (h1 D (hS1.free hD)) n' q2 q3⟩⟩
end
end DL
namespace L2
open PySem PySem.Spec PyProof.Rows
structure iR (P:Program) (w:World) (it l:Addr) (st:Nat->Heap->Prop) (sq:Array Value->Heap->Prop):Prop where
 at_:∀ k h h',st k h->(∀ o,h.get? it=some o->h'.get? it=some o)->st k h'
 sqAt:∀ xs h h',sq xs h->(∀ o,h.get? l=some o->h'.get? l=some o)->sq xs h'
 obj:∀ k h,st k h->∃ o,h.get? it=some o/\∀ v,o.data≠.cell v
 item:∀ (A:Around) (k:Nat) (s:Shared) (xs:Array Value) (x:Value) (Q:Value->Shared->Prop) (E:Value->Shared->Prop),st k s.heap->sq xs s.heap->xs[k]?=some x->
  (∀ h',st (k+1) h'->Heap.SameBut it s.heap h'->Q x {s with heap:=h'})->wpAny (model P w) A (Builtin.SmallTypes.nextOf (.ref it)) Q E s
 fin:∀ (A:Around) (k:Nat) (s:Shared) (xs:Array Value) (Q:Value->Shared->Prop) (E:Value->Shared->Prop),A.handled=none->st k s.heap->sq xs s.heap->xs[k]?=none->
  (∀ h' e,Heap.ExtBut it s.heap h'->(∃ o,h'.get? e=some o/\o.cls=.type "StopIteration")->E (.ref e) {s with heap:=h'})->wpAny (model P w) A (Builtin.SmallTypes.nextOf (.ref it)) Q E s
theorem iR.list {P:Program} {w:World} (it l:Addr):iR P w it l (λk h=>h.IsListIter it l k) (λxs h=>h.IsList l xs) where
 at_:=λ_ _ _ x y=>x.at y
 sqAt:=λ_ _ _ x y=>x.at y
 obj:=λ_ _ ⟨o,e,_,d⟩=>⟨o,e,λv z=>by rw [d] at z; cases z⟩
 item:=λ_ _ _ _ _ _ _ a b c d=>wpAny_nextOf_list_item a b c d
 fin:=λ_ _ _ _ _ _ hh a b c d=>wpAny_nextOf_list_end hh a b c d
section
variable {prog:Program} {w:World} {A:Around} {E:Value->Shared->Prop} {s:Shared}
theorem pB {it t:Addr} {i:Nat} {items} {x:Value} {Q:Value->Shared->Prop} (hit:s.heap.IsTupleIter it t i) (ht:s.heap.IsTuple t items) (hx:items[i]?=some x)
  (hQ:∀ h',h'.IsTupleIter it t (i+1)->Heap.SameBut it s.heap h'->Q x {s with heap:=h'}):wpAny (model prog w) A (Builtin.SmallTypes.nextOf (.ref it)) Q E s:=by
 obtain⟨o,ho,hc,hd⟩:=id hit;obtain⟨ol,hol,_,nl,hdl⟩:=ht;unfold Builtin.SmallTypes.nextOf;refine gt (Q3 (name:=Str.ofString "__next__") hit.typeIs F.slot_tuple_iterator_next (QP F.slot_tuple_iterator_next hit.typeIs F.entry_tuple_iterator_next ?_ (F.args_tuple_iterator_next_1 _)))
 refine gt (m:=field (.ref it) 0) (QF ho hd (x:=.ref t) rfl ?_)
 show wpAny _ _ (if (Value.ref t == Value.none)=true then _ else _) _ _ s
 rw [if_neg (show ¬ ((Value.ref t == Value.none)=true) from P6)]
 refine gt (m:=field (.ref it) 1) (QF ho hd (x:=.int i 0) rfl ?_);refine gt (m:=seqItems? (.ref t)) (Qy hol hdl ?_);simp only [Q4,hx];refine gt (wpAny_setField ho hd (by simp) (PZ ⟨x,rfl,PZ (hQ _ ⟨_,QL _ ho (Obj.isFreed_of_fields (Obj.data_mapFields hd _)),(Obj.cls_mapFields ..).trans hc,?_⟩ (Rh ..))⟩))
 rw [Obj.data_mapFields hd];simp [rawInt]
theorem pS {it t:Addr} {i:Nat} {items} {Q:Value->Shared->Prop} (hh:A.handled=none) (hit:s.heap.IsTupleIter it t i) (ht:s.heap.IsTuple t items) (hx:items[i]?=none)
  (hE:∀ h' e,Heap.ExtBut it s.heap h'->(∃ o,h'.get? e=some o/\o.cls=.type "StopIteration")->E (.ref e) {s with heap:=h'}):wpAny (model prog w) A (Builtin.SmallTypes.nextOf (.ref it)) Q E s:=by
 obtain⟨o,ho,hc,hd⟩:=id hit;obtain⟨ol,hol,_,nl,hdl⟩:=ht;unfold Builtin.SmallTypes.nextOf;refine gt (Q3 (name:=Str.ofString "__next__") hit.typeIs F.slot_tuple_iterator_next (QP F.slot_tuple_iterator_next hit.typeIs F.entry_tuple_iterator_next ?_ (F.args_tuple_iterator_next_1 _)))
 refine gt (m:=field (.ref it) 0) (QF ho hd (x:=.ref t) rfl ?_)
 show wpAny _ _ (if (Value.ref t == Value.none)=true then _ else _) _ _ s
 rw [if_neg (show ¬ ((Value.ref t == Value.none)=true) from P6)]
 refine gt (m:=field (.ref it) 1) (QF ho hd (x:=.int i 0) rfl ?_);refine gt (m:=seqItems? (.ref t)) (Qy hol hdl ?_);simp only [Q4,hx];refine gt (wpAny_rule (gt (wpAny_setField ho hd (by simp) ?_)))
 refine gt (m:=newExc (.type "StopIteration") []) ?_
 simp only [newExc,newTuple];refine gt (Qs ?_ (by size_fits))
 refine gt (m:=firstArgMember _ _) (wpAny_of_eq (a:=Value.none) (by first | rfl | (simp only [firstArgMember]; rfl)) ?_)
 refine Qs ?_ (by size_fits)
 simp only [raiseNew];refine gt (wpAny_handled ?_)
 first | rw [show A.in1.handled=none from hh] | rw [hh]
 exact gt (PZ (wpAny_throw (hE _ _ (((Rh ..).extBut.push _).push _) ⟨_,P0 _ rfl,rfl⟩)))
end
theorem iR.tuple {P:Program} {w:World} (it l:Addr):iR P w it l (λk h=>h.IsTupleIter it l k) (λxs h=>h.IsTuple l xs) where
 at_:=λ_ _ _ x y=>x.at y
 sqAt:=λ_ _ _ x y=>x.at y
 obj:=λ_ _ ⟨o,e,_,d⟩=>⟨o,e,λv z=>by rw [d] at z; cases z⟩
 item:=λ_ _ _ _ _ _ _ a b c d=>pB a b c d
 fin:=λ_ _ _ _ _ _ hh a b c d=>pS hh a b c d
section
variable {prog:Program} {w:World} {A:Around} {E:Value->Shared->Prop} {s:Shared} {z TI TO i1 i2 l1 l2:Addr} {st1 st2:Nat->Heap->Prop} {sq1 rm:Array Value->Heap->Prop} {k1 k2:Nat} {xs ys:Array Value} {x y a b:Value}
theorem CY {Q:Value->Shared->Prop} (G1:iR prog w i1 l1 st1 sq1) (G2:iR prog w i2 l2 st2 rm) (D:ZipApart z TI TO i1 i2 l1 l2) (hz:IsZip s.heap z TI TO .none) (hTI:IsPair s.heap TI (.ref i1) (.ref i2)) (hTO:IsPair s.heap TO a b)
  (h1:st1 k1 s.heap) (h2:st2 k2 s.heap) (hl1:sq1 xs s.heap) (hl2:rm ys s.heap) (hx:xs[k1]?=some x) (hy:ys[k2]?=some y)
  (hQ:∀ h',IsZip h' z TI TO (rawInt s.heap.objs.size)->IsPair h' TO x y->st1 (k1+1) h'->st2 (k2+1) h'->IsPair h' s.heap.objs.size x y->h'.objs.size=s.heap.objs.size+1->
   (∀ c o,c≠z->c≠TO->c≠i1->c≠i2->s.heap.get? c=some o->h'.get? c=some o)->Q (.ref s.heap.objs.size) {s with heap:=h'}):
  wpAny (model prog w) A (Builtin.«zip.__next__» ⟨[.ref z],[]⟩) (λfin s'=>∃ v,fin=.done (.ret v)/\Q v s') E s:=by
 refine gt (m:=field (.ref z) 2) (QF hz rfl (x:=.bool false) rfl ?_);refine gt (m:=field (.ref z) 3) (QF hz rfl (x:=.ref TI) rfl ?_);refine gt (Qy hTI rfl ?_);refine gt (m:=Builtin.SmallTypes.ownedTupleIsFree (.ref z)) ?_;unfold Builtin.SmallTypes.ownedTupleIsFree;refine gt (QF hz rfl (x:=.none) rfl (PZ ?_));simp only [if_true];refine gt (wpAny_rule ?_);refine gt (QF hz rfl (x:=.ref TO) rfl ?_);refine gt (Qp hz (by simp) λg1 z1 e1=>?_)
 replace z1:IsZip g1 z TI TO .ellipsis:=z1;refine gt ?_;simp only [List.zipIdx_cons,List.zipIdx_nil,List.forIn_cons,List.forIn_nil];refine gt (gt (wpAny_onRaise ?_));refine gt (m:=Builtin.SmallTypes.nextOf (.ref i1)) (G1.item _ _ _ _ _ _ _ (G1.at_ _ _ _ h1 λo q=>e1.extBut _ _ D.i1z q) (G1.sqAt _ _ _ hl1 λo q=>e1.extBut _ _ D.l1z q) hx λg2 t1 e2=>PZ ?_)
 have o2:IsPair g2 TO a b:=e2.extBut _ _ D.TOi1 (e1.extBut _ _ D.TOz hTO);refine gt (Qy o2 rfl ?_);refine gt (wpAny_updateSeq_pair o2 λg3 o3 e3=>?_)
 replace o3:IsPair g3 TO x b:=o3;refine gt (Q8 (PZ ?_));refine gt (gt (wpAny_onRaise ?_));refine gt (m:=Builtin.SmallTypes.nextOf (.ref i2)) (G2.item _ _ _ _ _ _ _ (G2.at_ _ _ _ h2 λo q=>e3.extBut _ _ D.TOi2.symm (e2.extBut _ _ D.i12.symm (e1.extBut _ _ D.i2z q)))
  (G2.sqAt _ _ _ hl2 λo q=>e3.extBut _ _ D.l2TO (e2.extBut _ _ D.l2i1 (e1.extBut _ _ D.l2z q))) hy λg4 t2 e4=>PZ ?_)
 have o4:IsPair g4 TO x b:=e4.extBut _ _ D.TOi2 o3;refine gt (Qy o4 rfl ?_);refine gt (wpAny_updateSeq_pair o4 λg5 o5 e5=>?_)
 replace o5:IsPair g5 TO x y:=o5;refine gt (Q8 (PZ (PZ ?_)));refine gt (Qy o5 rfl ?_);refine gt (wpAny_newTuple ?_);have hsz:g5.objs.size=s.heap.objs.size:=by rw [e5.1,e4.1,e3.1,e2.1,e1.1]
 have z5:IsZip g5 z TI TO .ellipsis:=e5.extBut _ _ D.TOz.symm (e4.extBut _ _ D.i2z.symm (e3.extBut _ _ D.TOz.symm (e2.extBut _ _ D.i1z.symm z1)));have kk:∀ c o,c≠z->c≠TO->c≠i1->c≠i2->s.heap.get? c=some o->g5.get? c=some o:=λc o c1 c2 c3 c4 e=>
  e5.extBut _ _ c2 (e4.extBut _ _ c4 (e3.extBut _ _ c2 (e2.extBut _ _ c3 (e1.extBut _ _ c1 e))))
 have t15:st1 (k1+1) g5:=G1.at_ _ _ _ t1 λo q=>e5.extBut _ _ D.TOi1.symm (e4.extBut _ _ D.i12 (e3.extBut _ _ D.TOi1.symm q))
 have t25:st2 (k2+1) g5:=G2.at_ _ _ _ t2 λo q=>e5.extBut _ _ D.TOi2.symm q
 have hzlt:z < g5.objs.size:=P2 z5;refine gt (m:=Builtin.SmallTypes.ownedTupleHandOut (.ref z) (.ref g5.objs.size)) ?_;unfold Builtin.SmallTypes.ownedTupleHandOut;have z6:IsZip (g5.push {cls:=.type "tuple",data:=.seq #[x,y]}) z TI TO .ellipsis:=pp _ z5
 refine gt (Qp z6 (by simp) λg7 z7 e7=>?_)
 replace z7:IsZip g7 z TI TO (rawInt g5.objs.size):=z7;refine Qp z7 (by simp) λg8 z8 e8=>?_
 replace z8:IsZip g8 z TI TO (rawInt g5.objs.size):=z8;have up:∀ c o,c≠z->g5.get? c=some o->g8.get? c=some o:=λc o c1 e=>e8.extBut _ _ c1 (e7.extBut _ _ c1 (pp _ e))
 have t8:IsPair g8 g5.objs.size x y:=e8.extBut _ _ (Nat.ne_of_gt hzlt) (e7.extBut _ _ (Nat.ne_of_gt hzlt) (P0 _ rfl));have n8:g8.objs.size=g5.objs.size+1:=by rw [e8.1,e7.1,QY]
 rw [hsz] at z8 t8 n8
 refine PZ ⟨_,rfl,?_⟩
 show Q (.ref g5.objs.size) _
 rw [hsz];exact hQ g8 z8 (up _ _ D.TOz o5) (G1.at_ _ _ _ t15 λo e=>up _ o D.i1z e) (G2.at_ _ _ _ t25 λo e=>up _ o D.i2z e) t8 n8 λc o c1 c2 c3 c4 e=>up c o c1 (kk c o c1 c2 c3 c4 e)
theorem Hl {Q:Fin->Shared->Prop} (G1:iR prog w i1 l1 st1 sq1) (G2:iR prog w i2 l2 st2 rm) (hh:A.handled=none) (D:ZipApart z TI TO i1 i2 l1 l2) (hz:IsZip s.heap z TI TO .none) (hTI:IsPair s.heap TI (.ref i1) (.ref i2)) (hTO:IsPair s.heap TO a b)
  (h1:st1 k1 s.heap) (h2:st2 k2 s.heap) (hl1:sq1 xs s.heap) (hl2:rm ys s.heap) (hend:xs[k1]?=none\/ys[k2]?=none)
  (hE:∀ h' e,(∀ c o,c≠z->c≠TO->c≠i1->c≠i2->s.heap.get? c=some o->h'.get? c=some o)->(∃ o,h'.get? e=some o/\o.cls=.type "StopIteration")->E (.ref e) {s with heap:=h'}):
  wpAny (model prog w) A (Builtin.«zip.__next__» ⟨[.ref z],[]⟩) Q E s:=by
 refine gt (m:=field (.ref z) 2) (QF hz rfl (x:=.bool false) rfl ?_);refine gt (m:=field (.ref z) 3) (QF hz rfl (x:=.ref TI) rfl ?_);refine gt (Qy hTI rfl ?_);refine gt (m:=Builtin.SmallTypes.ownedTupleIsFree (.ref z)) ?_;unfold Builtin.SmallTypes.ownedTupleIsFree;refine gt (QF hz rfl (x:=.none) rfl (PZ ?_));simp only [if_true];refine gt (wpAny_rule ?_);refine gt (QF hz rfl (x:=.ref TO) rfl ?_);refine gt (Qp hz (by simp) λg1 z1 e1=>?_)
 replace z1:IsZip g1 z TI TO .ellipsis:=z1;refine gt ?_;simp only [List.zipIdx_cons,List.zipIdx_nil,List.forIn_cons,List.forIn_nil];refine gt (gt (wpAny_onRaise ?_));have a1:=G1.at_ _ _ g1 h1 λo q=>e1.extBut _ _ D.i1z q
 have b1:=G1.sqAt _ _ g1 hl1 λo q=>e1.extBut _ _ D.l1z q
 cases hx:xs[k1]? with
 | none=>
  refine gt (m:=Builtin.SmallTypes.nextOf (.ref i1)) (G1.fin _ _ _ _ _ _ hh a1 b1 hx λg2 e e2 he=>?_)
  obtain⟨oe,hoe,hce⟩:=he;have z2:IsZip g2 z TI TO .ellipsis:=e2 _ _ D.i1z.symm z1;have hez:e≠z:=λx=>by subst x; rw [z2] at hoe; cases hoe; simp at hce
  exact Qp z2 (by simp) λg3 _ e3=>hE g3 e (λc o c1 _ c3 _ x=>e3.extBut _ _ c1 (e2 _ _ c3 (e1.extBut _ _ c1 x))) ⟨oe,e3.extBut _ _ hez hoe,hce⟩
 | some x=>
  have hy:ys[k2]?=none:=by rcases hend with h | h; rw [hx] at h; cases h; exact h
  refine gt (m:=Builtin.SmallTypes.nextOf (.ref i1)) (G1.item _ _ _ _ _ _ _ a1 b1 hx λg2 t1 e2=>PZ ?_)
  have o2:IsPair g2 TO a b:=e2.extBut _ _ D.TOi1 (e1.extBut _ _ D.TOz hTO);refine gt (Qy o2 rfl ?_);refine gt (wpAny_updateSeq_pair o2 λg3 o3 e3=>?_)
  refine gt (Q8 (PZ ?_));refine gt (gt (wpAny_onRaise ?_));refine gt (m:=Builtin.SmallTypes.nextOf (.ref i2)) (G2.fin _ _ _ _ _ _ hh (G2.at_ _ _ _ h2 λo q=>e3.extBut _ _ D.TOi2.symm (e2.extBut _ _ D.i12.symm (e1.extBut _ _ D.i2z q)))
   (G2.sqAt _ _ _ hl2 λo q=>e3.extBut _ _ D.l2TO (e2.extBut _ _ D.l2i1 (e1.extBut _ _ D.l2z q))) hy λg4 e e4 he=>?_)
  obtain⟨oe,hoe,hce⟩:=he;have z4:IsZip g4 z TI TO .ellipsis:=e4 _ _ D.i2z.symm (e3.extBut _ _ D.TOz.symm (e2.extBut _ _ D.i1z.symm z1));have hez:e≠z:=λx=>by subst x; rw [z4] at hoe; cases hoe; simp at hce
  exact Qp z4 (by simp) λg5 _ e5=>hE g5 e (λc o c1 c2 c3 c4 x=>e5.extBut _ _ c1 (e4 _ _ c4 (e3.extBut _ _ c2 (e2.extBut _ _ c3 (e1.extBut _ _ c1 x))))) ⟨oe,e5.extBut _ _ hez hoe,hce⟩
theorem qH {Q:Option Value->Shared->Prop} (G1:iR prog w i1 l1 st1 sq1) (G2:iR prog w i2 l2 st2 rm) (D:ZipApart z TI TO i1 i2 l1 l2) (hz:IsZip s.heap z TI TO .none) (hTI:IsPair s.heap TI (.ref i1) (.ref i2)) (hTO:IsPair s.heap TO a b)
  (h1:st1 k1 s.heap) (h2:st2 k2 s.heap) (hl1:sq1 xs s.heap) (hl2:rm ys s.heap) (hx:xs[k1]?=some x) (hy:ys[k2]?=some y)
  (hQ:∀ h',IsZip h' z TI TO (rawInt s.heap.objs.size)->IsPair h' TO x y->st1 (k1+1) h'->st2 (k2+1) h'->IsPair h' s.heap.objs.size x y->h'.objs.size=s.heap.objs.size+1->
   (∀ c o,c≠z->c≠TO->c≠i1->c≠i2->s.heap.get? c=some o->h'.get? c=some o)->Q (some (.ref s.heap.objs.size)) {s with heap:=h'}):wpAny (model prog w) A (pyNext (.ref z)) Q E s:=by
 have hT:s.TypeIs (.ref z) "zip":=⟨_,hz,rfl⟩
 unfold pyNext;exact gt (wpAny_attempt (Q3 (name:=Str.ofString "__next__") hT F.slot_zip_next
  (QP F.slot_zip_next hT F.entry_zip_next (CY G1 G2 D hz hTI hTO h1 h2 hl1 hl2 hx hy λh' a1 a2 a3 a4 a5 a6 a7=>PZ (hQ h' a1 a2 a3 a4 a5 a6 a7)) (F.args_zip_next_1 _))))
theorem rV {Q:Option Value->Shared->Prop} (G1:iR prog w i1 l1 st1 sq1) (G2:iR prog w i2 l2 st2 rm) (hh:A.handled=none) (D:ZipApart z TI TO i1 i2 l1 l2) (hz:IsZip s.heap z TI TO .none) (hTI:IsPair s.heap TI (.ref i1) (.ref i2)) (hTO:IsPair s.heap TO a b)
  (h1:st1 k1 s.heap) (h2:st2 k2 s.heap) (hl1:sq1 xs s.heap) (hl2:rm ys s.heap) (hend:xs[k1]?=none\/ys[k2]?=none)
  (hQ:∀ h',(∀ c o,c≠z->c≠TO->c≠i1->c≠i2->s.heap.get? c=some o->h'.get? c=some o)->Q none {s with heap:=h'}):wpAny (model prog w) A (pyNext (.ref z)) Q E s:=by
 have hT:s.TypeIs (.ref z) "zip":=⟨_,hz,rfl⟩
 unfold pyNext;refine gt (wpAny_attempt (Q3 (name:=Str.ofString "__next__") hT F.slot_zip_next
  (QP F.slot_zip_next hT F.entry_zip_next (Hl G1 G2 hh D hz hTI hTO h1 h2 hl1 hl2 hend λh' e hk he=>?_) (F.args_zip_next_1 _))))
 obtain⟨o,ho,hc⟩:=he;exact gt (wpAny_isInstance (T:="StopIteration") (b:=true) ⟨o,ho,hc⟩ isSubtype_stop (PZ (hQ _ hk)))
end
structure i7 (l:Addr) (nm:String) (sq:Array Value->Heap->Prop):Prop where
 iter:∀ (P:Program) (w:World) (A:Around) (s:Shared) (xs:Array Value) (Q:Value->Shared->Prop) (E:Value->Shared->Prop),sq xs s.heap->
  Q (.ref s.heap.objs.size) {s with heap:=s.heap.push {cls:=.type nm,data:=.fields #[.ref l,.int 0 0]}}->wpAny (model P w) A (pyIter (.ref l)) Q E s
 sqAt:∀ xs h h',sq xs h->(∀ o,h.get? l=some o->h'.get? l=some o)->sq xs h'
theorem i7.list (l:Addr):i7 l "list_iterator" (λxs h=>h.IsList l xs):=⟨λ_ _ _ _ _ _ _ a b=>wpAny_pyIter_list a b,λ_ _ _ x y=>x.at y⟩
theorem i7.tuple (l:Addr):i7 l "tuple_iterator" (λxs h=>h.IsTuple l xs):=⟨λ_ _ _ _ _ _ _ a b=>wpAny_pyIter_tuple a b,λ_ _ _ x y=>x.at y⟩
section
variable {l1 l2:Addr} {n1 n2:String} {sq1 rm:Array Value->Heap->Prop}
abbrev NG (h:Heap) (n1:String) (l1:Addr):Heap:=h.push {cls:=.type n1,data:=.fields #[.ref l1,.int 0 0]}
abbrev NE (h:Heap) (n1 n2:String) (l1 l2:Addr):Heap:=(NG h n1 l1).push {cls:=.type n2,data:=.fields #[.ref l2,.int 0 0]}
abbrev NF (h:Heap) (n1 n2:String) (l1 l2:Addr):Heap:=(NE h n1 n2 l1 l2).push {cls:=.type "tuple",data:=.seq #[.ref h.objs.size,.ref (NG h n1 l1).objs.size]}
abbrev NI (h:Heap) (n1 n2:String) (l1 l2:Addr):Heap:=(NF h n1 n2 l1 l2).push {cls:=.type "tuple",data:=.seq #[.none,.none]}
abbrev Lk (h:Heap) (n1 n2:String) (l1 l2:Addr):Heap:=(NI h n1 n2 l1 l2).push {cls:=.type "zip",data:=.fields #[.none,.bool false,.bool false,.ref (NE h n1 n2 l1 l2).objs.size,.ref (NF h n1 n2 l1 l2).objs.size]}
theorem Bw (B1:i7 l1 n1 sq1) (B2:i7 l2 n2 rm) (xs ys:Array Value):
  Meets (Builtin.«zip.__new__» ⟨[.type "zip",.ref l1,.ref l2],[]⟩) (λ_ R s=>sq1 xs s.heap/\rm ys s.heap/\
   R (.ok (.ret (.ref (NI s.heap n1 n2 l1 l2).objs.size))) {s with heap:=Lk s.heap n1 n2 l1 l2}):=
 .of_wp λprog w A R s h=>by
  obtain⟨hp,g,d,tk,os⟩:=s;obtain⟨a,b,h⟩:=h;have hsub:=sub_zip;have b':rm ys (Shared.heap ⟨hp.push {cls:=.type n1,data:=.fields #[.ref l1,.int 0 0]},g,d,tk,os⟩):=B2.sqAt _ _ _ b λo q=>pp _ q
  have a':sq1 xs (Shared.heap ⟨hp,g,d,tk,os⟩):=a
  wp_walk using B1.iter _ _ _ _ _ _ _ a',B2.iter _ _ _ _ _ _ _ b'
  exact⟨_,rfl,h⟩
variable {prog:Program} {w:World} {A:Around} {E:Value->Shared->Prop} {s:Shared}
theorem Df (B1:i7 l1 n1 sq1) (B2:i7 l2 n2 rm) {xs ys:Array Value} {Q:Value->Shared->Prop} (hl1:sq1 xs s.heap) (hl2:rm ys s.heap)
  (h:∀ h',IsZip h' (s.heap.objs.size+4) (s.heap.objs.size+2) (s.heap.objs.size+3) .none->IsPair h' (s.heap.objs.size+2) (.ref s.heap.objs.size) (.ref (s.heap.objs.size+1))->
   IsPair h' (s.heap.objs.size+3) .none .none->h'.get? s.heap.objs.size=some {cls:=.type n1,data:=.fields #[.ref l1,.int 0 0]}->h'.get? (s.heap.objs.size+1)=some {cls:=.type n2,data:=.fields #[.ref l2,.int 0 0]}->
   (∀ c o,s.heap.get? c=some o->h'.get? c=some o)->Q (.ref (s.heap.objs.size+4)) {s with heap:=h'}):
  wpAny (model prog w) A (call (.type "zip") [.ref l1,.ref l2]) Q E s:=by
 refine callType_new F.called_zip (by decide) (F.typeCall_zip_2 _ _) (F.newCall_zip_2 _ _) (λobj=>F.args_object_init_3 obj _ _) F.entry_zip_new (Bw B1 B2 xs ys) ⟨hl1,hl2,?_⟩
 have z1:(NG s.heap n1 l1).objs.size=s.heap.objs.size+1:=QY ..;have z2:(NE s.heap n1 n2 l1 l2).objs.size=s.heap.objs.size+2:=by rw [QY,z1]
 have z3:(NF s.heap n1 n2 l1 l2).objs.size=s.heap.objs.size+3:=by rw [QY,z2]
 have z4:(NI s.heap n1 n2 l1 l2).objs.size=s.heap.objs.size+4:=by rw [QY,z3]
 have g5:(Lk s.heap n1 n2 l1 l2).get? (NI s.heap n1 n2 l1 l2).objs.size=some _:=P0 _ rfl;have g4:(Lk s.heap n1 n2 l1 l2).get? (NF s.heap n1 n2 l1 l2).objs.size=some _:=pp _ (P0 _ rfl);have g3:(Lk s.heap n1 n2 l1 l2).get? (NE s.heap n1 n2 l1 l2).objs.size=some _:=pp _ (pp _ (P0 _ rfl));have g2:(Lk s.heap n1 n2 l1 l2).get? (NG s.heap n1 l1).objs.size=some _:=pp _ (pp _ (pp _ (P0 _ rfl)));have g1:(Lk s.heap n1 n2 l1 l2).get? s.heap.objs.size=some _:=pp _ (pp _ (pp _ (pp _ (P0 _ rfl))))
 show _/\_
 rw [z2,z3,z4] at g5;rw [z1,z2] at g3;rw [z3] at g4;rw [z1] at g2;rw [z4];exact⟨⟨_,g5,rfl⟩,h _ g5 g3 g4 g1 g2 λc o x=>pp _ (pp _ (pp _ (pp _ (pp _ x))))⟩
end
section
variable {X:Cx} {pins:List (Addr×Obj)} {σ:St} {H:Hp} {s:Shared} {h':Heap}
theorem ay.turnedL {t':Nat} (ch:List Addr) (I:ay X pins σ H s) (k:∀ b o,b∉ch->s.heap.get? b=some o->h'.get? b=some o) (hf:∀ b∈ch,qf X pins H b):ay X pins σ H {s with heap:=h',toks:=t'}:=by
 have nit:∀ b u,H b=some u->b∉ch:=λb u e z=>by rw [(hf b z).1] at e; cases e
 refine I.step (g':=s.gens) (d':=s.drawn) (ch:=ch) (λb hb=>⟨(hf b hb).2.2.2.1,(hf b hb).2.1,(hf b hb).2.2.2.2.1,(hf b hb).2.2.2.2.2⟩) (λb o _ _ hc e _=>k b o hc e) (λb o _ _ hc e _=>⟨o.slots,k b o hc e⟩) (λ_ _ _ _ n=>n)
  (λb o hc e=>⟨o,k b o hc e⟩) (λ_ _ e=>e) (λ_ _ _ e=>e) (λb ps e=>⟨#[],by rw [e]; simp⟩) (λm hm=>?_) (λb u e=>?_) I.bare
 ·obtain⟨o,es,ep,ho,r⟩:=hm;exact⟨o,es,ep,k _ o (λz=>(hf _ z).2.1 rfl) ho,r⟩
 ·refine(I.hok b u e).stay (λc v hc q=>k c v ?_ q) (λ_ q=>q) λ_ _ q=>q
  rcases hc with z | z
  ·rw [z]; exact nit b u e
  ·exact nit c _ z
theorem ay.turnedNew {t':Nat} {T:Addr} {xs:List V} (ch:List Addr) (I:ay X pins σ H s) (k:∀ b o,b∉ch->s.heap.get? b=some o->h'.get? b=some o) (hf:∀ b∈ch,qf X pins H b) (hT:s.heap.objs.size<=T)
  (new:dc X.prog X.w (bz H T (.tup xs)) h' T (.tup xs)):ay X pins σ (bz H T (.tup xs)) {s with heap:=h',toks:=t'}:=by
 have hn:H T=none:=I.hok.fresh hT;have nit:∀ b u,H b=some u->b∉ch:=λb u e z=>by rw [(hf b z).1] at e; cases e
 have neT:∀ b o,s.heap.get? b=some o->b≠T:=λb o e z=>by subst z; exact absurd (Qb (P2 e) hT) (QX _)
 refine I.step (g':=s.gens) (d':=s.drawn) (ch:=ch) (λb hb=>⟨(hf b hb).2.2.2.1,(hf b hb).2.1,(hf b hb).2.2.2.2.1,(hf b hb).2.2.2.2.2⟩) (λb o _ _ hc e _=>k b o hc e) (λb o _ _ hc e _=>⟨o.slots,k b o hc e⟩) (λb o _ e n=>by rw [aK (neT b o e)]; exact n)
  (λb o hc e=>⟨o,k b o hc e⟩) (λb _ e=>by rw [aK (bf e hn)]; exact e) (λb _ _ e=>by rw [aK (bf e hn)]; exact e) (λb ps e=>⟨#[],by rw [aK (bf e hn),e]; simp⟩) (λm hm=>?_) (λb u e=>?_) I.bare
 ·obtain⟨o,es,ep,ho,r⟩:=hm;exact⟨o,es,ep,k _ o (λz=>(hf _ z).2.1 rfl) ho,r⟩
 ·by_cases hb:b=T
  ·subst hb;rw [bu] at e;cases e;exact new
  ·rw [aK hb] at e;refine(I.hok b u e).stay (λc v hc q=>k c v ?_ q) (λc q=>by rw [aK (bf q hn)]; exact q) λc _ q=>by rw [aK (bf q hn)]; exact q
   rcases hc with z | z
   ·rw [z]; exact nit b u e
   ·exact nit c _ z
end
def zu (b:Bool) (K:PySem.W.Frag) (H:Hp) (a:Addr) (xs:List V):Prop:=match b with | true=>jD K H a xs | false=>m9 K H a xs
def NL (b:Bool) (it l:Addr) (k:Nat) (h:Heap):Prop:=match b with | true=>h.IsListIter it l k | false=>h.IsTupleIter it l k
def sqB (b:Bool) (l:Addr) (xs:Array Value) (h:Heap):Prop:=match b with | true=>h.IsList l xs | false=>h.IsTuple l xs
def O2 (b:Bool):String:=match b with | true=>"list_iterator" | false=>"tuple_iterator"
theorem ic {P:Program} {w:World} (b:Bool) (it l:Addr):iR P w it l (NL b it l) (sqB b l):=match b with | true=>iR.list it l | false=>iR.tuple it l
theorem zY (b:Bool) (l:Addr):i7 l (O2 b) (sqB b l):=match b with | true=>i7.list l | false=>i7.tuple l
theorem AF {b:Bool} {it l:Addr} {h:Heap} (e:h.get? it=some {cls:=.type (O2 b),data:=.fields #[.ref l,.int 0 0]}):NL b it l 0 h:=match b,e with | true,e=>⟨_,e,rfl,rfl⟩ | false,e=>⟨_,e,rfl,rfl⟩
section
variable {X:Cx} {pins:List (Addr×Obj)} {σ:St} {H:Hp} {s:Shared} {a:Addr} {xs ys:List V} {b:Bool}
theorem ay.sqB (I:ay X pins σ H s) (h:zu b X.K H a xs):∃ its:List Value,a_ xs its/\L2.sqB b a its.toArray s.heap:=by
 cases b with
 | true=>obtain⟨its,r,p,_⟩:=I.list h; exact⟨its,r,p.isList⟩
 | false=>obtain⟨its,r,p,_⟩:=I.tuple h; exact⟨its,r,p⟩
theorem ay.sqB_inj (I:ay X pins σ H s) (h:zu b X.K H a xs) (h':zu b X.K H a ys):xs=ys:=by
 cases b with
 | true=>exact I.list_inj h h'
 | false=>exact I.tuple_inj h h'
theorem CJ {its:Array Value} {h:Heap} (e:L2.sqB b a its h):a < h.objs.size:=by
 cases b with
 | true=>obtain⟨o,e,_⟩:=e; exact P2 e
 | false=>obtain⟨o,e,_⟩:=e; exact P2 e
end
def M1 (K:PySem.W.Frag) (b1 b2:Bool) (a1 a2:Addr):It:=
 ⟨λi H => ∃ xs ys x y, zu b1 K H a1 xs ∧ zu b2 K H a2 ys ∧ xs[i]? = some x ∧ ys[i]? = some y,
  λi H v H'=>∃ T x y,v=.ref T/\H T=none/\H'=bz H T (.tup [x,y])/\∀ xs ys,zu b1 K H a1 xs->zu b2 K H a2 ys->xs[i]?=some x/\ys[i]?=some y,
  λi H=>∃ xs ys,zu b1 K H a1 xs/\zu b2 K H a2 ys/\(xs.length<=i\/ys.length<=i)⟩
def Pv (b1 b2:Bool) (z TI TO i1 i2 a1 a2:Addr) (i:Nat) (h:Heap):Prop:=
 IsZip h z TI TO .none/\IsPair h TI (.ref i1) (.ref i2)/\(∃ a b,IsPair h TO a b)/\NL b1 i1 a1 i h/\NL b2 i2 a2 i h
theorem Fs {P:Program} {w:World} {K:PySem.W.Frag} {es:List Expr} {k:Nat} {pos:Pos} (b1 b2:Bool) {z TI TO i1 i2 a1 a2:Addr} (D:ZipApart z TI TO i1 i2 a1 a2):
  yG P w K (.Tuple es k pos) (M1 K b1 b2 a1 a2) [z,TI,TO,i1,i2] z (Pv b1 b2 z TI TO i1 i2 a1 a2) where
 mem:=by simp
 obj:=λi h st b hb=>by
  obtain⟨hz,hTI,⟨x,y,hTO⟩,h1,h2⟩:=st;have hb':b=z\/b=TI\/b=TO\/b=i1\/b=i2:=by simpa using hb
  rcases hb' with rfl | rfl | rfl | rfl | rfl
  ·exact⟨_,hz,λv q=>by cases q⟩
  ·exact⟨_,hTI,λv q=>by cases q⟩
  ·exact⟨_,hTO,λv q=>by cases q⟩
  ·exact(ic (P:=P) (w:=w) b1 b a1).obj _ _ h1
  ·exact(ic (P:=P) (w:=w) b2 b a2).obj _ _ h2
 keep:=λi h h' st q=>by
  obtain⟨hz,hTI,⟨x,y,hTO⟩,h1,h2⟩:=st;exact⟨q z (by simp) _ hz,q TI (by simp) _ hTI,⟨x,y,q TO (by simp) _ hTO⟩,(ic (P:=P) (w:=w) b1 i1 a1).at_ _ _ _ h1 λo e=>q i1 (by simp) o e,(ic (P:=P) (w:=w) b2 i2 a2).at_ _ _ _ h2 λo e=>q i2 (by simp) o e⟩
 item:=by
  intro X hP hw hK hc i pins s σ H E I hf st hg;subst hP hw hK;obtain⟨xs,ys,x,y,q1,q2,hx,hy⟩:=hg;obtain⟨its,rv,p⟩:=I.sqB q1;obtain⟨jts,rw',p'⟩:=I.sqB q2;obtain⟨u,hu,ru⟩:=rv.get hx;obtain⟨u',hu',ru'⟩:=rw'.get hy;obtain⟨hz,hTI,⟨c,d,hTO⟩,h1,h2⟩:=st;have hn:H s.heap.objs.size=none:=I.hok.fresh (P3 _);have old:∀ b∈[z,TI,TO,i1,i2],b≠s.heap.objs.size:=λb hb e=>by
   have:∃ o,s.heap.get? b=some o:=by
    have hb':b=z\/b=TI\/b=TO\/b=i1\/b=i2:=by simpa using hb
    rcases hb' with rfl | rfl | rfl | rfl | rfl
    ·exact⟨_,hz⟩
    ·exact⟨_,hTI⟩
    ·exact⟨_,hTO⟩
    ·obtain⟨o,e,_⟩:=(ic (P:=X.prog) (w:=X.w) b1 b a1).obj _ _ h1; exact⟨o,e⟩
    ·obtain⟨o,e,_⟩:=(ic (P:=X.prog) (w:=X.w) b2 b a2).obj _ _ h2; exact⟨o,e⟩
   obtain⟨o,eo⟩:=this;exact absurd (P2 eo) (by rw [e]; exact QX _)
  refine qH (ic b1 i1 a1) (ic b2 i2 a2) D hz hTI hTO h1 h2 p p' (x:=u) (y:=u') (by simpa using hu) (by simpa using hu') λh' c1 c2 c3 c4 c5 c6 c7=>?_
  have I1:ay X pins σ (bz H s.heap.objs.size (.tup [x,y])) {s with heap:=h'}:=I.turnedNew (t':=s.toks) [z,TO,i1,i2] (λb o hb e=>c7 b o (λq=>hb (by simp [q])) (λq=>hb (by simp [q])) (λq=>hb (by simp [q])) (λq=>hb (by simp [q])) e)
   (fun b hb => hf b (by have hb' : b = z ∨ b = TO ∨ b = i1 ∨ b = i2 := by simpa using hb
                         rcases hb' with rfl | rfl | rfl | rfl <;> simp)) (P3 _) ⟨Qi rfl,[u,u'],.cons ru (.cons ru' .nil),⟨_,c5,rfl,_,rfl⟩⟩
  refine⟨_,rfl,wpAny_letOwnedTupleGo_zip (s:={s with heap:=h'}) c1 λh2' g1 g2=>?_⟩
  refine⟨.ref s.heap.objs.size,bz H s.heap.objs.size (.tup [x,y]),?_,rfl,⟨_,x,y,rfl,hn,rfl,λxs' ys' e1 e2=>by rw [I.sqB_inj e1 q1,I.sqB_inj e2 q2]; exact⟨hx,hy⟩⟩,?_,λb hb=>?_⟩
  ·refine I1.turnedL (t':=s.toks) [z] (λb o hb e=>g2.extBut _ _ (λq=>hb (by simp [q])) e) λb hb=>?_
   have e:b=z:=by simpa using hb
   subst e;obtain⟨f0,f1,f2,f3,f4,f5⟩:=hf b (by simp)
   exact⟨by rw [aK (old b (by simp))]; exact f0,f1,f2,f3,f4,f5⟩
  ·exact⟨g1,g2.extBut _ _ D.TIz (c7 _ _ D.TIz D.TITO D.TIi1 D.TIi2 hTI),⟨_,_,g2.extBut _ _ D.TOz c2⟩,(ic (P:=X.prog) (w:=X.w) b1 i1 a1).at_ _ _ _ c3 λo e=>g2.extBut _ _ D.i1z e,(ic (P:=X.prog) (w:=X.w) b2 i2 a2).at_ _ _ _ c4 λo e=>g2.extBut _ _ D.i2z e⟩
  ·rw [aK (old b hb)];exact(hf b hb).1
 done:=by
  intro X hP hw hK hc i pins s σ H E I hf st hg;subst hP hw hK;obtain⟨xs,ys,q1,q2,hx⟩:=hg;obtain⟨its,rv,p⟩:=I.sqB q1;obtain⟨jts,rw',p'⟩:=I.sqB q2;obtain⟨hz,hTI,⟨c,d,hTO⟩,h1,h2⟩:=st;have l1:=rv.length;have l2:=rw'.length;refine rV (ic b1 i1 a1) (ic b2 i2 a2) (I.ok.hd hc) D hz hTI hTO h1 h2 p p' (hx.imp (λhx=>by simp; omega) (λhx=>by simp; omega)) λh' kk=>⟨rfl,I.turnedL (t':=s.toks) [z,TO,i1,i2] (λb o hb e=>kk b o (λq=>hb (by simp [q])) (λq=>hb (by simp [q])) (λq=>hb (by simp [q])) (λq=>hb (by simp [q])) e) λb hb=>hf b ?_⟩
  have hb':b=z\/b=TO\/b=i1\/b=i2:=by simpa using hb
  rcases hb' with rfl | rfl | rfl | rfl <;> simp
 self:=λ_ _ _ _ _ st h=>wpAny_pyIter_zip st.1 h
theorem JQ (n l1 l2:Nat) (h1:l1 < n) (h2:l2 < n):ZipApart (n+4) (n+2) (n+3) n (n+1) l1 l2:=by
 constructor <;> (intro e; simp only [Addr] at e; omega)
def N8 (K:PySem.W.Frag) (ta:TA):TI:=fun σ H R=>ta σ H λvs H1=>∃ a1 a2 b1 b2,vs=[.ref a1,.ref a2]/\(∃ xs,zu b1 K H1 a1 xs)/\(∃ ys,zu b2 K H1 a2 ys)/\R (M1 K b1 b2 a1 a2) H1
theorem Jd {X:Cx} {a b:Expr} {ta:TA} {p pos tp:Pos} {es:List Expr} {k:Nat} (hg:Gl X "zip") (hm:X.mg "zip"=none) (ha:PA X [a,b] ta) (hs:starEach [a,b] X.env=[(false,eval a X.env),(false,eval b X.env)]:=by rfl) (hs2:starEach [b] X.env=[(false,eval b X.env)]:=by rfl):
  PI X (.Tuple es k tp) (.Call (.Name "zip" p) [a,b] [] pos) (N8 X.K ta):=by
 intro pins s σ H R I h;refine Call_ (sI I hg hm boot_zip (PyProof.Rows.callWith_type1 (b9 (ha pos pins s σ H _ I h) λus s1 ⟨vs,H1,I1,r1,q1⟩=>?_) (by rw [hs,hs2]) (by rw [hs2]; rfl)))
 obtain⟨a1,a2,b1,b2,e,⟨xs,e1⟩,⟨ys,e2⟩,q⟩:=q1;subst e;cases r1 with
 | cons r rr=>
  cases rr with
  | cons r' rr=>
   cases rr;cases r;cases r';obtain⟨its,rv,p1⟩:=I1.sqB e1;obtain⟨jts,rw',p2⟩:=I1.sqB e2;refine Df (zY b1 a1) (zY b2 a2) p1 p2 λh' c1 c2 c3 c4 c5 c6=>?_
   refine wpAny_pyIter_zip (s:={s1 with heap:=h'}) c1 ?_
   have fr:∀ j,H1 (s1.heap.objs.size+j)=none:=λj=>I1.hok.fresh (Nat.le_add_right _ _)
   refine⟨_,[s1.heap.objs.size+4,s1.heap.objs.size+2,s1.heap.objs.size+3,s1.heap.objs.size,s1.heap.objs.size+1],_,_,H1,rfl,I1.kept (t':=s1.toks) c6,Fs b1 b2 (JQ _ _ _ (CJ p1) (CJ p2)),⟨c1,c2,⟨_,_,c3⟩,AF c4,AF c5⟩,λb hb=>?_,q⟩
   have hb':b=s1.heap.objs.size+4\/b=s1.heap.objs.size+2\/b=s1.heap.objs.size+3\/b=s1.heap.objs.size\/b=s1.heap.objs.size+1:=by simpa using hb
   rcases hb' with rfl | rfl | rfl | rfl | rfl
   ·exact I1.fpOk (Nat.le_add_right _ _) (fr 4)
   ·exact I1.fpOk (Nat.le_add_right _ _) (fr 2)
   ·exact I1.fpOk (Nat.le_add_right _ _) (fr 3)
   ·exact I1.fpOk (P3 _) (fr 0)
   ·exact I1.fpOk (Nat.le_add_right _ _) (fr 1)
end L2
namespace DL
open PySem PySem.Spec PyProof.Rows L2
section
variable {K:Fg} {ok:DH->Prop} {gg:DG} {ge:DE} {k:DK} {ds:List D} {L:Lo} {S:DH} {σ:L2.St} {H:Hp} {J:It} {p:Addr} {Q:V->Hp->Prop}
theorem zA (hL:Lc K H L σ) (hS:Hs K H S) (hp:H p=none) (h:cz ok p gg (jR ge) k ds [] L (put S p (.lst [])))
  (n:∀ d S' v H',k d S'->Kp H H'->Hs K H' S'->bV K H' d v->Q v H')
  (hgo:∀ i d S1 H1,ds[i]?=some d->Kp H H1->Hs K H1 S1->ok S1->J.go i H1/\∀ x H',J.yld i H1 x H'->Kp H1 H'/\Hs K H' S1/\bV K H' d x)
  (hst:∀ S1 H1,Kp H H1->Hs K H1 S1->ok S1->J.stop ds.length H1):
  ∃ W:Nat->Nat->L2.St->Hp->Prop,(∃ m,W 0 m σ (bz H p (.lst [])))/\∀ i m σ' H',W i m σ' H'->
   (J.stop i H'/\Q (.ref p) H')\/(J.go i H'/\∃ N:L2.St->Hp->Prop,(∀ σ2 H2,N σ2 H2->∃ m',m' < m/\W (i+1) m' σ2 H2)/\∀ x H2,J.yld i H' x H2->A_ K gg x σ' H2 fun σ3 H3=>up K ge σ3 H3 λv H4=>∃ ys,H4 p=some (.lst ys)/\ys.length < sizeLine/\N σ3 (bz H4 p (.lst (ys++[v])))):=by
 refine⟨λi m σ1 H1=>m=ds.length - i/\i<=ds.length/\∃ acc L1 S1,Lc K H1 L1 σ1/\Hs K H1 S1/\Kp H H1/\cz ok p gg (jR ge) k (ds.drop i) acc L1 S1,⟨ds.length,by simp,QW _,[],L,_,hL.kp (Kp.new hp),hS.newL hp IsDs.nil,Kp.new hp,h⟩,?_⟩
 rintro i m σ1 H1 ⟨rfl,hi,acc,L1,S1,hL1,hS1,k1,w1⟩
 by_cases hlt:i < ds.length
 ·have e:ds.drop i=ds[i]::ds.drop (i+1):=QS hlt;rw [e] at w1;obtain⟨o1,w1⟩:=w1;obtain⟨g1,y1⟩:=hgo i ds[i] S1 H1 (by simp [hlt]) k1 hS1 o1
  refine .inr ⟨g1,fun σ' H'=>i+1<=ds.length/\∃ acc L' S',Lc K H' L' σ'/\Hs K H' S'/\Kp H H'/\cz ok p gg (jR ge) k (ds.drop (i+1)) acc L' S',fun σ' H' ⟨q1,q2⟩=>⟨ds.length - (i+1),by omega,rfl,q1,q2⟩,λx H' y=>?_⟩
  obtain⟨k0,hS0,ix⟩:=y1 x H' y;refine⟨ds[i],L1,S1,_,ix,hL1.kp k0,hS0,w1,λL2 S2 σ2 H2 q k2 hL2 hS2=>up.go hL2 hS2 q λd S3 v H3 h3 k3 hL3 hS3 i3=>?_⟩
  obtain⟨z1,z2,z3⟩:=h3;obtain⟨xs,hl,j⟩:=hS3.lst z1;have k4:Kp H3 (bz H3 p (.lst (xs++[v]))):=Kp.mut hl (λz=>z)
  exact⟨xs,hl,by rw [<- j.length]; exact z2,hlt,_,L2,_,hL3.kp k4,hS3.setL hl (j.append (IsDs.cons i3 IsDs.nil)),(((k1.trans k0).trans k2).trans k3).trans k4,z3⟩
 ·have e:i=ds.length:=by omega
  subst e;rw [List.drop_length] at w1;obtain⟨o1,w1⟩:=w1;exact .inl ⟨hst S1 H1 k1 hS1 o1,n _ S1 _ H1 w1 k1 hS1 (aX.mpr rfl)⟩
end
theorem FS {K:Fg} {S1:DH} {H1:Hp} {d:D} {v:V} {p:List D×Option Addr} (hS1:Hs K H1 S1) (i1:bV K H1 d v) (hp:bj S1 d=some p):∃ a b,v=.ref a/\
  (∃ xs,zu b K H1 a xs)/\∀ S2 H2,Kp H1 H2->Hs K H2 S2->ir p S2->∃ xs,zu b K H2 a xs/\IsDs K H2 p.1 xs:=by
 cases d with
 | tup ds=>
  cases hp;obtain⟨a,xs,rfl,t,j⟩:=cy.mp i1;exact⟨a,false,rfl,⟨xs,t⟩,λS2 H2 k2 _ _=>⟨xs,k2.tup t,j.kp k2⟩⟩
 | rl ds=>
  cases hp;obtain⟨a,xs,rfl,t,j⟩:=xN.mp i1;exact⟨a,true,rfl,⟨xs,t.sq⟩,λS2 H2 k2 _ _=>⟨xs,(k2.fro t).sq,j.kp k2⟩⟩
 | ref a=>
  have e1:=aX.mp i1;subst e1;cases z:S1 a with
  | none=>simp only [bj,z] at hp; cases hp
  | some o=>
   cases o with
   | dic=>simp only [bj,z] at hp; cases hp
   | exc _=>simp only [bj,z] at hp; cases hp
   | fn _=>simp only [bj,z] at hp; cases hp
   | tbl _=>simp only [bj,z] at hp; cases hp
   | gen _=>simp only [bj,z] at hp; cases hp
   | lst ds=>
    simp only [bj,z] at hp;cases hp;obtain⟨xs,hl,j⟩:=hS1.lst z;refine⟨a,true,rfl,⟨xs,jD.of hl⟩,λS2 H2 k2 hS2 o2=>?_⟩
    obtain⟨ys,hl2,j2⟩:=hS2.lst o2;exact⟨ys,jD.of hl2,j2⟩
 | _=>cases hp
def Dz (xs ys:List D):List D:=List.zipWith (λa b=>D.tup [a,b]) xs ys
section
variable {X:Cx} {o e a b c:Expr} {go ge ga gb gc:DE} {apos cpos pos:Pos}
def OL (go ge:DE):DE:=λL S k=>go L S λd S1=>match d with
 | .ref a=>(∃ ds,S1 a=some (.lst ds))/\ge L S1 λe S2=>∃ ds,S2 a=some (.lst ds)/\ds.length < sizeLine/\k .non (put S2 a (.lst (ds++[e])))
 | _=>False
theorem Ec (ho:EJ X o go) (he:EJ X e ge) (hbase:attributeBase o "append" X.env (eval o X.env)=eval o X.env:=by rfl)
  (hfew:((backTo cpos (starEach [e] X.env)).all (λx=>!x.1) && (backToKw cpos (keywordEach [] X.env)).all (λx=>x.1.isSome) && decide ([e].length+([]:List Keyword).length+(if ([]:List Keyword).isEmpty then 0 else 1) < 30))=true:=by rfl)
  (hline:(apos.endLine == cpos.line)=true:=by rfl) (hs:starEach [e] X.env=(false,eval e X.env)::starEach [] X.env:=by rfl) (hpl:(backTo cpos (starEach [] X.env)).any (·.1)=false:=by rfl):
  EJ X (.Call (.Attribute o "append" apos) [e] [] cpos) (OL go ge):=
 ⟨PE.imp (IT PySem.F.plainAttrs_list PySem.F.slot_list_append PySem.F.type_list_append mV ho.h (nv he.h pN hs) hbase hfew hline hs hpl) fun σ H Q ⟨L,S,k,hL,hS,h,n⟩=>up.go hL hS h λd S1 v H1 h1 k1 hL1 hS1 i1=>by
  cases d with
  | ref a=>
   have e1:=aX.mp i1;subst e1;obtain⟨⟨ds1,z1⟩,h1⟩:=h1;obtain⟨xs1,hl1,_⟩:=hS1.lst z1;refine⟨.inl ⟨rfl,xs1,jD.of hl1⟩,up.go hL1 hS1 h1 λd2 S2 v2 H2 h2 k2 hL2 hS2 i2=>?_⟩
   obtain⟨ds,z,hz,w⟩:=h2;obtain⟨xs,hl,j⟩:=hS2.lst z;have k3:Kp H2 (bz H2 a (.lst (xs++[v2]))):=Kp.mut hl (λz=>z)
   exact⟨a,xs,v2,rfl,rfl,hl,by rw [<- j.length]; exact hz,n _ _ _ _ w (k1.trans (k2.trans k3)) (hS2.setL hl (j.append (IsDs.cons i2 IsDs.nil))) (cW.mpr rfl)⟩
  | _=>exact(show False from h1).elim⟩
def N_ (go ge:DE):DE:=λL S k=>go L S λd S1=>match d with
 | .ref a=>(∃ ds,S1 a=some (.lst ds))/\ge L S1 λe S2=>match e with
  | .ref b=>∃ ds es,S2 a=some (.lst ds)/\S2 b=some (.lst es)/\ds.length+es.length<=sizeLine/\k .non (put S2 a (.lst (ds++es)))
  | _=>False
 | _=>False
theorem Ks (ho:EJ X o go) (he:EJ X e ge) (hbase:attributeBase o "extend" X.env (eval o X.env)=eval o X.env:=by rfl)
  (hfew:((backTo cpos (starEach [e] X.env)).all (λx=>!x.1) && (backToKw cpos (keywordEach [] X.env)).all (λx=>x.1.isSome) && decide ([e].length+([]:List Keyword).length+(if ([]:List Keyword).isEmpty then 0 else 1) < 30))=true:=by rfl)
  (hline:(apos.endLine == cpos.line)=true:=by rfl) (hs:starEach [e] X.env=(false,eval e X.env)::starEach [] X.env:=by rfl) (hpl:(backTo cpos (starEach [] X.env)).any (·.1)=false:=by rfl):
  EJ X (.Call (.Attribute o "extend" apos) [e] [] cpos) (N_ go ge):=
 ⟨PE.imp (IT PySem.F.plainAttrs_list PySem.F.slot_list_extend PySem.F.type_list_extend BP ho.h (nv he.h pN hs) hbase hfew hline hs hpl) fun σ H Q ⟨L,S,k,hL,hS,h,n⟩=>up.go hL hS h λd S1 v H1 h1 k1 hL1 hS1 i1=>by
  cases d with
  | ref a=>
   have e1:=aX.mp i1;subst e1;obtain⟨⟨ds1,z1⟩,h1⟩:=h1;obtain⟨xs1,hl1,_⟩:=hS1.lst z1;refine⟨.inl ⟨rfl,xs1,jD.of hl1⟩,up.go hL1 hS1 h1 λd2 S2 v2 H2 h2 k2 hL2 hS2 i2=>?_⟩
   cases d2 with
   | ref b=>
    have e2:=aX.mp i2;subst e2;obtain⟨ds,es,z,y,hz,w⟩:=h2;obtain⟨xs,hl,j⟩:=hS2.lst z;obtain⟨ys,hm,i⟩:=hS2.lst y;have k3:Kp H2 (bz H2 a (.lst (xs++ys))):=Kp.mut hl (λz=>z)
    exact⟨a,b,xs,ys,rfl,rfl,hl,hm,by rw [<- j.length,<- i.length]; exact hz,n _ _ _ _ w (k1.trans (k2.trans k3)) (hS2.setL hl (j.append i)) (cW.mpr rfl)⟩
   | _=>exact(show False from h2).elim
  | _=>exact(show False from h1).elim⟩
end
theorem vg {K:Fg} {ok:DH->Prop} {gg:DG} {b:DS} {M:nH} {ds:List D} {L:Lo} {S:DH} {N:qR} {σ:L2.St} {H:Hp} {J:It} (hL:Lc K H L σ) (hS:Hs K H S) (h:ja ok gg b M ds L S) (r:Lr K H M N)
  (hgo:∀ i d S1 H1,ds[i]?=some d->Kp H H1->Hs K H1 S1->ok S1->J.go i H1/\∀ x H',J.yld i H1 x H'->Kp H1 H'/\Hs K H' S1/\bV K H' d x)
  (hst:∀ S1 H1,Kp H H1->Hs K H1 S1->ok S1->J.stop ds.length H1):
  ∃ W:Nat->Nat->L2.St->Hp->Prop,(∃ m,W 0 m σ H)/\∀ i m σ H,W i m σ H->
   (J.stop i H/\N.nx σ H)\/(J.go i H/\∃ N':L2.St->Hp->Prop,(∀ σ' H',N' σ' H'->∃ m',m' < m/\W (i+1) m' σ' H')/\∀ x H',J.yld i H x H'->A_ K gg x σ H' fun σ2 H2=>o_ K b {N with nx:=N',ct:=N',bk:=N.nx} σ2 H2):=by
 refine⟨λi m σ1 H1=>m=ds.length - i/\i<=ds.length/\∃ L1 S1,Lc K H1 L1 σ1/\Hs K H1 S1/\Kp H H1/\ja ok gg b M (ds.drop i) L1 S1,⟨ds.length,by simp,QW _,L,S,hL,hS,Kp.refl H,h⟩,?_⟩
 rintro i m σ1 H1 ⟨rfl,hi,L1,S1,hL1,hS1,k1,w1⟩
 by_cases hlt:i < ds.length
 ·have e:ds.drop i=ds[i]::ds.drop (i+1):=QS hlt;rw [e] at w1;obtain⟨o1,w1⟩:=w1;obtain⟨g1,y1⟩:=hgo i ds[i] S1 H1 (by simp [hlt]) k1 hS1 o1
  refine .inr ⟨g1,fun σ' H'=>i+1<=ds.length/\∃ L' S',Lc K H' L' σ'/\Hs K H' S'/\Kp H H'/\ja ok gg b M (ds.drop (i+1)) L' S',fun σ' H' ⟨q1,q2⟩=>⟨ds.length - (i+1),by omega,rfl,q1,q2⟩,λx H' y=>?_⟩
  obtain⟨k0,hS0,ix⟩:=y1 x H' y;have k10:=k1.trans k0;refine⟨ds[i],L1,S1,_,ix,hL1.kp k0,hS0,w1,λL2 S2 σ2 H2 q k2 hL2 hS2=>⟨L2,S2,_,hL2,hS2,q,?_⟩⟩
  have r2:=r.kp (k10.trans k2);exact⟨λL3 S3 σ3 H3 q3 k3 hL3 hS3=>⟨hlt,L3,S3,hL3,hS3,(k10.trans k2).trans k3,q3⟩,r2.rt,r2.nx,λL3 S3 σ3 H3 q3 k3 hL3 hS3=>⟨hlt,L3,S3,hL3,hS3,(k10.trans k2).trans k3,q3⟩⟩
 ·have e:i=ds.length:=by omega
  subst e;rw [List.drop_length] at w1;obtain⟨o1,w1⟩:=w1;exact .inl ⟨hst S1 H1 k1 hS1 o1,r.nx L1 S1 σ1 H1 w1 k1 hL1 hS1⟩
theorem JX {K:Fg} {H1:Hp} {q1 q2:List D×Option Addr} {a1 a2:Addr} {b1 b2:Bool} (y1:∀ S2 H2,Kp H1 H2->Hs K H2 S2->ir q1 S2->∃ xs,zu b1 K H2 a1 xs/\IsDs K H2 q1.1 xs) (y2:∀ S2 H2,Kp H1 H2->Hs K H2 S2->ir q2 S2->∃ xs,zu b2 K H2 a2 xs/\IsDs K H2 q2.1 xs):
  (∀ i d S2 H2,(Dz q1.1 q2.1)[i]?=some d->Kp H1 H2->Hs K H2 S2->(ir q1 S2/\ir q2 S2)->(M1 K b1 b2 a1 a2).go i H2/\∀ x H',(M1 K b1 b2 a1 a2).yld i H2 x H'->Kp H2 H'/\Hs K H' S2/\bV K H' d x)/\
  ∀ S2 H2,Kp H1 H2->Hs K H2 S2->(ir q1 S2/\ir q2 S2)->(M1 K b1 b2 a1 a2).stop (Dz q1.1 q2.1).length H2:=by
 refine⟨λi c S2 H2 e k2 hS2 o2=>?_,λS2 H2 k2 hS2 o2=>?_⟩
 ·obtain⟨xs,w1,u1⟩:=y1 S2 H2 k2 hS2 o2.1;obtain⟨ys,w2,u2⟩:=y2 S2 H2 k2 hS2 o2.2;obtain⟨c1,c2,f1,f2,rfl⟩:∃ c1 c2,q1.1[i]?=some c1/\q2.1[i]?=some c2/\D.tup [c1,c2]=c:=by
   unfold Dz at e;rw [List.getElem?_zipWith] at e;cases z1:q1.1[i]? with
   | none=>rw [z1] at e; cases e
   | some c1=>
    cases z2:q2.1[i]? with
    | none=>rw [z1,z2] at e; cases e
    | some c2=>rw [z1,z2] at e; exact⟨c1,c2,rfl,rfl,Qx e⟩
  obtain⟨v1,g1,r1⟩:=u1.get f1;obtain⟨v2,g2,r2⟩:=u2.get f2;refine⟨⟨xs,ys,v1,v2,w1,w2,g1,g2⟩,?_⟩;rintro x H' ⟨T,x',y',rfl,hT,rfl,al⟩;obtain⟨l1,l2⟩:=al xs ys w1 w2;rw [g1] at l1;rw [g2] at l2;cases l1;cases l2;have kn:Kp H2 (bz H2 T (.tup [v1,v2])):=Kp.new hT;exact⟨kn,hS2.new hT,cy.mpr ⟨T,[v1,v2],rfl,m9.of bu,IsDs.cons (r1.kp kn) (IsDs.cons (r2.kp kn) IsDs.nil)⟩⟩
 ·obtain⟨xs,w1,u1⟩:=y1 S2 H2 k2 hS2 o2.1;obtain⟨ys,w2,u2⟩:=y2 S2 H2 k2 hS2 o2.2;refine⟨xs,ys,w1,w2,?_⟩;rw [<- u1.length,<- u2.length];unfold Dz;rw [List.length_zipWith];omega
def Lu (ta:DA) (g:DG) (b:DS):DS:=λM L S=>ta L S λds S1=>match ds with
 | [d1,d2]=>∃ q1 q2,bj S1 d1=some q1/\bj S1 d2=some q2/\ja (λS=>ir q1 S/\ir q2 S) g b M (Dz q1.1 q2.1) L S1
 | _=>False
section
variable {X:Cx} {a b:Expr} {es:List Expr} {kt:Nat} {tp p pos pos':Pos} {gg:DG} {ta:DA} {g:DS} {body:List Stmt} {tg:Expr}
theorem B8 (hp:PassesOwn (model X.prog X.w) X.A X.env X.xe) (hc:X.calm=true) (hgl:Gl X "zip") (hm:X.mg "zip"=none) (ha:AJ X [a,b] ta) (hg:GJ X (.Tuple es kt tp) gg) (hb:Ad X body g)
  (hs1:starEach [a,b] X.env=[(false,eval a X.env),(false,eval b X.env)]:=by rfl) (hs2:starEach [b] X.env=[(false,eval b X.env)]:=by rfl) (hs:∀ x,foldedSetIterable (.Call (.Name "zip" p) [a,b] [] pos') X.env x=pure x:=by intro _; rfl):
  SJ X (.For (.Tuple es kt tp) (.Call (.Name "zip" p) [a,b] [] pos') body [] pos) (Lu ta gg g):=
 ⟨PS.imp (vD hp hc (Jd hgl hm ha.h hs1 hs2) hg.h hb.h hs) λN σ H ⟨L,S,M,hL,hS,h,r⟩=>qB.go hL hS h λds S1 vs H1 h1 k1 hL1 hS1 i1=>by
  split at h1
  ·rename_i d1 d2
   obtain⟨v1,v2,rfl,j1,j2⟩:=uP i1;obtain⟨q1,q2,e1,e2,h1⟩:=h1;obtain⟨a1,b1,rfl,x1,y1⟩:=FS hS1 j1 e1;obtain⟨a2,b2,rfl,x2,y2⟩:=FS hS1 j2 e2;obtain⟨z1,z2⟩:=JX y1 y2;exact⟨a1,a2,b1,b2,rfl,x1,x2,vg hL1 hS1 h1 (r.kp k1) z1 z2⟩
  ·exact h1.elim⟩
end
section
variable {X:Cx} {pos:Pos}
def LA (g:DE) (tl th:Lm):DE:=λL S k=>g L S λx S1=>tl L S1 λlo S2=>th L S2 λhi S3=>match x with
 | .tup xs=>¬ (HT.dL xs.length 0 lo=0/\HT.dL xs.length xs.length hi=xs.length)/\k (.tup (xa xs lo hi)) S3
 | .rl xs=>∀ p,S3 p=none->k (.ref p) (put S3 p (.lst (xa xs lo hi)))
 | .ref a=>∃ xs,S3 a=some (.lst xs)/\∀ p,S3 p=none->k (.ref p) (put S3 p (.lst (xa xs lo hi)))
 | _=>False
theorem eZ {e:Expr} {g:DE} {lo hi:Option Expr} {tl th:Lm} {p2 pos:Pos} (he:EJ X e g) (hl:OJ X lo tl) (hu:OJ X hi th):EJ X (.Subscript e (.Slice lo hi none p2) pos) (LA g tl th):=
 ⟨PE.imp (Dm (IC.or Kj Hj) he.h hl.h hu.h) fun σ H Q ⟨L,S,k,hL,hS,h,n⟩=>up.go hL hS h λd S1 v H1 h1 k1 hL1 hS1 i1=>by
  refine⟨L,S1,_,hL1,hS1,h1,λlo' S2 H2 h2 k2 hS2=>⟨L,S2,_,hL1.kp k2,hS2,h2,λhi' S3 H3 h3 k3 hS3=>?_⟩⟩
  cases d with
  | tup xs=>
   obtain⟨a,vs,rfl,t,j⟩:=cy.mp i1;have j3:=j.kp (k2.trans k3);refine .inl ⟨a,vs,rfl,(k2.trans k3).tup t,by rw [<- j.length]; exact h3.1,λp hp=>?_⟩
   have k4:Kp H3 (bz H3 p (.tup (tZ vs lo' hi'))):=Kp.new hp;refine n _ S3 _ _ h3.2 (k1.trans (k2.trans (k3.trans k4))) (hS3.new hp) (cy.mpr ⟨p,_,rfl,m9.of bu,?_⟩);unfold xa tZ;rw [j.length];exact((j3.drop _).take _).kp k4
  | rl xs=>
   obtain⟨a,vs,rfl,t,j⟩:=xN.mp i1;have j3:=j.kp (k2.trans k3);refine .inr ⟨a,vs,rfl,((k2.trans k3).fro t).sq,λp hp=>?_⟩
   refine n _ _ _ _ (h3 p (hS3.free hp)) (k1.trans (k2.trans (k3.trans (Kp.new hp)))) (hS3.newL hp ?_) (aX.mpr rfl);unfold xa tZ;rw [j.length];exact(j3.drop _).take _
  | ref a=>
   have e1:=aX.mp i1;subst e1;obtain⟨xs,z,h3⟩:=h3;obtain⟨vs,hl,j⟩:=hS3.lst z;refine .inr ⟨a,vs,rfl,jD.of hl,λp hp=>?_⟩
   refine n _ _ _ _ (h3 p (hS3.free hp)) (k1.trans (k2.trans (k3.trans (Kp.new hp)))) (hS3.newL hp ?_) (aX.mpr rfl);unfold xa tZ;rw [j.length];exact(j.drop _).take _
  | _=>exact(show False from h3).elim⟩
theorem zv {elt tg iter c:Expr} {scope:Scope} {cl:List (Str×Addr)} {N:List Str} {cap:List (Option Nat)} {gg:DG} {ge gi:DE} {gc:DT} (hc:X.calm=true) (Sc:hG X scope cl N cap) (hi:EJ X iter gi) (hg:∀ s0 H0 ex C,GJ (kc X scope cl N s0 H0 ex C) tg gg) (hcnd:∀ s0 H0 ex C,TJ (kc X scope cl N s0 H0 ex C) c gc) (he:∀ s0 H0 ex C,EJ (kc X scope cl N s0 H0 ex C) elt ge)
  (hs:∀ x,foldedSetIterable iter X.env x=pure x:=by intro _; rfl):EJ X (.ListComp elt [⟨tg,iter,[c],0⟩] scope pos) (Fy cap gi gg (tW gc ge)):=
 ⟨PE.imp (vm hc Sc (zd hi.h) (λs0 H0 ex C=>(hg s0 H0 ex C).h) (λs0 H0 ex C=>(hcnd s0 H0 ex C).h) (λs0 H0 ex C=>(he s0 H0 ex C).h) hs) fun σ H Q ⟨L,S,k,hL,hS,h,n⟩=>up.go hL hS h λd S1 v H1 h1 k1 hL1 hS1 i1=>by
  obtain⟨p,hp,h1⟩:=h1;obtain⟨a,e,q⟩:=zN hS1 i1 hp;refine⟨a,e,?_⟩;have n':∀ d S' v H',k d S'->Kp H1 H'->Hs X.K H' S'->bV X.K H' d v->Q v H':=λd S' v H' q k3=>n d S' v H' q (k1.trans k3)
  rcases q with ⟨q1,q2,q3⟩ | ⟨q1,q2,q3⟩
  ·exact .inl ⟨q1,λD hD=>qx (hL1.cap cap) hS1 hD (h1 D (hS1.free hD)) n' q2 q3⟩
  ·exact .inr ⟨q1,λD hD=>qx (hL1.cap cap) hS1 hD (h1 D (hS1.free hD)) n' q2 q3⟩⟩
theorem Fz {xs:List D} {lo hi:Option Int} {d:D} (h:d∈xa xs lo hi):d∈xs:=List.mem_of_mem_drop (List.mem_of_mem_take h)
theorem dH {ok:DH->Prop} {g:DG} {b:DS} {M:nH} (Iv:List D->Lo->DH->Prop) (hok:∀ r L S,Iv r L S->ok S)
  (hs:∀ d r L S N,Iv (d::r) L S->(∀ L' S',Iv r L' S'->N L' S')->g d L S λL1 S1=>b {M with nx:=N,ct:=N,bk:=M.nx} L1 S1) (hd:∀ L S,Iv [] L S->M.nx L S):∀ r L S,Iv r L S->ja ok g b M r L S
 | [],L,S,i=>⟨hok [] L S i,hd L S i⟩
 | d::r,L,S,i=>⟨hok _ L S i,hs d r L S _ i λL' S' i'=>dH Iv hok hs hd r L' S' i'⟩
end
end DL
namespace L2
open PySem PySem.Spec PyProof.Rows
section
variable {X:Cx} {elt tg iter c:Expr} {scope:Scope} {cl:List (Str×Addr)} {N:List Str} {cap:List (Option Nat)} {pos:Pos} {wi:TI} {g:TG} {te:TE} {tc:TT}
theorem yC (Sc:hG X scope cl N cap) {pins:List (Addr×Obj)} {σ σ3:St} {H2 H3:Hp} {s2 s4:Shared} {fp:List Addr} {h1':Heap} {C:Addr} (I2:ay X pins σ H2 s2) (f2:∀ b∈fp,qf X pins H2 b) {H1:Hp}
  (un3:Un (kS X.stack) fp H2 H1 s2.heap h1') (I4:ay (kc X scope cl N {s2 with heap:=h1'} H1 fp C) [] σ3 H3 s4) (hC:s2.heap.objs.size<=C) {x:Str} {pos':Pos} {i:Nat} {D:qR} {a:Addr} (pg:PG X (.Name x pos') (ve i)) (qn:D.nx (σ.set i (some (.ref a))) H3):
  wpAny (model X.prog X.w) X.A (assign (.Name x pos') X.env (.ref a)) (λ_ s''=>∃ m,s''.heap.Ns C m/\∀ h',Heap.SameBut C s''.heap h'->∃ σ' H',ay X pins σ' H' {s'' with heap:=h'}/\D.nx σ' H') X.xe s4:=by
 have J:ay X pins σ H3 s4:=rY Sc I2 f2 un3 I4 (h':=s4.heap) hC ⟨rfl,λ_ _=>rfl⟩
 obtain⟨m,⟨o,es,ep,ho,hd,hr⟩,_⟩:=I4.loc;have ltC:∀ b u,s2.heap.get? b=some u->b≠C:=λb u e=>P9 (Qb (P2 e) hC)
 have hL:C≠X.env.locals:=λz=>by
  have:=I2.lt;rw [<- z] at this;exact absurd (Qb this hC) (QX _)
 have hn:H3 C=none:=I4.free;have J':ay X ((C,o)::pins) σ H3 s4:=⟨J.ok,J.os,J.bare,J.base,J.loc,J.cell,J.free,J.freeC,λp hp=>by
  rcases List.mem_append.mp hp with hp | hp
  ·exact J.pin p (List.mem_append_left _ hp)
  ·rcases P8.mp hp with rfl | hp
   ·exact⟨ho,hn,hL,I2.nofs hC,λv z=>by rw [hd] at z; cases z⟩
   ·exact J.pin p (Qc _ hp),J.hok,J.len⟩
 refine b9 (pg _ s4 σ H3 (.ref a) (.ref a) (fun σ' H'=>σ'=σ.set i (some (.ref a))/\H'=H3) J' rfl ⟨rfl,rfl⟩) λ_ s5 h5=>?_
 obtain⟨_,_,I5,rfl,rfl⟩:=h5;have h6:=I5.pin (C,o) (Qc _ P_);refine⟨m,⟨o,es,ep,h6.1,hd,hr⟩,λh' sb=>⟨_,_,?_,qn⟩⟩
 have I6:ay X pins (σ.set i (some (.ref a))) _ s5:=⟨I5.ok,I5.os,I5.bare,I5.base,I5.loc,I5.cell,I5.free,I5.freeC,λp hp=>I5.pin p (by
  rcases List.mem_append.mp hp with hp | hp
  ·exact List.mem_append_left _ hp
  ·exact Qc _ (Qa _ hp)),I5.hok,I5.len⟩
 exact I6.turned (t':=s5.toks) (it:=C) (λb u hb e=>(sb.2 b hb).trans e) hn hL (.inr (QH I2.sz hC)) (λy c e=>by
  obtain⟨v,u,q,_⟩:=I2.cell y c e;exact ltC c u q) (λp hp=>ltC p.1 p.2 (I2.pin p hp).1)
theorem Ev {x:Str} {i:Nat} {pos' spos:Pos} (hN:X.N.Nodup) (hi':X.N[i]?=some x) (hx':X.env.scope.names.lookup x=some .local) (hsw:swapsWith (.ListComp elt [⟨tg,iter,[],0⟩] scope pos) (some (.Name x pos')) spos.line X.env=pure true) (hc:X.calm=true) (Sc:hG X scope cl N cap) (hi:PI X tg iter wi) (hg:∀ s0 H0 ex C,PG (kc X scope cl N s0 H0 ex C) tg g) (he:∀ s0 H0 ex C,PE (kc X scope cl N s0 H0 ex C) elt te)
  (hs:∀ x,foldedSetIterable iter X.env x=pure x:=by intro _; rfl):PS X (.Assign [.Name x pos'] (.ListComp elt [⟨tg,iter,[],0⟩] scope pos) spos) (GT (CL cap wi g te) (ve i)):=by
 intro pins s σ H D I h;have pg:PG X (.Name x pos') (ve i):=Ax hN hi' (.inl hx') (.inr hx');rw [exec_Assign_Name_used _ _ _ _ hsw];refine gt (wpAny_standAt (gt ?_))
 show wpAny _ _ (evalThenUse _ X.env _) _ _ _
 unfold evalThenUse;have Q:=λv H1=>D.nx (σ.set i (some v)) H1
 refine gt (QE (Q:=λ_ s'=>∃ σ' H',ay X pins σ' H' s'/\D.nx σ' H') ?_ (λv s' q=>PZ (PZ q)) λ_ _ q=>q)
 have hcell:∀ y∈scope.names,y.2≠.cell:=λy hy=>by simpa using QZ.mp Sc.nocell y hy
 have hnames:∀ y∈scope.names,y.2=.local->scope.names.lookup y.1=some .local:=λy hy e=>by
  have:=QZ.mp Sc.names y hy;rw [e] at this
  simpa using this
 refine wpAny_comprehension_free (use:=some (assign (.Name x pos') X.env)) rfl hs Sc.clos Sc.kind hnames (b9 (hi pins s σ H _ I h) λv s1 h1=>b9 h1 λitv s2 h2=>?_)
 obtain⟨it,fp,tn,J,H2,e,I2,T,st2,f2,hW⟩:=h2;subst e;refine Qs (wpAny_newFunctionEnv hcell (by intro y hy; simp at hy) (λh1 hns hsb=>?_) Sc.kind)
 obtain⟨W,⟨m0,w0⟩,turn⟩:=hW s2.heap.objs.size I2.fresh;dsimp only at hns hsb ⊢
 generalize hD:s2.heap.push {cls:=.type "list",dict:=none,data:=.seq ([]:List Value).toArray}=h1' at hns hsb ⊢
 obtain⟨I3,un3⟩:=rZ (tk:=s2.toks+([]:List (Str×Value)).length) Sc I2 f2 (λb hb=>let ⟨o,e,_⟩:=T.obj 0 _ st2 b hb; ⟨o,e⟩) hD hns hsb
 have hC:s2.heap.objs.size<=h1'.objs.size:=by rw [<- hD,QY]; exact Nat.le_succ _
 have k1:∀ b o,s2.heap.get? b=some o->h1.get? b=some o:=λb o e=>by
  have e1:h1'.get? b=some o:=by rw [<- hD]; exact pp _ e
  exact(hsb.2 b (P9 (P2 e1))).trans (pp _ e1)
 have st3:tn 0 h1:=T.keep 0 _ _ st2 λb _ o e=>k1 b o e
 have fr3:∀ b∈fp,(bz H2 s2.heap.objs.size (.lst [])) b=none:=λb hb=>by
  obtain⟨o,e,_⟩:=T.obj 0 _ st2 b hb;rw [aK (P9 (P2 e))];exact(f2 b hb).1
 have loop:∀ s3:Shared,s3={s2 with heap:=h1,toks:=s2.toks+([]:List (Str×Value)).length}->
   codeAny (model X.prog X.w) X.A (.compLoop (.ListComp elt [⟨tg,iter,[],0⟩] scope pos) 0 (.ref it) (.ref s2.heap.objs.size) (compEnvC scope cl h1'.objs.size X.env))
    (compPost (model X.prog X.w) X.A X.xe (some (assign (.Name x pos') X.env)) (λ_ s'=>∃ σ' H',ay X pins σ' H' s'/\D.nx σ' H') (.ref s2.heap.objs.size) h1'.objs.size) s3:=by
  rintro s3 rfl;refine oV (λn s'=>∃ i σ' H',ay (kc X scope cl N {s2 with heap:=h1'} (bz H2 s2.heap.objs.size (.lst [])) fp h1'.objs.size) [] σ' H' s'/\tn i s'.heap/\(∀ b∈fp,H' b=none)/\W i n σ' H') ?_ m0 ⟨0,_,_,I3,st3,fr3,w0⟩
  rintro n s3 ⟨i,σ3,H3,I3,st3,fr3,w3⟩;rcases turn i n σ3 H3 w3 with ⟨stop,qn⟩ | ⟨go,Nn,hN,step⟩
  ·refine b9 (T.done (kc X scope cl N {s2 with heap:=h1'} (bz H2 s2.heap.objs.size (.lst [])) fp h1'.objs.size) rfl rfl rfl hc i [] s3 σ3 H3 qz I3 (iz I3 fr3) st3 stop) λr s4 ⟨hr,I4⟩=>?_
   subst hr;exact yC Sc I2 f2 un3 I4 hC pg qn
  ·refine b9 (T.item (kc X scope cl N {s2 with heap:=h1'} (bz H2 s2.heap.objs.size (.lst [])) fp h1'.objs.size) rfl rfl rfl hc i [] s3 σ3 H3 qz I3 (iz I3 fr3) st3 go) λr s4 ⟨u,hr,h4⟩=>?_
   subst hr;refine b9 h4 λ_ s5 ⟨x,H5,I5,r5,y5,st5,fr5⟩=>?_
   have I5':=I5.pinned (iz I5 fr5) (T.obj _ _ st5);refine b9 (hg _ _ _ _ _ s5 σ3 H5 x u _ I5' r5 (step x H5 y5)) λ_ s6 ⟨σ6,H6,I6,q6⟩=>?_
   refine b9 (he _ _ _ _ _ s6 σ6 H6 _ I6 q6) λuv s7 ⟨v,H7,I7,r7,ys,hy,hl,q7⟩=>?_
   refine b9 (mV (X:=kc X scope cl N {s2 with heap:=h1'} (bz H2 s2.heap.objs.size (.lst [])) fp h1'.objs.size) _ s7 σ6 H7 (.ref s2.heap.objs.size) [v] (.ref s2.heap.objs.size) [uv] (λ_ H8=>Nn σ6 H8) I7 rfl (.cons r7 .nil) ⟨_,ys,v,rfl,rfl,hy,hl,q7⟩) λ_ s8 ⟨_,H8,I8,_,n8⟩=>?_
   obtain⟨m',hm,w8⟩:=hN σ6 H8 n8;refine⟨m',hm,i+1,σ6,H8,I8.unpinned,T.keep _ _ _ st5 λb hb o e=>(I8.pin (b,o) (Qc _ (Qc _ (dO hb e)))).1,λb hb=>?_,w8⟩
   obtain⟨o,e,d⟩:=T.obj _ _ st5 b hb;exact(I8.pin (b,o) (Qc _ (Qc _ (dO hb e)))).2.1
 exact codeAny_compStart_list (loop _ rfl) (T.self _ 0 _ _ _ st3 (loop _ rfl))
end
end L2
namespace DL
open PySem PySem.Spec PyProof.Rows L2
theorem NT {K:Fg} {ge:DE} {tc:TE} {i:Nat} (f:∀ σ H Q,up K ge σ H Q->tc σ H Q):∀ N σ H,o_ K (EO i ge) N σ H->GT tc (ve i) N σ H:=λN σ H ⟨L,S,M,hL,hS,h,r⟩=>
 f σ H _ (up.go hL hS h λd S1 v H1 h1 k1 hL1 hS1 i1=>r.nx _ S1 _ H1 h1 k1 (hL1.set i1 i) hS1)
section
variable {X:Cx} {pos pos' p:Pos} {elt tg a b c:Expr} {scope:Scope} {cl:List (Str×Addr)} {N:List Str} {cap:List (Option Nat)} {gg:DG} {ge gi:DE} {gc:DT} {ta:DA}
theorem xD {xv:Str} {iv:Nat} {pv sv:Pos} (hNv:X.N.Nodup) (hc:X.calm=true) (Sc:hG X scope cl N cap) (hgl:Gl X "range") (hm:X.mg "range"=none) (ha:AJ X [a] ta) (hg:∀ s0 H0 ex C,GJ (kc X scope cl N s0 H0 ex C) tg gg) (he:∀ s0 H0 ex C,EJ (kc X scope cl N s0 H0 ex C) elt ge)
  (hs1:starEach [a] X.env=[(false,eval a X.env)]:=by exact bN rfl) (hs:∀ x,foldedSetIterable (.Call (.Name "range" p) [a] [] pos') X.env x=pure x:=by intro _; rfl) (hiv:X.N[iv]?=some xv:=by rfl) (hxv:X.env.scope.names.lookup xv=some .local:=by rfl) (hswv:swapsWith (.ListComp elt [⟨tg,.Call (.Name "range" p) [a] [] pos',[],0⟩] scope pos) (some (.Name xv pv)) sv.line X.env=pure true:=by rfl):SJ X (.Assign [.Name xv pv] (.ListComp elt [⟨tg,.Call (.Name "range" p) [a] [] pos',[],0⟩] scope pos) sv) (EO iv (Jb cap ta gg (jR ge))):=
 ⟨PS.imp (Ev hNv hiv hxv hswv hc Sc (u_ hgl hm ha.h hs1) (λs0 H0 ex C=>(hg s0 H0 ex C).h) (λs0 H0 ex C=>(he s0 H0 ex C).h) hs) (NT (fun σ H Q ⟨L,S,k,hL,hS,h,n⟩=>qB.go hL hS h λds S1 vs H1 h1 k1 hL1 hS1 i1=>by
  split at h1
  ·obtain⟨v,rfl,j⟩:=k_ i1;have e:=isInt.mp j;subst e;obtain⟨⟨h2,h3⟩,h1⟩:=h1;refine⟨_,rfl,h2,h3,λD hD=>qi (hL1.cap cap) hS1 hD (h1 D (hS1.free hD)) (λd S' v H' q k3=>n d S' v H' q (k1.trans k3)) CU λS2 H2 k2 hS2 _=>?_⟩
   rw [P5,List.length_range];exact P3 _
  ·exact h1.elim))⟩
end
end DL
namespace L2
open PySem PySem.Spec PyProof.Rows
def lh (P:Program) (w:World):Fv:=λouter H s E e s'=>∃ (ea:Addr) (cls a0:Value) (H':Hp) (B:Heap),e=.ref ea/\s'.os=s.os/\AllBare s'.gens/\Heap.FlyingW B outer ea cls a0 s'.heap/\mQ P w H' B/\
 (∀ b o,s.heap.get? b=some o->H b=none->b∉kS outer->B.get? b=some o)/\(∀ b o,s.heap.get? b=some o->b∉kS outer->∃ o',B.get? b=some o')/\Un (kS outer) [] H H' s.heap s'.heap/\E cls none H'
section
variable {P:Program} {w:World} {K:PySem.W.Frag} {mg:Str->Option Value} {base:Heap} {N:List Str} {qual:Str} {scope:Scope} {f:Addr} {cd:Value} {A:Around} {outer:List Env} {s0:Shared} {H0:Hp} {E:XK}
theorem Dw {pins:List (Addr×Obj)} {σ:St} {H H':Hp} {s:Shared} {sx:Shared} {B h':Heap} {ea:Addr} {cls a0:Value} (I:ay (fu (lh P w) P w K mg base N qual scope f cd A outer s0 H0 E) pins σ H s) (os:sx.os=s.os) (bare:AllBare sx.gens)
  (fl:Heap.FlyingW B outer ea cls a0 h') (hok:mQ P w H' B) (hB:∀ b o,s.heap.get? b=some o->H b=none->b∉kS (fu (lh P w) P w K mg base N qual scope f cd A outer s0 H0 E).stack->B.get? b=some o)
  (hB2:∀ b o,s.heap.get? b=some o->b∉kS (fu (lh P w) P w K mg base N qual scope f cd A outer s0 H0 E).stack->∃ o',B.get? b=some o')
  (hsl:∀ b∈kS outer,∀ o,s.heap.get? b=some o->∃ sl,h'.get? b=some {o with slots:=sl}) (fr:∀ b o,s.heap.get? b=some o->H b=none->H' b=none) (tu:∀ b xs,H b=some (.tup xs)->H' b=some (.tup xs)) (fz:∀ b o u,H b=some (.frz o u)->H' b=some (.frz o u))
  (tb:∀ b ps,H b=some (.tbl ps)->∃ more,H' b=some (.tbl (ps++more))) (q:E cls none H'):lh P w outer H0 s0 E (.ref ea) {sx with heap:=h'}:=by
 have nst:∀ b o,s0.heap.get? b=some o->b∉kS outer->b∉kS (fu (lh P w) P w K mg base N qual scope f cd A outer s0 H0 E).stack:=λb o e hb z=>by
  rcases P8.mp (I.stkSub b z) with z | z
  ·have:=P2 e;have ab:=I.ok.above;rw [z] at this;exact absurd (Qb this ab) (QX _)
  ·exact hb z
 have hkeep:∀ b o,s0.heap.get? b=some o->H0 b=none->b∉kS outer->B.get? b=some o:=λb o e n hb=>
  hB b o (I.base.keep b o e n hb (λz=>nomatch z)) (I.base.free b o e n (λz=>nomatch z)) (nst b o e hb)
 have hthere:∀ b o,s0.heap.get? b=some o->b∉kS outer->∃ o',B.get? b=some o':=λb o e hb=>by
  obtain⟨o',e1⟩:=I.base.there b o e (λz=>nomatch z)
  exact hB2 b o' e1 (nst b o e hb)
 refine⟨ea,cls,a0,H',B,rfl,os.trans I.os,bare,fl,hok,hkeep,hthere,⟨λb o e n hb _=>fl.1 _ _ (hkeep b o e n hb),λb o e n hb _=>?_,λb o e n _=>?_,λb o e _=>?_,λb xs e=>tu _ _ (I.base.tups b xs e),λb o u e=>fz _ _ _ (I.base.frzs b o u e),λb ps e=>?_⟩,q⟩
 ·obtain⟨sl,e1⟩:=I.base.slot b o e n hb (λz=>nomatch z)
  obtain⟨sl',e2⟩:=hsl b hb _ e1;exact⟨sl',e2⟩
 ·obtain⟨o',e1⟩:=I.base.there b o e (λz=>nomatch z)
  exact fr b o' e1 (I.base.free b o e n (λz=>nomatch z))
 ·by_cases hb:b∈kS outer
  ·obtain⟨o',e1⟩:=I.base.there b o e (λz=>nomatch z)
   obtain⟨sl',e2⟩:=hsl b hb _ e1;exact⟨_,e2⟩
  ·obtain⟨o',e1⟩:=hthere b o e hb;exact⟨o',fl.1 _ _ e1⟩
 ·obtain⟨m1,e1⟩:=I.base.tbls b ps e;obtain⟨m2,e2⟩:=tb b _ e1;exact⟨m1++m2,by rw [e2,Array.append_assoc]⟩
theorem F':wv (lh P w) (fu (lh P w) P w K mg base N qual scope f cd A outer s0 H0 E) E:=by
 intro pins σ H s e s' I h;obtain⟨ea,cls,a0,H',B,rfl,os,bare,fl,hok,hB,hB2,un,q⟩:=h
 show wpAny _ _ (leaving _ (.ref ea)) _ _ s'
 refine wpAny_leaves_onW I.ok.frames rfl fl λh' fl' up=>?_
 refine Dw (sx:=s') I os bare fl' hok hB hB2 (λb hb o e=>?_) (λb o e n=>un.free b o e n (λz=>nomatch z)) un.tups un.frzs un.tbls q
 have hb':b∈kS (fu (lh P w) P w K mg base N qual scope f cd A outer s0 H0 E).stack:=Qa _ hb;have hn:=I.stkFree b hb';obtain⟨sl,e1⟩:=un.slot b o e hn hb' (λz=>nomatch z)
 obtain⟨_,o2,e2,d2⟩:=fl.2.2.1.mem hb';rw [e1] at e2;cases e2;obtain⟨sl',e3⟩:=up b _ e1 d2;exact⟨sl',e3⟩
end
theorem HZ {K:PySem.W.Frag} {C:Addr} {bmB:List Value} {newId:String} {h:Heap} {x:Str} {mg:Str->Option Value} (X:K.In h) (q:PySem.W.excIn K C bmB newId=true) (hm:mg x=some (.ref C)):OwnCls x C bmB newId mg h:=by
 refine⟨hm,?_⟩;unfold PySem.W.excIn at q
 split at q
 ·rename_i d1 c1 sl hlk
  split at q
  ·rename_i C1 bm a0 a1 a2 a3 nn a5 hmro hsl
   simp only [QI,beq_iff_eq,Bool.not_eq_true'] at q;obtain⟨⟨⟨⟨⟨q1,q2⟩,q3⟩,q4⟩,q5⟩,q6⟩:=q;subst q1 q2;obtain⟨v1,v2,v3,v4,v5,v6,v7,v8,v9,v10,v11⟩:=c1;dsimp only at hmro q3 q5 q6
   subst hmro q3;obtain⟨l⟩:=sl;simp only at hsl;subst hsl;exact⟨bm,v4,v1,v5,v2,v6,v7,v8,v9,v10,d1,a0,a1,a2,a3,a5,_,X _ _ hlk,.of_isNs (PySem.W.isNs_of_in X q5),PySem.W.nsMap_none_of_in X q5 q6,PySem.W.tail_of_in X q4⟩
  ·cases q
 ·cases q
section
variable {P:Program} {w:World} {K:PySem.W.Frag} {mg:Str->Option Value} {base:Heap} {N:List Str} {qual:Str} {scope:Scope} {f:Addr} {cd:Value} {A:Around} {outer:List Env} {s0:Shared} {H0:Hp} {E:XK}
theorem CM {x t:Str} {C:Addr} {bmB:List Value} {Bn newId initId:String} {j:Nat} {p np cpos pos:Pos} (FB:ExcBaseFacts Bn newId initId bmB) (q:PySem.W.excIn K C bmB newId=true) (hm:mg x=some (.ref C))
  (hg:Gl (fu (lh P w) P w K mg base N qual scope f cd A outer s0 H0 E) x) (hd:(x == ("__debug__":Str))=false:=by decide):
  PS (fu (lh P w) P w K mg base N qual scope f cd A outer s0 H0 E) (.Raise (some (.Call (.Name x np) [.Constant (.str t) j p] [] cpos)) none pos) (λ_ _ H=>E (.ref C) none H):=by
 intro pins s σ H D I h;obtain⟨tl,Nn,nm,qn,bs,hdct,sn,sub,ab,col,dd,k0,k1,k2,k3,k5,mN,hC,hN,hni,T⟩:=(HZ (x:=x) I.kIn q hm).obj;refine wpAny_Raise_call_subT (C:=C) (nm:=nm) (q:=qn) (N:=Nn) (bs:=bs) (bm:=tl) (hdct:=hdct) (sn:=sn) (sub:=sub) (ab:=ab) (col:=col) (dd:=dd) (k0:=k0) (k1:=k1) (k2:=k2) (k3:=k3) (k5:=k5)
  FB (mN:=mN) (T.hasType FB.hasBase) (I.ok.hd rfl) rfl hni (pc I hg hm ⟨rfl,?_⟩ hd)
 refine Calls.evalArgs_plain (Calls.spliced_cons (Calls.Constant_str (k:=j) (pos:=p) (Calls.spliced_nil ⟨rfl,Qi rfl,hC,hN,T,λh' e hx=>?_⟩)))
 show wpAny _ _ (leaving _ (.ref e)) _ _ _
 have I1:=I.tok (s.toks+1);have hin:∀ env∈(fu (lh P w) P w K mg base N qual scope f cd A outer s0 H0 E).stack,∀ b,env.frame=some b->b∈kS (fu (lh P w) P w K mg base N qual scope f cd A outer s0 H0 E).stack:=λenv he b hb=>List.mem_filterMap.mpr ⟨env,he,hb⟩
 refine wpAny_leaves_madeW (base:=PySem.W.hideAll s.heap (kS (fu (lh P w) P w K mg base N qual scope f cd A outer s0 H0 E).stack)) I.ok.frames rfl (λb o z=>PySem.W.of_hideAll _ z) (PySem.W.funFrames_hide I.stack hin) hx λh2 t2 fl _ _ up=>?_
 refine Dw (sx:={s with heap:=h',toks:=s.toks+1}) I rfl I.bare fl (λb ob z=>?_) (λb o z _ hb=>PySem.W.hideAll_get _ z hb) (λb o z hb=>⟨o,PySem.W.hideAll_get _ z hb⟩) (λb hb o z=>?_) (λ_ _ _ n=>n) (λ_ _ z=>z) (λ_ _ _ z=>z) (λb ps z=>⟨#[],by rw [z]; simp⟩) h
 ·refine(I.hok b ob z).stay (λc v hc y=>PySem.W.hideAll_get _ y λhf=>?_) (λ_ y=>y) λ_ _ y=>y
  have hn:=I.stkFree c hf;rcases hc with rfl | hc
  ·rw [hn] at z; cases z
  ·rw [hn] at hc; cases hc
 ·obtain⟨_,o2,e2,d2⟩:=I.stack.mem (Qa _ hb);rw [z] at e2;cases e2;exact up b o (hx.keeps _ _ z) d2
end
section
variable {X:Cx} {pins:List (Addr×Obj)} {σ:St} {H H':Hp} {s s':Shared} {E:XK}
theorem ay.landed {B h5:Heap} {ea:Addr} {cls a0:Value} (I:ay X pins σ H s) (os:s'.os=s.os) (bare:AllBare s'.gens) (fl:Heap.FlyingW B X.stack ea cls a0 s'.heap) (fl5:Heap.FlyingW B X.stack ea cls a0 h5) (up:s'.heap.UpToSlots h5) (hok:mQ X.prog X.w H' B)
  (hB:∀ b o,s.heap.get? b=some o->H b=none->b∉kS X.stack->B.get? b=some o) (hB2:∀ b o,s.heap.get? b=some o->b∉kS X.stack->∃ o',B.get? b=some o') (un:Un (kS X.stack) [] H H' s.heap s'.heap):
  ay X pins σ H' {s' with heap:=h5}:=by
 have fsl:∀ b∈kS X.stack,∀ o,s.heap.get? b=some o->∃ sl,h5.get? b=some {o with slots:=sl}:=λb hb o e=>by
  obtain⟨sl,e1⟩:=un.slot b o e (I.stkFree b hb) hb (λz=>nomatch z)
  obtain⟨_,o2,e2,d2⟩:=fl.2.2.1.mem hb;rw [e1] at e2;cases e2;obtain⟨sl',e3⟩:=up b _ e1 d2;exact⟨sl',e3⟩
 refine I.call' (s':={s' with heap:=h5}) (ch:=[]) os ⟨λb o e n hb _=>fl5.1 _ _ (hB b o e n hb),λb o e n hb _=>fsl b hb o e,un.free,λb o e _=>?_,un.tups,un.frzs,un.tbls⟩ (hok.kept fl5.1) bare λb z=>nomatch z
 by_cases hb:b∈kS X.stack
 ·obtain⟨sl,e1⟩:=fsl b hb o e;exact⟨_,e1⟩
 ·obtain⟨o',e1⟩:=hB2 b o e hb;exact⟨o',fl5.1 _ _ e1⟩
theorem ay.freeze {a:Addr} {o:Obj} (I:ay X pins σ H s) (e:s.heap.get? a=some o) (hn:H a=none) (h0:X.s₀.heap.get? a=none) (hL:a≠X.env.locals) (hc:∀ x c,X.env.cells.lookup x=some c->c≠a) (hp:∀ p∈X.pn++pins,p.1≠a):
  ay X pins σ (bz H a (.frz o (.ext λ_=>True))) s:=by
 have ne:∀ b u,X.s₀.heap.get? b=some u->b≠a:=λb u z y=>by rw [y,h0] at z; cases z
 refine⟨I.ok,I.os,I.bare,⟨I.base.keep,I.base.slot,λb u z n x=>?_,I.base.there,λb xs z=>?_,λb u v z=>?_,λb ps z=>?_⟩,I.loc,I.cell,?_,λx c z=>?_,λp z=>?_,λb u z=>?_,I.len⟩
 ·rw [aK (ne b u z)]; exact I.base.free b u z n x
 ·have q:=I.base.tups b xs z;rw [aK (bf q hn)]; exact q
 ·have q:=I.base.frzs b u v z;rw [aK (bf q hn)]; exact q
 ·obtain⟨m,q⟩:=I.base.tbls b ps z;exact⟨m,by rw [aK (bf q hn)]; exact q⟩
 ·rw [aK (Ne.symm hL)]; exact I.free
 ·rw [aK (hc x c z)]; exact I.freeC x c z
 ·obtain⟨q1,q2,q3⟩:=I.pin p z;exact⟨q1,by rw [aK (hp p z)]; exact q2,q3⟩
 ·by_cases hb:b=a
  ·subst hb;rw [bu] at z;cases z;exact⟨e,trivial,⟨o,e⟩,λ_ _ _ _=>trivial⟩
  ·rw [aK hb] at z;exact(I.hok b u z).stay (λ_ _ _ q=>q) (λc q=>by rw [aK (bf q hn)]; exact q) λc xs q=>by rw [aK (bf q hn)]; exact q
abbrev Cx.marked (X:Cx) (v:Value) (W:Value->Shared->Prop):Cx:={X with A:=X.A.mark (some v),calm:=false,xe:=W}
theorem ay.marked (I:ay X pins σ H s) (v:Value) (W:Value->Shared->Prop):ay (X.marked v W) pins σ H s:=
 ⟨⟨I.ok.mod,I.ok.kind,I.ok.glob,I.ok.blt,I.ok.above,I.ok.inj,I.ok.has,I.ok.cab,λz=>(by cases z),I.ok.frames,I.ok.stk,I.ok.exf,I.ok.bs,I.ok.bsz,I.ok.noex,I.ok.exfs,I.ok.funs,I.ok.frf⟩,I.os,I.bare,I.base,I.loc,I.cell,I.free,I.freeC,I.pin,I.hok,I.len⟩
theorem ay.unmarked {v:Value} {W:Value->Shared->Prop} (I:ay (X.marked v W) pins σ H s) (hd:X.calm=true->X.A.handled=none):ay X pins σ H s:=
 ⟨⟨I.ok.mod,I.ok.kind,I.ok.glob,I.ok.blt,I.ok.above,I.ok.inj,I.ok.has,I.ok.cab,hd,I.ok.frames,I.ok.stk,I.ok.exf,I.ok.bs,I.ok.bsz,I.ok.noex,I.ok.exfs,I.ok.funs,I.ok.frf⟩,I.os,I.bare,I.base,I.loc,I.cell,I.free,I.freeC,I.pin,I.hok,I.len⟩
end
theorem dc.there {P:Program} {w:World} {H:Hp} {h:Heap} {a:Addr} {o:HO} (x:dc P w H h a o):∃ ob,h.get? a=some ob:=by
 cases o with
 | lst xs=>obtain⟨_,_,_,_,e⟩:=x; exact⟨_,e⟩
 | tup xs=>obtain⟨_,_,_,ob,e,_⟩:=x; exact⟨_,e⟩
 | dK kvs=>obtain⟨_,_,_,_,o,_,_,e,_⟩:=x; exact⟨_,e⟩
 | dT kvs=>obtain⟨_,_,_,_,o,_,_,e,_⟩:=x; exact⟨_,e⟩
 | set S n=>obtain⟨o,_,_,_,e,_⟩:=x; exact⟨_,e⟩
 | ins C dx fs=>obtain⟨_,_,_,e,_⟩:=x; exact⟨_,e⟩
 | own y=>obtain⟨_,e⟩:=x; exact⟨_,e⟩
 | xd fs=>obtain⟨_,⟨_,_,_,e,_⟩,_⟩:=x; exact⟨_,e⟩
 | rng lo hi=>obtain⟨_,_,_,e⟩:=x; exact⟨_,e⟩
 | frz ob u=>obtain⟨e,_⟩:=x; exact⟨_,e⟩
 | tbl ps=>exact⟨_,(show h.get? a=some _ from x)⟩
 | met f y=>exact⟨_,(show h.get? a=some _ from x)⟩
 | ext φ=>obtain⟨_,e,_⟩:=x; exact e
end L2
namespace DL
open PySem PySem.Spec PyProof.Rows L2
abbrev re:=List D->DH->DK->(Addr->DH->Prop)->Prop
def Ht (K:Fg) (F:re):Sp:=λvs H Q E=>∃ ds S k x,IsDs K H ds vs/\Hs K H S/\F ds S k x/\(∀ d' S' v H',k d' S'->Kp H H'->Hs K H' S'->bV K H' d' v->Q v H')/\∀ C S' H',x C S'->Hs K H' S'->E (.ref C) none H'
structure ui (P:Program) (w:World) (K:Fg) (mg:Str->Option Value) (base:Heap) (x:Str) (n:Nat) (F:re):Prop where
 ex:∃ f fd ps,aI P w K mg base (lh P w) n f fd ps (Ht K F)/\mg x=some (.ref f)/\PySem.W.keepIn K (.ref f)=true/\nP K fd ps []
section
variable {P:Program} {w:World} {K:Fg} {mg:Str->Option Value} {base:Heap} {N:List Str} {qual:Str} {scope:Scope} {f:Addr} {cd:Value} {A:Around} {outer:List Env} {s0:Shared} {H0:Hp} {E:XK} {ex:Addr->DH->Prop}
theorem sF {x t:Str} {C:Addr} {bmB:List Value} {Bn newId initId:String} {j:Nat} {p np cpos pos:Pos} (hE:∀ C S' H',ex C S'->Hs K H' S'->E (.ref C) none H') (FB:ExcBaseFacts Bn newId initId bmB) (q:PySem.W.excIn K C bmB newId=true) (hm:mg x=some (.ref C))
  (hg:Gl (fu (lh P w) P w K mg base N qual scope f cd A outer s0 H0 E) x) (hd:(x == ("__debug__":Str))=false:=by decide):
  SJ (fu (lh P w) P w K mg base N qual scope f cd A outer s0 H0 E) (.Raise (some (.Call (.Name x np) [.Constant (.str t) j p] [] cpos)) none pos) (λ_ _ S=>ex C S):=
 ⟨PS.imp (CM FB q hm hg hd) λ_ _ H ⟨_,S,_,_,hS,h,_⟩=>hE C S H h hS⟩
def Db (F:re) (ex:Addr->DH->Prop) (t:DA):DE:=λL S k=>t L S λds S1=>F ds S1 k ex
theorem tx {x:Str} {n:Nat} {F:re} {e:Expr} {es:List Expr} {t:DA} {p pos:Pos} (hE:∀ C S' H',ex C S'->Hs K H' S'->E (.ref C) none H') (c:ui P w K mg base x n F) (hr:ce n (fu (lh P w) P w K mg base N qual scope f cd A outer s0 H0 E).A)
  (hg:Gl (fu (lh P w) P w K mg base N qual scope f cd A outer s0 H0 E) x) (ha:AJ (fu (lh P w) P w K mg base N qual scope f cd A outer s0 H0 E) (e::es) t) (hdb:(x == ("__debug__":Str))=false:=by decide)
  (he:starEach (e::es) (fu (lh P w) P w K mg base N qual scope f cd A outer s0 H0 E).env=(false,eval e (fu (lh P w) P w K mg base N qual scope f cd A outer s0 H0 E).env)::starEach es (fu (lh P w) P w K mg base N qual scope f cd A outer s0 H0 E).env:=by exact bN rfl)
  (hpl:(backTo pos (starEach es (fu (lh P w) P w K mg base N qual scope f cd A outer s0 H0 E).env)).any (·.1)=false:=by exact dz rfl):
  EJ (fu (lh P w) P w K mg base N qual scope f cd A outer s0 H0 E) (.Call (.Name x p) (e::es) [] pos) (Db F ex t):=by
 obtain⟨g,fd,ps,F1,h1,h2,h3⟩:=c.ex;refine⟨PE.imp (z_ F1 hr hg h1 h2 h3 .nil F' ha.h hdb he hpl) fun σ H Q ⟨L,S,k,hL,hS,h,n⟩=>?_⟩
 refine qB.go hL hS h λds S1 vs H1 h1 k1 hL1 hS1 i1=>?_
 show Ht K F (vs++[]) H1 Q E
 rw [Qn];exact⟨ds,S1,k,ex,i1,hS1,h1,λd' S' v H' q k3 z1 z2=>n d' S' v H' q (k1.trans k3) z1 z2,hE⟩
theorem _root_.L2.bL.okX {x qual:Str} {st:Stmt} {f:Addr} {fd:FuncData} {N ps:List Str} {k:Nat} {F:re} (Fn:bL K x qual st f fd) (Sc:ao N ps (am st)) (len:∀ ds S k x,F ds S k x->ds.length=ps.length)
  (hbody:∀ (cdv:Value) (A:Around) (outer:List Env) (s:Shared) (H:Hp) (E:XK) (ex:Addr->DH->Prop),ce k (A.deeper (envOfC qual (am st) s.heap.objs.size f cdv))->(∀ C S' H',ex C S'->Hs K H' S'->E (.ref C) none H')->
   ∃ g,Ad (fu (lh P w) P w K mg base N qual (am st) f cdv A outer s H E) (fS st) g/\
    ∀ ds S k,F ds S k ex->g {nx:=λ_ S'=>k .non S',rt:=k} (ds.map some++List.replicate (N.length - ps.length) none) S):aI P w K mg base (lh P w) (k+1) f fd ps (Ht K F):=by
 obtain⟨oc,od,kV,doc,pm,an,cdv,ct,osl,rfl,lk,hcd⟩:=Fn.ex;refine IO lk hcd Sc (λvs H Q E h=>?_) λA outer s H vs Q E hr h=>?_
 ·obtain⟨ds,S,k,x,i,_,q,_⟩:=h;rw [<- i.length];exact len ds S k x q
 ·obtain⟨ds,S,k',x,i,hS,h,n,hE⟩:=h;obtain⟨g,hg,q⟩:=hbody cdv A outer s H E x hr hE;refine⟨_,hg.h,ds.map some++List.replicate (N.length - ps.length) none,S,_,?_,hS,q ds S k' h,?_⟩
  ·unfold L2.start;rw [<- i.length,len ds S k' x h];exact Lc.start _ i
  ·exact⟨λL S' σ H' h1 k1 _ hS'=>n _ S' _ H' h1 k1 hS' (cW.mpr rfl),λd S' v H' h1 k1 hS' i1=>n d S' v H' h1 k1 hS' i1,λ_ _ _ _ h1=>h1.elim,λ_ _ _ _ h1=>h1.elim⟩
end
end DL
namespace L2
open PySem PySem.Spec PyProof.Rows
def Lf (H:Hp) (qual:Str) (cv:Value):Prop:=∃ (c':Addr) (oc:Obj) (uc:HO) (vs:Array Value) (t:Tok),cv=.ref c'/\H c'=some (.frz oc uc)/\oc.data=.fields vs/\vs[1]?=some (.str qual t)
structure Mr (H:Hp) (qual:Str) (ps:Array Value):Prop where
 tri:TriplesOk ps.toList
 ok:∀ pos cv,codeAmong pos ps.toList=some cv->Lf H qual cv
def qL (mg:Str->Option Value) (base:Heap):Prop:=(∃ bm ob,mg "__builtins__"=some (.ref bm)/\bm≠builtinsNs/\base.get? bm=some ob/\ob.cls=.type "module"/\ob.dict=some builtinsNs/\ob.data=.plain)/\base.NoSeer
end L2
namespace DL
open PySem PySem.Spec PyProof.Rows L2
theorem Ki {P:Program} {w:World} {outer:List Env} {H:Hp} {s:Shared} {E:XK} {e:Value} {s':Shared} (h:lh P w outer H s E e s'):lh P w outer H s (λc t H'=>E c t H'/\Kp H H') e s':=by
 obtain⟨ea,cls,a0,H',B,h1,h2,h3,h4,h5,h6,h7,h8,h9⟩:=h;refine⟨ea,cls,a0,H',B,h1,h2,h3,h4,h5,h6,h7,h8,h9,λa o z i=>?_⟩
 cases o with
 | tup xs=>exact h8.tups a xs z
 | frz ob u=>exact h8.frzs a ob u z
 | _=>exact i.elim
def Pl (K:Fg) (ex:Addr->DH->Prop):XK:=λcls _ H'=>∃ C S',cls=.ref C/\ex C S'/\Hs K H' S'
end DL
namespace L2
open PySem PySem.Spec PyProof.Rows
structure AV (tabs:List (Addr×Addr)) (H:Hp):Prop where
 only:∀ b,H b=none\/(∃ o xs,H b=some (.frz o (.lst xs)))\/(b∈tabs.map (·.2)/\H b=some (.tbl #[]))
 all:∀ q∈tabs,H q.2=some (.tbl #[])
theorem B7 {P:Program} {w:World} {K:PySem.W.Frag} {mg mb:Str->Option Value} {CX:Fv} {k:Nat} {fa a:Addr} {fd:FuncData} {x:Str} {sp:Sp} {s₁:Shared} {vs:List Value} {ns:List Int} {tabs:List (Addr×Addr)}
  (hT:PySem.W.TabsAt tabs s₁.heap) (hnK:PySem.W.noTabs K=true) (hbm:qL mg s₁.heap)
  (KX:K.In s₁.heap) (hns:s₁.heap.Ns mainGlobals mg) (hb:s₁.heap.Ns builtinsNs mb) (hbb:∀ x:Str,x≠"__name__"->mb x=bootBuiltins x) (hlim:s₁.heap.NoLimit) (hg:s₁.gens=#[])
  (ha:s₁.heap.get? a=some {cls:=.type "list",data:=.seq vs.toArray}) (hi:IntsAre vs ns) (hl:ns.length<=sizeLine) (hr:ce k callerA)
  (F:∀ base:Heap,K.In base->base.Ns mainGlobals mg->qL mg base->PySem.W.CodeAll tabs base->aI P w K mg base CX k fa fd [x] sp) (hbind:∀ (s:Shared) (u:Value),BindsTo s fd ⟨[u],[]⟩ [(x,u)])
  (hsp:∀ H:Hp,AV tabs H->jD K H a (ns.map V.int)->sp [.ref a] H (λv _=>v=.bl true) λ_ _ _=>False)
  (hCX:∀ H e s',CX [] H s₁ (λ_ _ _=>False) e s'->False):
  codeAny (model P w) callerA (.call (.ref fa) ⟨[.ref a],[]⟩) (λr s'=>r=.ok (.ret (.bool true))/\OldK s₁.heap s'.heap/\s'.os=s₁.os/\AllBare s'.gens) s₁:=by
 have rv:=va hi;have lenV:=hi.length;have tabO:∀ b∈tabs.map (·.2),s₁.heap.get? b=some (PySem.W.tabObj #[]):=λb hb=>by
  obtain⟨q,hq,rfl⟩:=P4.mp hb;exact(hT q hq).2
 have naT:a∉tabs.map (·.2):=λz=>by
  have e:=tabO a z;rw [ha] at e;cases e
 have nKT:∀ b o,K.lookup b=some o->b∉tabs.map (·.2):=λb o e z=>by
  have e1:=KX b o e;rw [tabO b z] at e1;cases e1;have h2:=QZ.mp hnK (b,_) (PySem.W.mem_of_lookupK e);exact absurd (show false=true from h2) P6
 have core:∀ H:Hp,AV tabs H->jD K H a (ns.map V.int)->mQ P w H s₁.heap->(∀ b,H b≠none->b=a\/b∈tabs.map (·.2))->(H a≠none->K.lookup a=none)->
   codeAny (model P w) callerA (.call (.ref fa) ⟨[.ref a],[]⟩) (λr s'=>r=.ok (.ret (.bool true))/\OldK s₁.heap s'.heap/\s'.os=s₁.os/\AllBare s'.gens) s₁:=by
  intro H hO hS hok hA hK;have base_of:∀ {b:Addr} {o:Obj},s₁.heap.get? b=some o->H b=none->(tP s₁.heap H).get? b=some o:=λe n=>Fm e n
  have noC:∀ {b:Addr} {o:Obj},s₁.heap.get? b=some o->o.cls≠.type "list"->o.cls≠.none->H b=none:=λ{b o} e d1 d2=>by
   cases q:H b with
   | none=>rfl
   | some u=>
    rcases hA b (by rw [q]; simp) with e' | e'
    ·subst e';rw [ha] at e; cases e
     exact absurd rfl d1
    ·rw [tabO b e'] at e; cases e
     exact absurd rfl d2
  have noA:∀ {b:Addr} {o:Obj} {es:Array DictEntry} {ep:Nat},s₁.heap.get? b=some o->o.data=.dict es ep->H b=none:=λ{b o es ep} e d=>by
   cases q:H b with
   | none=>rfl
   | some u=>
    rcases hA b (by rw [q]; simp) with e' | e'
    ·subst e';rw [ha] at e; cases e
     have d':Data.seq vs.toArray _=Data.dict es ep:=d;cases d'
    ·rw [tabO b e'] at e; cases e
     cases d
  have nsK:∀ {b:Addr} {m:Str->Option Value},s₁.heap.Ns b m->(tP s₁.heap H).Ns b m:=λ{b m} ⟨o,es,ep,e,d,r⟩=>⟨o,es,ep,base_of e (noA e d),d,r⟩
  have hKb:K.In (tP s₁.heap H):=λb o e=>base_of (KX b o e) (by
   cases q:H b with
   | none=>rfl
   | some u=>
    rcases hA b (by rw [q]; simp) with e' | e'
    ·subst e';rw [hK (by rw [q]; simp)] at e; cases e
    ·exact absurd e' (nKT b o e))
  have hBb:qL mg (tP s₁.heap H):=by
   obtain⟨⟨bm,ob,b1,b2,b3,b4,b5⟩,ns⟩:=hbm;refine⟨⟨bm,ob,b1,b2,base_of b3 (noC b3 (by rw [b4]; decide) (by rw [b4]; nofun)),b4,b5⟩,?_,?_,?_,?_⟩
   ·obtain⟨mc,h1,h2⟩:=ns.statics;exact⟨mc,nsK h1,h2⟩
   ·obtain⟨mc,h1,h2⟩:=ns.mods;exact⟨mc,nsK h1,h2⟩
   ·obtain⟨mc,h1,h2⟩:=ns.imp;exact⟨mc,nsK h1,h2⟩
   ·obtain⟨mg',bm',ob',h1,h2,h3,h4,h5⟩:=ns.main;exact⟨mg',bm',ob',nsK h1,h2,base_of h3 (noC h3 (by rw [h4]; decide) (by rw [h4]; nofun)),h4,h5⟩
  have hCb:PySem.W.CodeAll tabs (tP s₁.heap H):=.of λq hq=>by
   obtain⟨o,vs,file,tf,flags,tg,inF,text,tt,e1,r1,r2⟩:=(hT q hq).1;exact⟨o,vs,file,tf,flags,tg,inF,text,tt,base_of e1 (noC e1 (by rw [r1]; decide) (by rw [r1]; nofun)),r1,r2⟩
  have hM:Mod K mg (tP s₁.heap H):=⟨hKb,nsK hns,⟨mb,nsK hb,hbb⟩,let ⟨mc,h1,h2⟩:=hlim; ⟨mc,nsK h1,h2⟩⟩
  have e0:Hx P w K mg (tP s₁.heap H) callerA [] s₁ H:=⟨rfl,hM,λb o e=>F8 e,Nat.le_of_eq (B9 _ _),trivial,λb hb=>absurd (show b∈([]:List Addr) from hb) (by simp),hok,.of_eq hg⟩
  refine codeAny_mono ((F _ hKb (nsK hns) hBb hCb).run callerA [] s₁ H ⟨[.ref a],[]⟩ [.ref a] [.ref a] _ _ hr e0 (hbind s₁ (.ref a)) (.cons rfl .nil) (hsp H hO hS)) λr s' h=>?_
  cases r with
  | error e=>exact(hCX H e s' h).elim
  | ok fl=>
   cases fl with
   | next=>exact False.elim h
   | brk=>exact False.elim h
   | cont=>exact False.elim h
   | ret u=>
    obtain⟨v,H',os,bare,un,hok',r',q⟩:=h;have q':v=.bl true:=q;subst q';obtain rfl:u=Value.bool true:=r';refine⟨rfl,⟨λb o e=>?_,λb o e=>un.there b o e (by simp)⟩,os,bare⟩
    rcases hO.only b with z | ⟨ob,xs,z⟩ | ⟨hm,z⟩
    ·exact .inl (un.keep b o e z (by intro z; exact absurd (show b∈([]:List Addr) from z) (by simp)) (by simp))
    ·have z2:=un.frzs b ob _ z;obtain⟨e1,_⟩:=hok b _ z;obtain⟨e2,_⟩:=hok' b _ z2;rw [e] at e1; cases e1
     exact .inl e2
    ·obtain⟨more,z2⟩:=un.tbls b _ z;have e2:s'.heap.get? b=some (PySem.W.tabObj (#[]++more)):=hok' b _ z2;have e3:=tabO b hm;obtain⟨q,hq,rfl⟩:=P4.mp hm;rw [e] at e3;cases e3;exact .inr (.inl ⟨((hT q hq).1.tab (hT q hq).2).isCodeTable,rfl,#[],more,rfl,e2⟩)
 have tb:∀ b,b∈tabs.map (·.2)->mQ P w (λ_=>none) s₁.heap->dc P w (λ_=>none) s₁.heap b (.tbl #[]):=λb hb _=>tabO b hb
 cases hk:K.lookup a with
 | some o=>
  have e:=KX a o hk;rw [ha] at e;cases e;refine core (λb=>if b∈tabs.map (·.2) then some (.tbl #[]) else none) ⟨λb=>?_,λq hq=>if_pos (Q7 hq)⟩ (.inr ⟨_,vs.toArray,_,hk,rfl,rfl,rfl,by rw [P7,lenV]; exact hl,by simpa using rv⟩) (λb u z=>?_) (λb z=>?_) λz=>?_
  ·by_cases hm:b∈tabs.map (·.2)
   ·exact .inr (.inr ⟨hm,if_pos hm⟩)
   ·exact .inl (if_neg hm)
  ·by_cases hm:b∈tabs.map (·.2)
   ·have z':=(if_pos hm).symm.trans z;cases z';exact tabO b hm
   ·have z':=(if_neg hm).symm.trans z;cases z'
  ·by_cases hm:b∈tabs.map (·.2)
   ·exact .inr hm
   ·exact absurd (if_neg hm) z
  ·exact absurd (if_neg naT) z
 | none=>
  refine core (λb=>if b=a then some (.frz {cls:=.type "list",data:=.seq vs.toArray} (.lst (ns.map V.int))) else if b∈tabs.map (·.2) then some (.tbl #[]) else none) ⟨λb=>?_,λq hq=>?_⟩ (.inl (.inr ⟨{cls:=.type "list",data:=.seq vs.toArray},if_pos rfl⟩)) (λb u z=>?_) (λb z=>?_) λ_=>hk
  ·by_cases hb:b=a
   ·exact .inr (.inl ⟨_,_,if_pos hb⟩)
   ·by_cases hm:b∈tabs.map (·.2)
    ·exact .inr (.inr ⟨hm,(if_neg hb).trans (if_pos hm)⟩)
    ·exact .inl ((if_neg hb).trans (if_neg hm))
  ·have hm:q.2∈tabs.map (·.2):=Q7 hq;have hb:q.2≠a:=λz=>naT (z▸hm)
   exact(if_neg hb).trans (if_pos hm)
  ·by_cases hb:b=a
   ·have z':=(if_pos hb).symm.trans z;cases z';subst hb;exact⟨ha,by rw [P5]; exact hl,vs,_,rv,ha⟩
   ·by_cases hm:b∈tabs.map (·.2)
    ·have z':=((if_neg hb).trans (if_pos hm)).symm.trans z;cases z';exact tabO b hm
    ·have z':=((if_neg hb).trans (if_neg hm)).symm.trans z;cases z'
  ·by_cases hb:b=a
   ·exact .inl hb
   ·by_cases hm:b∈tabs.map (·.2)
    ·exact .inr hm
    ·exact absurd ((if_neg hb).trans (if_neg hm)) z
theorem Fo {l:PySem.W.OpenLaw} {n k:Nat} {q:Program} {loose:List Str} {XP:(Str->Option Value)->Heap->Prop} {YP:World->Heap->Prop} {d:DefRec} {K:Params->PySem.W.Frag} {CX:World->Fv} {sp:World->Sp} {x:Str} {tabs:List (Addr×Addr)}
  (himp:importsNone q=true) (hn:l.most=some n) (hn2:n<=sizeLine) (hdf:d.params.defaults=[]) (hr:ce k callerA)
  (hY:∀ (w:World) (h:Heap),YP w h->(K w.params).In h) (hnK:∀ w:World,PySem.W.noTabs (K w.params)=true) (hT:∀ (w:World) (h:Heap),YP w h->PySem.W.TabsAt tabs h)
  (F:∀ (w:World) (mg:Str->Option Value) (fa:Addr) (h:Heap),(K w.params).In h->h.Ns mainGlobals mg->mg d.name=some (.ref fa)->
   ∃ fd:FuncData,(∀ (s:Shared) (u:Value),BindsTo s fd ⟨[u],[]⟩ [(x,u)])/\
    ∀ base:Heap,(K w.params).In base->base.Ns mainGlobals mg->qL mg base->PySem.W.CodeAll tabs base->aI l.prog w (K w.params) mg base (CX w) k fa fd [x] (sp w))
  (hsp:∀ (w:World) (H:Hp) (a:Addr) (ns:List Int),ns.length<=n->AV tabs H->jD (K w.params) H a (ns.map V.int)->sp w [.ref a] H (λv _=>v=.bl true) λ_ _ _=>False)
  (hCX:∀ (w:World) (H:Hp) (s:Shared) (e:Value) (s':Shared),CX w [] H s (λ_ _ _=>False) e s'->False):
  PySem.W.WalkO q loose XP YP l.row.toRowW d [] (λf vs=>PySem.call f vs):=by
 refine Att.attach_call hn hdf λw s₀ s₁ mg mb fa o pm cd doc a vs ns G Y ho hd hcd hmg hobj hints hlen hg=>?_
 have KX:=hY w _ Y;obtain⟨fd,hb,hF⟩:=F w mg fa _ KX G.T.g hmg;have hbm:qL mg s₁.heap:=by
  obtain⟨bm,ob,b1,b2,b3,b4,b5,b6⟩:=G.T.bmain;exact⟨⟨bm,ob,b1,b2,b3,b4,b5,b6⟩,G.T.seer himp⟩
 exact B7 (hT w _ Y) (hnK w) hbm KX G.T.g G.T.b G.T.builtins G.T.nolimit hg hobj hints (QH hlen hn2) hr hF hb (λH hO hS=>hsp w H a ns hlen hO hS) λH e s'=>hCX w H s₁ e s'
end L2
namespace DL
open PySem PySem.Spec PyProof.Rows L2
theorem EU {β:Type}:∀ {l:List (Addr×β)} {a:Addr} {b:β},l.lookup a=some b->(a,b)∈l
 | [],_,_,e=>by cases e
 | (c,x)::r,a,b,e=>by
  rw [List.lookup_cons] at e;cases hb:a == c with
  | true=>rw [hb] at e; cases e; rw [eq_of_beq hb]; exact .head _
  | false=>rw [hb] at e; exact .tail _ (EU e)
def He (tq:List (Addr×Str)):DH:=λb=>(tq.lookup b).map λq=>DO.tbl λH ps=>Mr H q ps
theorem GR {K:Fg} {H:Hp} {a:Addr} {ns:List Int} {F:bC} {E:XK} {tabs:List (Addr×Addr)} {tq:List (Addr×Str)} (ho:AV tabs H) (hS:jD K H a (ns.map V.int)) (ht:∀ p∈tq,p.1∈tabs.map (·.2)) (h:F [.rl (ns.map D.int)] (He tq) (λd _=>d=.bl true)):cg K F [.ref a] H (λv _=>v=.bl true) E:=by
 refine⟨[.rl (ns.map D.int)],He tq,λd _=>d=.bl true,IsDs.cons (xN.mpr ⟨a,ns.map V.int,rfl,?_,?_⟩) IsDs.nil,λb o e=>?_,h,λd' S' v H' e _ _ i=>?_⟩
 ·rcases hS with (h1 | h1) | h1
  ·rcases ho.only a with z | ⟨o,xs,z⟩ | ⟨_,z⟩
   ·rw [z] at h1; cases h1
   ·rw [z] at h1; cases h1
   ·rw [z] at h1; cases h1
  ·exact .inl h1
  ·exact .inr h1
 ·clear h hS
  induction ns with
  | nil=>exact IsDs.nil
  | cons n ns ih=>exact IsDs.cons (isInt.mpr rfl) ih
 ·unfold He at e;cases q:tq.lookup b with
  | none=>rw [q] at e; cases e
  | some x=>
   rw [q] at e;cases e;obtain⟨t,ht',e2⟩:=P4.mp (ht _ (EU q));have z:=ho.all t ht';rw [e2] at z;exact⟨#[],z,λH2 _=>⟨trivial,λpos cv z2=>by cases z2⟩⟩
 ·subst e;exact ck.mp i
end DL
namespace L2
open PySem PySem.Spec PyProof.Rows
theorem G6 {X:Cx} {n:Nat} (hr:ce n X.A) (hn:33<=n) (hB:qL X.mg X.base) (hT:X.prog.given.tree=none) (hst:X.stack=X.env::X.outer) (hg:X.env.scope.isGenerator=false) (hc:X.env.scope.isCoroutine=false):
  fW X (binaryOp .FloorDiv) (rI (λ_ j=>j≠0) λi j=>.int (i.fdiv j)):=by
 intro pins s σ H x y v u Q I rx ry h;obtain⟨i,j,rfl,rfl,hj,q⟩:=h;obtain⟨t,rfl⟩:=rx;obtain⟨t',rfl⟩:=ry;have hd:=hr.dp;have hN:s.heap.NoSeer:=hB.2.keeps I.bk;exact floordiv_int hj ⟨.int (i.fdiv j),H,I.tok _,⟨_,rfl⟩,q⟩ (.inr (PylongRoom.of I.nolimit (by show X.A.depth+100 < recursionLimit; omega) (SeerAt.of hN hT (hst▸I.ok.frames) hg hc I.ok.blt I.ok.glob)))
end L2
namespace DL
open PySem PySem.Spec PyProof.Rows L2
abbrev Nc:D2:=KJ (λ_ j=>j≠0) λi j=>.int (i.fdiv j)
theorem lR {X:Cx} {n:Nat} (hr:ce n X.A) (hB:qL X.mg X.base) (hT:X.prog.given.tree=none) (hst:X.stack=X.env::X.outer) (hg:X.env.scope.isGenerator=false) (hc:X.env.scope.isCoroutine=false) (hn:33<=n):
  fW X (binaryOp .FloorDiv) (jL X.K Nc):=Cc (C:=λ_ j=>j≠0) (gV:=λi j=>.int (i.fdiv j)) (G6 hr hn hB hT hst hg hc) λ_ _ _=>isInt.mpr rfl
section
variable {X:Cx} {pins:List (Addr×Obj)} {σ:L2.St} {H:Hp} {s:Shared}
theorem C6 (I:ay X pins σ H s) {S:DH} {a c:Addr} {ds es:List D} {b:Bool} (hS:Hs X.K H S) (h1:S a=some (.lst ds)) (h2:S c=some (.lst es)) (hl:ds.length=es.length) (A:Around) (hu:A.units+8 < cLine) (h:jM (jQ 7) ds es=some b):
  SeqAt.RcAt A s (.ref a) (.ref c) b/\SeqAt.RcNeAt A s (.ref a) (.ref c) (!b):=by
 obtain⟨xs,q1,j1⟩:=hS.lst h1;obtain⟨ys,q2,j2⟩:=hS.lst h2;obtain⟨us,r1,p1,_⟩:=I.list (jD.of q1);obtain⟨ws,r2,p2,_⟩:=I.list (jD.of q2);have l1:=j1.length;have l2:=j2.length;have l3:=r1.length;have l4:=r2.length;have hsz:us.toArray.size=ws.toArray.size:=by simp only [P7]; omega
 have he:∀ j (h1:j < us.toArray.size) (h2:j < ws.toArray.size),SeqAt.EqAt A.in1 s us.toArray[j] ws.toArray[j] (jT (jQ 7) ds es j):=λj h1 h2=>by
  simp only [P7] at h1 h2
  obtain⟨d,e,x,y,q1,q2,d1,d2,rx,ry⟩:=vG j1 j2 r1 r2 h1 h2;have:=(qt I 7 A.in1 d e x y us[j] ws[j] _ (by show A.units+1+7 < cLine; omega) (rp h q1 q2) d1 d2 rx ry).1
  simpa using this
 have e:=o8 h;rw [hl,Nat.min_self] at e;have e:(List.range us.toArray.size).all (jT (jQ 7) ds es)=b:=by
  simp only [P7];rw [<- l3,<- l1,hl]
  simpa using e
 refine⟨?_,?_⟩
 ·have z:=SeqAt.RcAt.lists p1.isList p2.isList hsz (by omega) he
  rw [e] at z;exact z
 ·have z:=SeqAt.RcNeAt.lists p1.isList p2.isList hsz (by omega) he
  rw [e] at z;exact z
end
def J_:D2:=λd e S k=>match d,e with
 | .ref a,.ref c=>∃ xs ys b,S a=some (.lst xs)/\S c=some (.lst ys)/\xs.length=ys.length/\jM (jQ 7) xs ys=some b/\k (.bl b) S
 | d,e=>∃ b,jQ 8 d e=some b/\k (.bl b) S
def KP:D2:=λd e S k=>match d,e with
 | .ref a,.ref c=>∃ xs ys b,S a=some (.lst xs)/\S c=some (.lst ys)/\xs.length=ys.length/\jM (jQ 7) xs ys=some b/\k (.bl (!b)) S
 | d,e=>∃ b,jQ 8 d e=some b/\k (.bl (!b)) S
theorem vn {X:Cx} {n:Nat} (hr:ce n X.A):fW X (compareOp .Eq) (jL X.K J_):=by
 intro pins s σ H x y v u Q I rx ry h;obtain⟨d,e,S,k,i1,i2,hS,r,m⟩:=h;have hu:=hr.units;unfold J_ at r
 split at r
 ·obtain⟨xs,ys,b,h1,h2,h3,h4,w⟩:=r;have e1:=aX.mp i1;have e2:=aX.mp i2;subst e1 e2;cases rx;cases ry;exact(C6 I hS h1 h2 h3 X.A (by omega) h4).1 X.prog X.w X.xe _ ⟨.bl b,H,I,rfl,og m hS w (ck.mpr rfl)⟩
 ·obtain⟨b,h1,w⟩:=r;exact(qt I 8 X.A d e x y v u b (by omega) h1 i1 i2 rx ry).2 X.prog X.w X.xe _ ⟨.bl b,H,I,rfl,og m hS w (ck.mpr rfl)⟩
theorem AB {X:Cx} {n:Nat} (hr:ce n X.A):fW X (compareOp .NotEq) (jL X.K KP):=by
 intro pins s σ H x y v u Q I rx ry h;obtain⟨d,e,S,k,i1,i2,hS,r,m⟩:=h;have hu:=hr.units;unfold KP at r
 split at r
 ·obtain⟨xs,ys,b,h1,h2,h3,h4,w⟩:=r;have e1:=aX.mp i1;have e2:=aX.mp i2;subst e1 e2;cases rx;cases ry;exact(C6 I hS h1 h2 h3 X.A (by omega) h4).2 X.prog X.w X.xe _ ⟨.bl (!b),H,I,rfl,og m hS w (ck.mpr rfl)⟩
 ·obtain⟨b,h1,w⟩:=r;exact KW I 8 X.A d e x y v u b (by omega) h1 i1 i2 rx ry X.prog X.w X.xe _ ⟨.bl (!b),H,I,rfl,og m hS w (ck.mpr rfl)⟩
theorem ui.mk' {P:Program} {w:World} {K:Fg} {mg:Str->Option Value} {base:Heap} {x qual:Str} {st:Stmt} {f:Addr} {fd:FuncData} {ps:List Str} {n:Nat} {F:re} (Fn:bL K x qual st f fd) (h:aI P w K mg base (lh P w) n f fd ps (Ht K F)) (hm:mg x=some (.ref f)) (hb:nP K fd ps []):ui P w K mg base x n F:=
 ⟨f,fd,ps,h,hm,Fn.kp,hb⟩
end DL
namespace L2
open PySem PySem.Spec PyProof.Rows
section
variable {X:Cx}
theorem rW:∀ {vs:List Value} {ns:List Int},IntsAre vs ns->a_ (ns.map V.int) vs
 | _,_,.nil=>.nil
 | _,_,.cons n t r=>.cons ⟨t,rfl⟩ (rW r)
end
end L2
namespace DL
open PySem PySem.Spec PyProof.Rows L2
theorem k7 {K:Fg} {H:Hp}:∀ {ns:List Int} {vs:List V},IsDs K H (ns.map D.int) vs->vs=ns.map V.int
 | [],vs,h=>by
  have:=h.length;exact Rg.mp this.symm
 | n::ns,vs,h=>by
  obtain⟨u,r,rfl,h1,h2⟩:=c8.mp h;rw [isInt.mp h1,k7 h2]
  rfl
theorem rH {K:Fg} {H:Hp}:∀ {ns:List Int},IsDs K H (ns.map D.int) (ns.map V.int)
 | []=>IsDs.nil
 | _::_=>IsDs.cons (isInt.mpr rfl) rH
end DL
set_option linter.all false
namespace DT
abbrev Mx:=Nat->Nat->Rat
def sm:Nat->(Nat->Rat)->Rat
 | 0,_=>0
 | n+1,f=>sm n f+f n
def sg (n:Nat):Rat:=if n % 2=0 then 1 else -1
def cl (M:Mx) (a:Nat) (u:Nat->Rat):Mx:=λr c=>if c=a then u r else M r c
end DT
namespace DL
open PySem PySem.Spec PyProof.Rows L2
inductive Bl (K:Fg):List Value->List (List Int)->Prop
 | nil:Bl K [] []
 | cons {p:Addr} {o:Obj} {its:Array Value} {n:Nat} {ns:List Int} {vs:List Value} {nss:List (List Int)} (h1:K.lookup p=some o) (h2:o.cls=.type "tuple") (h3:o.data=.seq its n) (h4:its.size<=sizeLine) (h5:a_ (ns.map V.int) its.toList) (r:Bl K vs nss):Bl K (.ref p::vs) (ns::nss)
def Dg (K:Fg) (mg:Str->Option Value) (x:Str) (nss:List (List Int)):Prop:=∃ p o its n,mg x=some (.ref p)/\K.lookup p=some o/\o.cls=.type "tuple"/\o.data=.seq its n/\its.size<=sizeLine/\Bl K its.toList nss
theorem Bl.vals {K:Fg}:∀ {vs:List Value} {nss:List (List Int)},Bl K vs nss->∃ us:List V,a_ us vs/\∀ H,IsDs K H (nss.map λns=>.tup (ns.map D.int)) us
 | _,_,.nil=>⟨[],.nil,λ_=>IsDs.nil⟩
 | _,_,.cons (p:=p) h1 h2 h3 h4 h5 r=>by
  obtain⟨us,a,b⟩:=r.vals;exact⟨.ref p::us,.cons rfl a,λH=>IsDs.cons (cy.mpr ⟨p,_,rfl,.inr ⟨_,_,_,h1,h2,h3,h4,h5⟩,pV _⟩) (b H)⟩
theorem Ac {X:Cx} {x:Str} {nss:List (List Int)} {pos:Pos} (g:Dg X.K X.mg x nss) (hg:Gl X x) (hd:(x == ("__debug__":Str))=false:=by decide):EJ X (.Name x pos) (dC (.tup (nss.map λns=>.tup (ns.map D.int)))):=by
 obtain⟨p,o,its,n,hm,h1,h2,h3,h4,h5⟩:=g;obtain⟨us,a,b⟩:=h5.vals;exact⟨Lq (AU (v:=.ref p) hg hm rfl hd) λH=>cy.mpr ⟨p,us,rfl,.inr ⟨o,its,n,h1,h2,h3,h4,a⟩,b H⟩⟩
end DL
namespace L2
open PySem PySem.Spec PyProof.Rows
theorem tw (val:Nat->Int):∀ k,argBest (λi j=>decide (val i > val j)) k<=k/\∀ i,i<=k->val i<=val (argBest (λi j=>decide (val i > val j)) k)
 | 0 => ⟨Nat.le_refl _, fun i h => by have : i = 0 := by omega
                                      subst this; exact Int.le_refl _⟩
 | k+1=>by
  obtain⟨h1,h2⟩:=tw val k;unfold argBest
  by_cases h:val (k+1) > val (argBest (λi j=>decide (val i > val j)) k)
  ·rw [if_pos (decide_eq_true h)];refine⟨P3 _,λi hi=>?_⟩
   by_cases e:i=k+1
   ·subst e; exact Int.le_refl _
   ·have:=h2 i (by omega); omega
  ·rw [if_neg (by simpa using h)]
   refine⟨by omega,λi hi=>?_⟩
   by_cases e:i=k+1
   ·subst e; omega
   ·exact h2 i (by omega)
theorem sQ:∀ {ns:List Int} {vs:List Value} {i:Nat} {v:Value},a_ (ns.map V.int) vs->vs[i]?=some v->∃ t,v=.int (ns.getD i 0) t
 | [],_,i,v,.nil,h=>by simp at h
 | n::ns,_,0,v,.cons r _,h=>by
  obtain⟨t,e⟩:=r;simp at h;exact⟨t,by rw [<- h,e]; rfl⟩
 | n::ns,u::us,i+1,v,.cons _ t,h=>by
  have h:us[i]?=some v:=by simpa using h
  obtain⟨t',e⟩:=sQ t h;exact⟨t',by rw [e]; rfl⟩
section
variable {X:Cx}
theorem rP {pins:List (Addr×Obj)} {σ:St} {H:Hp} {s:Shared} {a:Addr} {Q:VK} {nm:String} (I:ay X pins σ H s) {v:V} {u:Value} (r:aS v u) (q:Q v H) (h':Heap) (tk:Nat)
  (kk:∀ c o,c∉[s.heap.objs.size]->(s.heap.push {cls:=.type nm,data:=.fields #[.ref a,.int 0 0]}).get? c=some o->h'.get? c=some o):EP X pins σ Q u {s with heap:=h',toks:=tk}:=by
 have I1:ay X pins σ H {s with heap:=s.heap.push {cls:=.type nm,data:=.fields #[.ref a,.int 0 0]}}:=I.kept (t':=s.toks) λc o e=>pp _ e
 refine⟨v,H,ay.turnedL (s:={s with heap:=s.heap.push {cls:=.type nm,data:=.fields #[.ref a,.int 0 0]}}) (t':=tk) [s.heap.objs.size] I1 kk (λc hc=>?_),r,q⟩
 have e:c=s.heap.objs.size:=by simpa using hc
 subst e;exact I.fpOk (P3 _) (I.hok.fresh (P3 _))
theorem CN {s:Shared} {a:Addr} {o:Obj} (hlt:a < s.heap.objs.size) (ho:o.isFreed=false:=by rfl):∀ b∈[s.heap.objs.size,a],b < (s.heap.push o).objs.size:=λb hb=>by
 have hz:s.heap.objs.size < (s.heap.push o).objs.size:=P2 (P0 _ ho);simp only [P8,Qh,or_false] at hb;rcases hb with e | e
 ·rw [e]; exact hz
 ·rw [e]; exact Nat.lt_trans hlt hz
theorem Ce (hc:X.calm=true):c_ X (.builtin "max") (λxs H Q=>∃ (p:Addr) (ns:List Int),xs=[.ref p]/\jD X.K H p (ns.map V.int)/\ns≠[]/\∀ m:Int,m∈ns->(∀ x∈ns,x<=m)->Q (.int m) H):=by
 intro pins s σ H xs us Q I r h;obtain⟨p,ns,rfl,hq,hn,q⟩:=h;obtain⟨u,rfl,rx⟩:=nG r;cases rx;obtain⟨its,rv,pl,hz⟩:=I.list hq;have hl:=rv.length;rw [P5] at hl;have hlt:=pl.lt;have n0:0 < ns.length:=List.length_pos_iff.mpr hn;have hh:X.A.in1.handled=none:=I.ok.hd hc;have hv:∀ i v,its.toArray[i]?=some v->∃ t,v=Value.int (ns.getD i 0) t:=λi v h=>sQ (i:=i) (v:=v) rv (by rw [Ra] at h; exact h)
 refine call_max_walk (wpAny_pyIter_list pl.isList ?_);refine⟨s.heap.objs.size,_,_,_,_,_,λi j=>decide (ns.getD i 0 > ns.getD j 0),rfl,Walks.list hh s.heap.objs.size p (P9 hlt) its.toArray,⟨⟨_,P0 _ rfl,rfl,rfl⟩,Heap.IsList.at pl.isList λo e=>pp _ e⟩,CN hlt,by rw [P7]; omega,CmpOf.ints_gt _ hv,λv h' tk hP kk=>?_⟩
 rw [P7,<- hl] at hP;obtain⟨t,rfl⟩:=hv _ _ hP;obtain⟨b1,b2⟩:=tw (λi=>ns.getD i 0) (ns.length - 1)
 have hm:ns.getD (argBest (λi j=>decide (ns.getD i 0 > ns.getD j 0)) (ns.length - 1)) 0∈ns:=by
  have hlt2:argBest (λi j=>decide (ns.getD i 0 > ns.getD j 0)) (ns.length - 1) < ns.length:=by omega
  rw [QB,Qr hlt2];exact Q9 hlt2
 refine rP I (show aS (.int _) (.int _ t) from⟨t,rfl⟩) (q _ hm λx hx=>?_) h' tk kk
 obtain⟨i,hi,rfl⟩:=List.mem_iff_getElem.mp hx;have:=b2 i (by omega)
 rw [QB,Qr hi] at this;exact this
end
end L2
namespace DL
open PySem PySem.Spec PyProof.Rows L2
def IP:bC:=λds S k=>match ds with
 | [.ref a]=>∃ ns:List Int,S a=some (.lst (ns.map D.int))/\ns≠[]/\∀ m:Int,m∈ns->(∀ x∈ns,x<=m)->k (.int m) S
 | ds=>Kn ds S k
theorem K' {X:Cx} (hc:X.calm=true:=by rfl):c_ X (.builtin "max") (wL X.K IP):=by
 intro pins s σ H xs us Q I rs h;obtain⟨ds,S,k,i,hS,r,n⟩:=h;unfold IP at r
 split at r
 ·obtain⟨x,rfl,i1⟩:=k_ i;have e1:=aX.mp i1;subst e1;obtain⟨ns,z,hl,r⟩:=r;obtain⟨vs,q1,j⟩:=hS.lst z;have e:=k7 j;subst e;exact Ce hc pins s σ H _ us Q I rs ⟨_,ns,rfl,jD.of q1,hl,λm h1 h2=>n _ _ _ _ (r m h1 h2) (Kp.refl H) hS (isInt.mpr rfl)⟩
 ·exact Ii hc pins s σ H xs us Q I rs ⟨_,S,k,i,hS,r,n⟩
end DL
namespace PySem
open Sem (wp)
open Builtin DL
section
variable {prog:Program} {w:World}
def uQ (c:String) (d:Addr) (i n ep:Nat):Obj:={cls:=.type c,dict:=none,data:=.fields #[.ref d,.int i 0,.int n 0,.int ep 0],slots:=#[]}
theorem PV (it d:Addr) (es:Array DictEntry) (i ep:Nat) (e:DictEntry) (hx:es[i]?=some e):
  MeetsIn prog w (Builtin.«dict_keyiterator.__next__» ⟨[.ref it],[]⟩) (λ_ R s=>s.heap.get? it=some (uQ "dict_keyiterator" d i es.size ep)/\s.heap.get? d=some (lr es ep)/\
   R (.ok (.ret e.key)) {s with heap:=s.heap.update it (Obj.mapFields (·.setIfInBounds 1 (rawInt ((i:Int)+1))))}):=
 .of_wp λA R s h=>by
  obtain⟨hp,g,dr,tk,os⟩:=s;obtain⟨h1,h2,h⟩:=h
  wp_walk
  have z:(if (i:Int) < 0 then none else es[(i:Int).toNat]?)=some e:=by
   rw [if_neg (by omega),Q4]; exact hx
  rw [z]
  wp_walk
  exact⟨_,rfl,h⟩
theorem zg {h:Heap} {it:Addr} (f:Obj->Obj) (o o':Obj):Heap.ExtBut it h (((h.update it f).push o).push o'):=λb u nb e=>
 pp _ (pp _ ((Qw _ _ (Ne.symm nb)).trans e))
theorem PQ (it d:Addr) (es:Array DictEntry) (i ep:Nat) (hx:es[i]?=none):
  MeetsIn prog w (Builtin.«dict_keyiterator.__next__» ⟨[.ref it],[]⟩) (λA R s=>A.handled=none/\s.heap.get? it=some (uQ "dict_keyiterator" d i es.size ep)/\s.heap.get? d=some (lr es ep)/\
   (∀ h' e,Heap.ExtBut it s.heap h'->(∃ o,h'.get? e=some o/\o.cls=.type "StopIteration")->R (.error (.ref e)) {s with heap:=h'})):=
 .of_wp λA R s h=>by
  obtain⟨hp,g,dr,tk,os⟩:=s;obtain⟨h0,h1,h2,h⟩:=h
  wp_walk
  have z:(if (i:Int) < 0 then none else es[(i:Int).toNat]?)=none:=by
   rw [if_neg (by omega),Q4]; exact hx
  rw [z]
  wp_walk
  unfold raiseNew;refine gt (wpAny_handled ?_);rw [show A.in1.handled=none from h0]
  exact gt (PZ (wpAny_throw (h _ _ (zg _ _ _) ⟨_,P0 _ rfl,rfl⟩)))
theorem Pw (v d:Addr) (es:Array DictEntry) (ep:Nat):
  MeetsIn prog w (Builtin.«dict_items.__iter__» ⟨[.ref v],[]⟩) (λ_ R s=>s.heap.get? v=some {cls:=.type "dict_items",data:=.fields #[.ref d]}/\s.heap.get? d=some (lr es ep)/\
   R (.ok (.ret (.ref s.heap.objs.size))) {s with heap:=s.heap.push {cls:=.type "dict_itemiterator",data:=.fields #[.none,.bool false,.ref d,.int 0 0,.int es.size 0,.int ep 0,.none,.none]}}):=
 .of_wp λA R s h=>by
  obtain⟨hp,g,dr,tk,os⟩:=s;obtain⟨h1,h2,h⟩:=h
  wp_walk
  exact⟨_,rfl,h⟩
def A' (x d:Value) (i n ep:Nat) (ok ov:Value):Obj:={cls:=.type "dict_itemiterator",dict:=none,data:=.fields #[x,.bool false,d,.int i 0,.int n 0,.int ep 0,ok,ov],slots:=#[]}
theorem PC (it d:Addr) (es:Array DictEntry) (i ep:Nat) (e:DictEntry) (ok ov:Value) (hx:es[i]?=some e):
  MeetsIn prog w (Builtin.«dict_itemiterator.__next__» ⟨[.ref it],[]⟩) (λ_ R s=>s.heap.get? it=some (A' .none (.ref d) i es.size ep ok ov)/\s.heap.get? d=some (lr es ep)/\
   ∀ h',h'.get? it=some (A' (rawInt s.heap.objs.size) (.ref d) (i+1) es.size ep e.key e.val)->h'.get? s.heap.objs.size=some {cls:=.type "tuple",data:=.seq #[e.key,e.val]}->
    (∀ b o,b≠it->s.heap.get? b=some o->h'.get? b=some o)->R (.ok (.ret (.ref s.heap.objs.size))) {s with heap:=h'}):=
 .of_wp λA R s h=>by
  obtain⟨hp,g,dr,tk,os⟩:=s;obtain⟨h1,h2,h⟩:=h;have lt:it < hp.objs.size:=P2 h1
  wp_walk
  have z:(if (i:Int) < 0 then none else es[(i:Int).toNat]?)=some e:=by
   rw [if_neg (by omega),Q4]; exact hx
  rw [z];have T0:Shared.TypeIs ⟨hp,g,dr,tk,os⟩ (.ref it) "dict_itemiterator":=⟨_,h1,rfl⟩
  refine gt (gt (wpAny_typeNameOfWhole_itemiter T0 (PZ (gt (wpAny_isOneOf_itemiter T0 ?_)))));refine gt (m:=setField (.ref it) 3 (rawInt ((i:Int)+1))) (Qp h1 (by simp) λk1 a1 b1=>?_)
  have a2:k1.get? it=some (A' .none (.ref d) (i+1) es.size ep ok ov):=a1;have T1:Shared.TypeIs ⟨k1,g,dr,tk,os⟩ (.ref it) "dict_itemiterator":=⟨_,a2,rfl⟩
  refine gt (Qq (gt (wpAny_isOneOf_itemiter T1 (gt (wpAny_isOneOf_itemiter T1 ?_)))));refine gt (m:=newTuple [e.key,e.val]) (wpAny_newTuple ?_);have sz:k1.objs.size=hp.objs.size:=b1.1;generalize q2:k1.push {cls:=.type "tuple",data:=.seq #[e.key,e.val]}=k2
  have a3:k2.get? it=some (A' .none (.ref d) (i+1) es.size ep ok ov):=by rw [<- q2]; exact pp _ a2
  have t3:k2.get? hp.objs.size=some {cls:=.type "tuple",data:=.seq #[e.key,e.val]}:=by rw [<- q2,<- sz]; exact P0 _ rfl
  have o3:∀ b o,b≠it->hp.get? b=some o->k2.get? b=some o:=λb o nb x=>by rw [<- q2]; exact pp _ (b1.extBut b o nb x)
  rw [sz];refine gt (gt (QF a3 rfl (x:=.none) rfl (PZ ?_)));refine gt (QF a3 rfl (x:=ok) rfl (gt (QF a3 rfl (x:=ov) rfl ?_)));refine gt (Qp a3 (by simp) λk3 a4 b4=>gt (Qp a4 (by simp) λk4 a5 b5=>gt (Qp a5 (by simp) λk5 a6 b6=>gt (Qp a6 (by simp) λk6 a7 b7=>?_))))
  have far:∀ b o,b≠it->k2.get? b=some o->k6.get? b=some o:=λb o nb x=>b7.extBut b o nb (b6.extBut b o nb (b5.extBut b o nb (b4.extBut b o nb x)))
  exact gt (Q8 (PZ (PZ ⟨_,rfl,h k6 a7 (far _ _ (Nat.ne_of_gt lt) t3) λb o nb x=>far b o nb (o3 b o nb x)⟩)))
theorem Pe (it d:Addr) (es:Array DictEntry) (i ep:Nat) (e:DictEntry) (hx:es[i]?=some e):
  MeetsIn prog w (Builtin.«dict_valueiterator.__next__» ⟨[.ref it],[]⟩) (λ_ R s=>s.heap.get? it=some (uQ "dict_valueiterator" d i es.size ep)/\s.heap.get? d=some (lr es ep)/\
   R (.ok (.ret e.val)) {s with heap:=s.heap.update it (Obj.mapFields (·.setIfInBounds 1 (rawInt ((i:Int)+1))))}):=
 .of_wp λA R s h=>by
  obtain⟨hp,g,dr,tk,os⟩:=s;obtain⟨h1,h2,h⟩:=h
  wp_walk
  have z:(if (i:Int) < 0 then none else es[(i:Int).toNat]?)=some e:=by
   rw [if_neg (by omega),Q4]; exact hx
  rw [z]
  wp_walk
  exact⟨_,rfl,h⟩
theorem Px (it d:Addr) (es:Array DictEntry) (i ep:Nat) (hx:es[i]?=none):
  MeetsIn prog w (Builtin.«dict_valueiterator.__next__» ⟨[.ref it],[]⟩) (λA R s=>A.handled=none/\s.heap.get? it=some (uQ "dict_valueiterator" d i es.size ep)/\s.heap.get? d=some (lr es ep)/\
   (∀ h' e,Heap.ExtBut it s.heap h'->(∃ o,h'.get? e=some o/\o.cls=.type "StopIteration")->R (.error (.ref e)) {s with heap:=h'})):=
 .of_wp λA R s h=>by
  obtain⟨hp,g,dr,tk,os⟩:=s;obtain⟨h0,h1,h2,h⟩:=h
  wp_walk
  have z:(if (i:Int) < 0 then none else es[(i:Int).toNat]?)=none:=by
   rw [if_neg (by omega),Q4]; exact hx
  rw [z]
  wp_walk
  unfold raiseNew;refine gt (wpAny_handled ?_);rw [show A.in1.handled=none from h0]
  exact gt (PZ (wpAny_throw (h _ _ (zg _ _ _) ⟨_,P0 _ rfl,rfl⟩)))
theorem PF (it d:Addr) (es:Array DictEntry) (i ep:Nat) (ok ov:Value) (hx:es[i]?=none):
  MeetsIn prog w (Builtin.«dict_itemiterator.__next__» ⟨[.ref it],[]⟩) (λA R s=>A.handled=none/\s.heap.get? it=some (A' .none (.ref d) i es.size ep ok ov)/\s.heap.get? d=some (lr es ep)/\
   (∀ h' e,Heap.ExtBut it s.heap h'->(∃ o,h'.get? e=some o/\o.cls=.type "StopIteration")->R (.error (.ref e)) {s with heap:=h'})):=
 .of_wp λA R s h=>by
  obtain⟨hp,g,dr,tk,os⟩:=s;obtain⟨h0,h1,h2,h⟩:=h
  wp_walk
  have z:(if (i:Int) < 0 then none else es[(i:Int).toNat]?)=none:=by
   rw [if_neg (by omega),Q4]; exact hx
  rw [z]
  wp_walk
  unfold raiseNew;refine gt (wpAny_handled ?_);rw [show A.in1.handled=none from h0]
  exact gt (PZ (wpAny_throw (h _ _ (zg _ _ _) ⟨_,P0 _ rfl,rfl⟩)))
theorem PL (d:Addr) (es:Array DictEntry) (ep:Nat) (hd:(d == sysModules)=false):
  MeetsIn prog w (Builtin.«dict.__iter__» ⟨[.ref d],[]⟩) (λ_ R s=>s.heap.get? d=some (lr es ep)/\R (.ok (.ret (.ref s.heap.objs.size))) {s with heap:=s.heap.push (uQ "dict_keyiterator" d 0 es.size ep)}):=
 .of_wp λA R s h=>by
  obtain⟨hp,g,dr,tk,os⟩:=s;obtain⟨h2,h⟩:=h
  wp_walk
  exact⟨_,rfl,h⟩
theorem OT (d:Addr) (es:Array DictEntry) (ep:Nat) (hd:(d == sysModules)=false):
  MeetsIn prog w (Builtin.«dict.values» ⟨[.ref d],[]⟩) (λ_ R s=>s.heap.get? d=some (lr es ep)/\R (.ok (.ret (.ref s.heap.objs.size))) {s with heap:=s.heap.push {cls:=.type "dict_values",data:=.fields #[.ref d]}}):=
 .of_wp λA R s h=>by
  obtain⟨hp,g,dr,tk,os⟩:=s;obtain⟨h2,h⟩:=h
  wp_walk
  exact⟨_,rfl,h⟩
theorem PR (d:Addr) (es:Array DictEntry) (ep:Nat) (hd:(d == sysModules)=false):
  MeetsIn prog w (Builtin.«dict.items» ⟨[.ref d],[]⟩) (λ_ R s=>s.heap.get? d=some (lr es ep)/\R (.ok (.ret (.ref s.heap.objs.size))) {s with heap:=s.heap.push {cls:=.type "dict_items",data:=.fields #[.ref d]}}):=
 .of_wp λA R s h=>by
  obtain⟨hp,g,dr,tk,os⟩:=s;obtain⟨h2,h⟩:=h
  wp_walk
  exact⟨_,rfl,h⟩
theorem Pk (v d:Addr) (es:Array DictEntry) (ep:Nat):
  MeetsIn prog w (Builtin.«dict_values.__iter__» ⟨[.ref v],[]⟩) (λ_ R s=>s.heap.get? v=some {cls:=.type "dict_values",data:=.fields #[.ref d]}/\s.heap.get? d=some (lr es ep)/\
   R (.ok (.ret (.ref s.heap.objs.size))) {s with heap:=s.heap.push (uQ "dict_valueiterator" d 0 es.size ep)}):=
 .of_wp λA R s h=>by
  obtain⟨hp,g,dr,tk,os⟩:=s;obtain⟨h1,h2,h⟩:=h
  wp_walk
  exact⟨_,rfl,h⟩
theorem Pj (d:Addr) (es:Array DictEntry) (ep:Nat) (hd:(d == sysModules)=false):
  MeetsIn prog w (Builtin.«dict.__len__» ⟨[.ref d],[]⟩) (λ_ R s=>s.heap.get? d=some (lr es ep)/\R (.ok (.ret (.int es.size s.toks))) {s with toks:=s.toks+1}):=
 .of_wp λA R s h=>by
  obtain⟨hp,g,dr,tk,os⟩:=s;obtain⟨h2,h⟩:=h
  wp_walk
  refine⟨_,rfl,?_⟩;rw [show ((es.size:Int)+((0:Nat):Int))=es.size from Int.add_zero _]
  exact h
section
variable {A:Around} {E:Value->Shared->Prop} {s:Shared} {it d v:Addr} {es:Array DictEntry} {i ep:Nat} {e:DictEntry} {ok ov:Value}
theorem vh {Q:Value->Shared->Prop} (hd:(d == sysModules)=false) (h2:s.heap.get? d=some (lr es ep)) (h:Q (.ref s.heap.objs.size) {s with heap:=s.heap.push (uQ "dict_keyiterator" d 0 es.size ep)}):
  wpAny (model prog w) A (pyIter (.ref d)) Q E s:=
 have T:s.TypeIs (.ref d) "dict":=⟨_,h2,rfl⟩
 wpAny_pyIter_slot T F.slot_dict_iter (call_meetsIn F.slot_dict_iter T F.entry_dict_iter (F.args_dict_iter_1 _) (PL d es ep hd) ⟨h2,"dict_keyiterator",_,⟨_,P0 _ rfl,rfl⟩,F.slot_dict_keyiterator_next.lookup,h⟩)
theorem uS {Q:Value->Shared->Prop} (h1:s.heap.get? v=some {cls:=.type "dict_values",data:=.fields #[.ref d]}) (h2:s.heap.get? d=some (lr es ep)) (h:Q (.ref s.heap.objs.size) {s with heap:=s.heap.push (uQ "dict_valueiterator" d 0 es.size ep)}):
  wpAny (model prog w) A (pyIter (.ref v)) Q E s:=
 have T:s.TypeIs (.ref v) "dict_values":=⟨_,h1,rfl⟩
 wpAny_pyIter_slot T F.slot_dict_values_iter (call_meetsIn F.slot_dict_values_iter T F.entry_dict_values_iter (F.args_dict_values_iter_1 _) (Pk v d es ep) ⟨h1,h2,"dict_valueiterator",_,⟨_,P0 _ rfl,rfl⟩,F.slot_dict_valueiterator_next.lookup,h⟩)
theorem BK {Q:Value->Shared->Prop} (h1:s.heap.get? v=some {cls:=.type "dict_items",data:=.fields #[.ref d]}) (h2:s.heap.get? d=some (lr es ep)) (h:Q (.ref s.heap.objs.size) {s with heap:=s.heap.push (A' .none (.ref d) 0 es.size ep .none .none)}):
  wpAny (model prog w) A (pyIter (.ref v)) Q E s:=
 have T:s.TypeIs (.ref v) "dict_items":=⟨_,h1,rfl⟩
 wpAny_pyIter_slot T F.slot_dict_items_iter (call_meetsIn F.slot_dict_items_iter T F.entry_dict_items_iter (F.args_dict_items_iter_1 _) (Pw v d es ep) ⟨h1,h2,"dict_itemiterator",_,⟨_,P0 _ rfl,rfl⟩,F.slot_dict_itemiterator_next.lookup,h⟩)
theorem jp {T id:String} {f:Builtin} {φ} {Q:Option Value->Shared->Prop} (hs:Slot T "__next__" id) (hT:s.TypeIs (.ref it) T) (he:entryFor table id=some f) (ha:argsOk id ⟨[.ref it],[]⟩) (hm:MeetsIn prog w (f ⟨[.ref it],[]⟩) φ)
  (h:φ A (wants (λu s'=>Q (some u) s') λe s'=>(∃ a o,e=.ref a/\s'.heap.get? a=some o/\o.cls=.type "StopIteration")/\Q none s') s):wpAny (model prog w) A (pyNext (.ref it)) Q E s:=by
 unfold pyNext;refine gt (wpAny_attempt (Q3 (name:=Str.ofString "__next__") hT hs (QE (call_meetsIn hs hT he ha hm h) (λu s' q=>PZ q) λe s' q=>?_)))
 obtain⟨⟨a,o,rfl,g,c⟩,q⟩:=q;exact gt (wpAny_isInstance (T:="StopIteration") (b:=true) ⟨_,g,c⟩ isSubtype_stop (PZ q))
inductive uz where
 | k | v
def uz.nm:uz->String
 | .k=>"dict_keyiterator"
 | .v=>"dict_valueiterator"
def uz.of (e:DictEntry):uz->Value
 | .k=>e.key
 | .v=>e.val
theorem I_ (c:uz) {h:Heap} {it d:Addr} {i n ep:Nat} (h1:h.get? it=some (uQ c.nm d i n ep)):(h.update it (Obj.mapFields (·.setIfInBounds 1 (rawInt ((i:Int)+1))))).get? it=some (uQ c.nm d (i+1) n ep):=
 QL _ h1 rfl
theorem AD (c:uz) {Q:Option Value->Shared->Prop} (h1:s.heap.get? it=some (uQ c.nm d i es.size ep)) (h2:s.heap.get? d=some (lr es ep)) (hx:es[i]?=some e)
  (h:∀ h',h'.get? it=some (uQ c.nm d (i+1) es.size ep)->(∀ b o,b≠it->s.heap.get? b=some o->h'.get? b=some o)->Q (some (uz.of e c)) {s with heap:=h'}):wpAny (model prog w) A (pyNext (.ref it)) Q E s:=by
 have far:∀ b o,b≠it->s.heap.get? b=some o->(s.heap.update it (Obj.mapFields (·.setIfInBounds 1 (rawInt ((i:Int)+1))))).get? b=some o:=λb o nb x=>(Qw _ _ (Ne.symm nb)).trans x
 have z:=h _ (I_ c h1) far;cases c with
 | k=>exact jp F.slot_dict_keyiterator_next ⟨_,h1,rfl⟩ F.entry_dict_keyiterator_next (F.args_dict_keyiterator_next_1 _) (PV it d es i ep e hx) ⟨h1,h2,z⟩
 | v=>exact jp F.slot_dict_valueiterator_next ⟨_,h1,rfl⟩ F.entry_dict_valueiterator_next (F.args_dict_valueiterator_next_1 _) (Pe it d es i ep e hx) ⟨h1,h2,z⟩
theorem ye (c:uz) {Q:Option Value->Shared->Prop} (hh:A.handled=none) (h1:s.heap.get? it=some (uQ c.nm d i es.size ep)) (h2:s.heap.get? d=some (lr es ep)) (hx:es[i]?=none)
  (h:∀ h',(∀ b o,b≠it->s.heap.get? b=some o->h'.get? b=some o)->Q none {s with heap:=h'}):wpAny (model prog w) A (pyNext (.ref it)) Q E s:=by
 cases c with
 | k=>exact jp F.slot_dict_keyiterator_next ⟨_,h1,rfl⟩ F.entry_dict_keyiterator_next (F.args_dict_keyiterator_next_1 _) (PQ it d es i ep hx) ⟨hh,h1,h2,λh' e x ⟨o,y1,y2⟩=>⟨⟨e,o,rfl,y1,y2⟩,h h' x⟩⟩
 | v=>exact jp F.slot_dict_valueiterator_next ⟨_,h1,rfl⟩ F.entry_dict_valueiterator_next (F.args_dict_valueiterator_next_1 _) (Px it d es i ep hx) ⟨hh,h1,h2,λh' e x ⟨o,y1,y2⟩=>⟨⟨e,o,rfl,y1,y2⟩,h h' x⟩⟩
theorem HN {Q:Option Value->Shared->Prop} (h1:s.heap.get? it=some (A' .none (.ref d) i es.size ep ok ov)) (h2:s.heap.get? d=some (lr es ep)) (hx:es[i]?=some e)
  (h:∀ h',h'.get? it=some (A' (rawInt s.heap.objs.size) (.ref d) (i+1) es.size ep e.key e.val)->h'.get? s.heap.objs.size=some {cls:=.type "tuple",data:=.seq #[e.key,e.val]}->(∀ b o,b≠it->s.heap.get? b=some o->h'.get? b=some o)->
   Q (some (.ref s.heap.objs.size)) {s with heap:=h'}):wpAny (model prog w) A (pyNext (.ref it)) Q E s:=
 jp F.slot_dict_itemiterator_next ⟨_,h1,rfl⟩ F.entry_dict_itemiterator_next (F.args_dict_itemiterator_next_1 _) (PC it d es i ep e ok ov hx) ⟨h1,h2,λh' a b c=>h h' a b c⟩
theorem C7 {Q:Option Value->Shared->Prop} (hh:A.handled=none) (h1:s.heap.get? it=some (A' .none (.ref d) i es.size ep ok ov)) (h2:s.heap.get? d=some (lr es ep)) (hx:es[i]?=none)
  (h:∀ h',(∀ b o,b≠it->s.heap.get? b=some o->h'.get? b=some o)->Q none {s with heap:=h'}):wpAny (model prog w) A (pyNext (.ref it)) Q E s:=
 jp F.slot_dict_itemiterator_next ⟨_,h1,rfl⟩ F.entry_dict_itemiterator_next (F.args_dict_itemiterator_next_1 _) (PF it d es i ep ok ov hx) ⟨hh,h1,h2,λh' e x ⟨o,y1,y2⟩=>⟨⟨e,o,rfl,y1,y2⟩,h h' x⟩⟩
theorem LB {elts:List Expr} {x1} {pos:Pos} {T:Addr} {Q:Unit->Shared->Prop} (h1:s.heap.get? it=some (A' (rawInt T) (.ref d) i es.size ep ok ov))
  (h:∀ h',h'.get? it=some (A' .none (.ref d) i es.size ep ok ov)->(∀ b o,b≠it->s.heap.get? b=some o->h'.get? b=some o)->Q () {s with heap:=h'}):wpAny (model prog w) A (letOwnedTupleGo (.Tuple elts x1 pos) (.ref it) (.ref T)) Q E s:=
 wpAny_letOwnedTupleGo_items h1 λh' a b=>h h' a λc o n x=>b.extBut c o n x
theorem AM (c:uz) {n:Nat} {Q:Value->Shared->Prop} (h1:s.heap.get? it=some (uQ c.nm d i n ep)) (h:Q (.ref it) s):wpAny (model prog w) A (pyIter (.ref it)) Q E s:=by
 cases c with
 | k=>exact wpAny_pyIter_keyiter ⟨_,h1,rfl,rfl⟩ h
 | v=>exact wpAny_pyIter_valiter ⟨_,h1,rfl,rfl⟩ h
theorem G5 {n:Nat} {x:Value} {Q:Value->Shared->Prop} (h1:s.heap.get? it=some (A' x (.ref d) i n ep ok ov)) (h:Q (.ref it) s):wpAny (model prog w) A (pyIter (.ref it)) Q E s:=by
 have T:s.TypeIs (.ref it) "dict_itemiterator":=⟨_,h1,rfl⟩
 have en:entryFor table "dict_itemiterator.__iter__"=some Builtin.«dict_keyiterator.__iter__»:=PySem.W.kcp_entry
 refine wpAny_pyIter_slot T F.slot_dict_itemiterator_iter (QP F.slot_dict_itemiterator_iter T en ?_ (F.args_dict_itemiterator_iter_1 _));exact PZ ⟨_,rfl,"dict_itemiterator",_,T,F.slot_dict_itemiterator_next.lookup,h⟩
end
end
end PySem
namespace DL
open PySem PySem.Spec PyProof.Rows L2
def jC (k:List Int):D:=.tup (k.map .int)
def fX (kvs:List (List Int×D)) (k:List Int):Option D:=(kvs.find? λp=>decide (p.1=k)).map (·.2)
def t_ (kvs:List (List Int×D)) (k:List Int) (d:D):List (List Int×D):=if (fX kvs k).isSome then kvs.map (λp=>if p.1=k then(p.1,d) else p) else kvs++[(k,d)]
section
variable {K:Fg} {H H':Hp} {S:DH} {p:Addr}
theorem Cd.step' {a:Addr} {o:DO} (z:Cd K H a o) (k:Kp H H') (s:H' a=H a):Cd K H' a o:=
 Hs.step (S:=λb=>if b=a then some o else none) (λb u e=>by
  by_cases q:b=a
  ·subst q; cases (if_pos rfl).symm.trans e; exact z
  ·cases (if_neg q).symm.trans e) k (λb u e=>by
  by_cases q:b=a
  ·subst q; exact s
  ·cases (if_neg q).symm.trans e) a o (if_pos rfl)
theorem Hs.setG {o u:HO} {g:IS} (h:Hs K H S) (e:H p=some u) (n:¬ NK u) (r:pQ K (bz H p o) p g):Hs K (bz H p o) (put S p (.gen g)):=λa ob q=>by
 by_cases z:a=p
 ·subst z;rw [av] at q;cases q;exact r
 ·rw [cQ z] at q;exact Cd.step' (h a ob q) (Kp.mut e n) (aK z)
theorem Hs.newG {o:HO} {g:IS} (h:Hs K H S) (e:H p=none) (r:pQ K (bz H p o) p g):Hs K (bz H p o) (put S p (.gen g)):=λa ob q=>by
 by_cases z:a=p
 ·subst z;rw [av] at q;cases q;exact r
 ·rw [cQ z] at q;exact Cd.step' (h a ob q) (Kp.new e) (aK z)
theorem Hs.dT {kvs:List (List Int×D)} {ep:Nat} (h:Hs K H S) (e:S p=some (.gen (.dT kvs ep))):∃ xs,H p=some (.ext (lq p xs ep))/\mW K H kvs xs:=h p _ e
theorem kL:∀ {k:List Int} {xs:List V},IsDs K H (k.map D.int) xs↔xs=k.map V.int
 | [],xs=>j'
 | i::k,xs=>by
  rw [Qd,Qd,c8]
  constructor
  ·rintro⟨v,r,rfl,h1,h2⟩;rw [isInt.mp h1,kL.mp h2]
  ·rintro rfl;exact⟨_,_,rfl,isInt.mpr rfl,kL.mpr rfl⟩
theorem qy {k:List Int} {v:V}:bV K H (jC k) v↔∃ b,v=.ref b/\m9 K H b (k.map V.int):=by
 unfold jC;rw [cy]
 constructor
 ·rintro⟨a,xs,e,t,j⟩;rw [kL.mp j] at t;exact⟨a,e,t⟩
 ·rintro⟨b,e,t⟩;exact⟨b,_,e,t,kL.mpr rfl⟩
variable {kvs:List (List Int×D)} {xs:List (List Int×Addr×Value)}
theorem mW.get (r:mW K H kvs xs) (k:List Int):(fX kvs k=none/\atKey xs k=none)\/∃ d b u v,fX kvs k=some d/\atKey xs k=some (b,u)/\aS v u/\bV K H d v:=by
 induction r with
 | nil=>exact .inl ⟨rfl,rfl⟩
 | @cons p q ps qs h t ih=>
  obtain⟨h1,h2,v,h3,h4⟩:=h
  by_cases e:p.1=k
  ·exact .inr ⟨p.2,q.2.1,q.2.2,v,by simp [fX,Qg,e],by simp [atKey,Qg,h1.symm.trans e],h3,h4⟩
  ·have e':¬ q.1=k:=λz=>e (h1.trans z)
   have a1:fX (p::ps) k=fX ps k:=by simp [fX,Qg,e]
   have a2:atKey (q::qs) k=atKey qs k:=by simp [atKey,Qg,e']
   rw [a1,a2];exact ih
theorem mW.isSome (r:mW K H kvs xs) (k:List Int):(fX kvs k).isSome=(atKey xs k).isSome:=by
 rcases r.get k with ⟨a,b⟩ | ⟨d,b,u,v,a,c,_⟩
 ·rw [a,b]; rfl
 ·rw [a,c]; rfl
theorem mW.put (r:mW K H kvs xs) {k:List Int} {b:Addr} {d:D} {v:V} {u:Value} (hb:m9 K H b (k.map V.int)) (rv:aS v u) (hd:bV K H d v):mW K H (t_ kvs k d) (storedH xs k b u):=by
 unfold t_ storedH;rw [r.isSome k]
 by_cases q:(atKey xs k).isSome=true
 ·rw [if_pos q,if_pos q];clear q
  induction r with
  | nil=>exact .nil
  | @cons p q ps qs h t ih=>
   rw [Qd,Qd];refine .cons ?_ ih;obtain⟨h1,h2,v',h3,h4⟩:=h;unfold putAt
   by_cases e:p.1=k
   ·rw [if_pos e,if_pos (h1.symm.trans e)]; exact⟨h1,h2,v,rv,hd⟩
   ·rw [if_neg e,if_neg (λz=>e (h1.trans z))]; exact⟨h1,h2,v',h3,h4⟩
 ·rw [if_neg q,if_neg q];exact Paired.snoc r ⟨rfl,hb,v,rv,hd⟩
theorem mW.length (r:mW K H kvs xs):kvs.length=xs.length:=Paired.length r
theorem mW.at_:∀ {kvs:List (List Int×D)} {xs:List (List Int×Addr×Value)} {i:Nat} {p:List Int×D},mW K H kvs xs->kvs[i]?=some p->∃ q,xs[i]?=some q/\p.1=q.1/\m9 K H q.2.1 (p.1.map V.int)/\∃ v,aS v q.2.2/\bV K H p.2 v
 | _,_,0,_,.cons h _,e=>by cases e; exact⟨_,rfl,h⟩
 | _,_,i+1,_,.cons _ t,e=>mW.at_ (i:=i) t e
end
section
variable {X:Cx} {pins:List (Addr×Obj)} {σ:L2.St} {H:Hp} {s:Shared} {a b:Addr} {kvs:List (List Int×D)} {xs:List (List Int×Addr×Value)} {ep:Nat} {k:List Int}
theorem items_int {P:Program} {w:World}:∀ {ks:List Int} {us:List Value},a_ (ks.map V.int) us->PySem.ItemsAre (intKind P w) ks us
 | [],_,r=>by rw [List.map_nil] at r; cases r; exact .nil
 | k::ks,_,r=>by
  rw [Qd] at r;cases r with
  | cons h t=>
   obtain⟨tk,rfl⟩:=h;exact .cons (by simp [intKind,Value.isInt]) (items_int t)
theorem mY (I:ay X pins σ H s) (h:m9 X.K H b (k.map V.int)):(tupleKind (intKind X.prog X.w)).is s.heap k b:=by
 obtain⟨its,r,⟨o,h1,h2,n,h3⟩,_⟩:=I.tuple h;exact⟨o,its.toArray,n,h1,h2,h3,by simpa using items_int r⟩
theorem cc (I:ay X pins σ H s) (e:H a=some (.ext (lq a xs ep))):(a == sysModules)=false/\xs.length<=sizeLine/\(xs.map (·.1)).Nodup/\s.heap.get? a=some (lr (xs.map eT).toArray ep):=(I.hok a _ e).1
theorem rN (I:ay X pins σ H s) (e:H a=some (.ext (lq a xs ep))) (r:mW X.K H kvs xs):s.heap.DictOfH (tupleKind (intKind X.prog X.w)) a xs:=by
 obtain⟨_,z,nd,g⟩:=cc I e;refine⟨_,_,ep,g,⟨rfl,rfl,rfl⟩,rfl,rfl,?_,nd⟩;clear z nd g e
 induction r with
 | nil=>intro x hx; exact nomatch hx
 | @cons p q ps qs h t ih=>
  intro x hx;rcases P8.mp hx with e | hx
  ·subst e;rw [<- h.1];exact mY I h.2.1
  ·exact ih x hx
theorem yD {P:Program} {w:World} {h:Heap} (hd:(a == sysModules)=false) (z:xs.length<=sizeLine) (m:h.DictOfH (tupleKind (intKind P w)) a xs):∃ ep,lq a xs ep h:=by
 obtain⟨⟨c,d,dt,sl⟩,es,ep,g,⟨c1,c2,c3⟩,c4,c5,_,nd⟩:=m;have q:es=(xs.map eT).toArray:=by
  have:es.toList=xs.map eT:=c5;rw [<- this]
 refine⟨ep,hd,z,nd,?_⟩;rw [g];cases c1; cases c2; cases c3; cases c4
 rw [q]
 rfl
theorem qg {P:Program} {w:World} {h:Heap} (m:lq a xs ep h):dc P w H h a (.ext (lq a xs ep)):=
 ⟨m,⟨_,m.2.2.2⟩,λh1 h2 p q=>⟨p.1,p.2.1,p.2.2.1,q _ p.2.2.2⟩⟩
theorem jc (xs:List (List Int×Addr×Value)) (k:List Int) (b:Addr) (u:Value):(storedH xs k b u).length<=xs.length+1:=by
 unfold storedH
 split
 ·rw [P5]; omega
 ·rw [Ql]; exact P3 _
theorem un1 {n:Nat} {A:Around} (hr:ce n A):A.units+1 < cLine:=by have:=hr.un; omega
def Eg (go gi:DE):DE:=λL S k=>go L S λd S1=>gi L S1 λe S2=>match d with
 | .ref a=>∃ kvs ep ks c,S2 a=some (.gen (.dT kvs ep))/\e=jC ks/\fX kvs ks=some c/\k c S2
 | _=>False
def JG (K:Fg) (to ti:TE):TE:=fun σ H Q=>to σ H λx H1=>ti σ H1 λy H2=>∃ a b kvs xs ep ks p v,x=.ref a/\y=.ref b/\H2 a=some (.ext (lq a xs ep))/\mW K H2 kvs xs/\m9 K H2 b (ks.map V.int)/\atKey xs ks=some p/\aS v p.2/\Q v H2
theorem EX {o i:Expr} {to ti:TE} {pos:Pos} {n:Nat} (hr:ce n X.A) (ho:PE X o to) (hi:PE X i ti) (hs:DP i):PE X (.Subscript o i pos) (JG X.K to ti):=by
 intro pins s σ H Q I h;refine AN PySem.F.slot_dict_getitem.lookup hs (b9 (ho pins s σ H _ I h) λu s1 ⟨x,H1,I1,rx,h1⟩=>b9 (hi pins s1 σ H1 _ I1 h1) λiv s2 ⟨y,H2,I2,ry,a,b,kvs,xs,ep,ks,p,v,ex,ey,e1,r1,t1,z2,z3,q⟩=>?_)
 subst ex ey;obtain rfl:u=Value.ref a:=rx;cases (show iv=Value.ref b from ry)
 have dd:=rN I2 e1 r1;exact⟨dd.typeIs,wpAny_getItem_heap (tupleKind_room_in1 (un1 hr)) (mY I2 t1) dd z2 ⟨v,H2,I2.tok _,z3,q⟩⟩
theorem vp {o i:Expr} {go gi:DE} {pos:Pos} {n:Nat} (hr:ce n X.A) (ho:EJ X o go) (hi:EJ X i gi) (hs:DP i):EJ X (.Subscript o i pos) (Eg go gi):=
 ⟨PE.imp (EX hr ho.h hi.h hs) fun σ H Q ⟨L,S,k,hL,hS,h,m⟩=>up.go hL hS h λd S1 x H1 h1 k1 hL1 hS1 i1=>up.go hL1 hS1 h1 λe S2 y H2 h2 k2 hL2 hS2 i2=>by
  cases d with
  | ref a=>
   obtain⟨kvs,ep,ks,c,g1,rfl,g3,h2⟩:=h2;obtain⟨xs,e1,r1⟩:=hS2.dT g1;obtain⟨b,rfl,t1⟩:=qy.mp i2;have ex:=aX.mp i1;subst ex;rcases r1.get ks with ⟨z,_⟩ | ⟨d,b',w,v,z1,z2,z3,z4⟩
   ·rw [g3] at z; cases z
   ·rw [g3] at z1;cases z1;exact⟨a,b,kvs,xs,ep,ks,_,v,rfl,rfl,e1,r1,t1,z2,z3,m c S2 v H2 h2 (k1.trans k2) hS2 z4⟩
  | _=>exact(show False from h2).elim⟩
def Ng (K:Fg):C':=λx y v H Q=>∃ a b kvs xs ep ks,x=.ref a/\y=.ref b/\H a=some (.ext (lq a xs ep))/\mW K H kvs xs/\m9 K H b (ks.map V.int)/\xs.length < sizeLine/\∀ u ep',aS v u->Q (bz H a (.ext (lq a (storedH xs ks b u) ep')))
theorem De {n:Nat} (hr:ce n X.A):F9 X (Ng X.K):=by
 intro pins s σ H o i v ov iv u Q I ro ri rv h;obtain⟨a,b,kvs,xs,ep,ks,rfl,rfl,e1,r1,t1,z,q⟩:=h;cases (show ov=Value.ref a from ro)
 cases (show iv=Value.ref b from ri)
 have hd:=(cc I e1).1;refine wpAny_setItem_heap (hsz:=Nat.le_of_lt z) (tupleKind_room_in1 (un1 hr)) (mY I t1) (rN I e1 r1) λh' dd' hs=>?_
 have z':(storedH xs ks b u).length<=sizeLine:=by have:=jc xs ks b u; omega
 obtain⟨ep',m⟩:=yD hd z' dd';exact⟨_,rg I (by rw [e1]; exact True.intro) hs ⟨_,m.2.2.2⟩ (qg m),q u ep' rv⟩
def Ff (go gi:DE):DG:=λd L S k=>go L S λo S1=>gi L S1 λi S2=>match o with
 | .ref a=>∃ kvs ep ks,S2 a=some (.gen (.dT kvs ep))/\i=jC ks/\kvs.length < sizeLine/\∀ ep',k L (put S2 a (.gen (.dT (t_ kvs ks d) ep')))
 | _=>False
theorem vx {o i:Expr} {go gi:DE} {pos:Pos} {n:Nat} (hr:ce n X.A) (ho:EJ X o go) (hi:EJ X i gi)
  (ha:∀ v,assign (.Subscript o i pos) X.env v=(do
   let ov <- holding [v] (eval o X.env)
   let iv <- holding [v,ov] (eval i X.env)
   standAt pos
   holding [v,ov,iv] (setItem ov iv v)
   release [v,ov,iv] []):=by intro _; rfl):GJ X (.Subscript o i pos) (Ff go gi):=
 ⟨PG.imp (y7 ho.h hi.h (De hr) ha) λv σ H Q ⟨d,L,S,k,i1,hL,hS,h,m⟩=>up.go hL hS h λc S1 u H1 h1 k1 hL1 hS1 j1=>up.go hL1 hS1 h1 λc2 S2 u2 H2 h2 k2 hL2 hS2 j2=>by
  cases c with
  | ref a=>
   obtain⟨kvs,ep,ks,g1,rfl,z,h2⟩:=h2;obtain⟨xs,e1,r1⟩:=hS2.dT g1;obtain⟨b,rfl,t1⟩:=qy.mp j2;have ex:=aX.mp j1;subst ex;refine⟨a,b,kvs,xs,ep,ks,rfl,rfl,e1,r1,t1,by rw [<- r1.length]; exact z,λw ep' rw'=>?_⟩
   have k3:Kp H2 (bz H2 a (.ext (lq a (storedH xs ks b w) ep'))):=Kp.mut e1 (λz=>z)
   exact m L _ σ _ (h2 ep') (k1.trans (k2.trans k3)) (hL2.kp k3) (hS2.setG e1 (λz=>z) ⟨_,bu,(r1.put t1 rw' (i1.kp (k1.trans k2))).kp k3⟩)
  | _=>exact(show False from h2).elim⟩
def Iy:DE:=λ_ S k=>∀ p,S p=none->∀ ep,k (.ref p) (put S p (.gen (.dT [] ep)))
theorem uM (h:Heap) (hb:sysModules < h.objs.size):lq h.objs.size [] 0 (h.push {cls:=.type "dict",data:=.dict #[]}):=
 ⟨beq_eq_false_iff_ne.mpr (Ne.symm (P9 hb)),QW _,List.nodup_nil,P0 _ rfl⟩
theorem wo {pos:Pos}:EJ X (.Dict [] [] pos) Iy:=⟨λpins s σ H Q I ⟨L,S,k,hL,hS,h,m⟩=>by
 have hn:=I.hok.fresh (P3 s.heap.objs.size);refine wpAny_Dict_empty ⟨.ref s.heap.objs.size,_,I.laid (a:=s.heap.objs.size) (o:=.ext (lq s.heap.objs.size [] 0)) (t':=s.toks) (λ_ _ q=>pp _ q) (P3 _) (qg (uM s.heap I.big)),rfl,?_⟩
 exact m _ _ _ _ (h _ (hS.free hn) 0) (Kp.new hn) (hS.newG hn ⟨[],bu,.nil⟩) (aX.mpr rfl)⟩
end
end DL
namespace L2
open PySem PySem.Spec PyProof.Rows
theorem Ae {X:Cx} {pins:List (Addr×Obj)} {σ:St} {H:Hp} {s:Shared} {a:Addr} {xs ys:List (List Int×Addr×Value)} {ep ep' i:Nat} {x:List Int×Addr×Value} (I:ay X pins σ H s) (e1:H a=some (.ext (DL.lq a xs ep))) (e2:H a=some (.ext (DL.lq a ys ep')))
  (hx:xs[i]?=some x):∃ y,ys[i]?=some y/\DL.eT y=DL.eT x:=by
 have g1:=(DL.cc I e1).2.2.2;have g2:=(DL.cc I e2).2.2.2;have z:=Qx (g1.symm.trans g2);have q:xs.map DL.eT=ys.map DL.eT:=by
  unfold DL.lr at z;injection z with _ _ z _
  injection z with z _
  exact congrArg Array.toList z
 have w:(ys.map DL.eT)[i]?=some (DL.eT x):=by rw [<- q,Qt,hx]; rfl
 rw [Qt] at w;exact QQ.mp w
def NH (c:uz) (a:Addr) (ep n:Nat):It:=
 ⟨λi H => ∃ xs x v, H a = some (.ext (DL.lq a xs ep)) ∧ xs[i]? = some x ∧ xs.length = n ∧ aS v (uz.of (DL.eT x) c),
  λi H v H'=>H'=H/\∀ xs,H a=some (.ext (DL.lq a xs ep))->∃ x,xs[i]?=some x/\aS v (uz.of (DL.eT x) c),
  λi H=>∃ xs,H a=some (.ext (DL.lq a xs ep))/\xs.length=n/\n<=i⟩
theorem vc {P:Program} {w:World} {K:PySem.W.Frag} {tg:Expr} (c:uz) (a it:Addr) (ep n:Nat):yG P w K tg (NH c a ep n) [it] it (λi h=>h.get? it=some (uQ c.nm a i n ep)) where
 mem:=by simp
 obj:=λi h st b hb=>by
  have e:b=it:=by simpa using hb
  subst e;exact⟨_,st,λv z=>by cases z⟩
 keep:=λi h h' st k=>k it (by simp) _ st
 item:=by
  intro X hP hw hK hc i pins s σ H E I hf st hg;subst hP hw hK;obtain⟨xs,x,v,e1,hx,hn,rv⟩:=hg;have g:=(DL.cc I e1).2.2.2;have sz:(xs.map DL.eT).toArray.size=n:=by simp [hn]
  obtain⟨f0,f1,f2,f3,f4,f5⟩:=hf it (by simp)
  refine AD c (e:=DL.eT x) (by rw [sz]; exact st) g (by simp [hx]) λh' st' kk=>?_
  have I1:ay X pins σ H {s with heap:=h'}:=I.turned (t':=s.toks) kk f0 f1 f3 f4 f5
  rw [sz] at st';refine⟨_,rfl,Ak (s:={s with heap:=h'}) (n:=c.nm) st' rfl rfl (by cases c <;> decide) ⟨v,H,I1,rv,⟨rfl,λys ey=>?_⟩,st',λb hb=>(hf b hb).1⟩⟩
  obtain⟨y,y1,y2⟩:=Ae I e1 ey hx;exact⟨y,y1,by rw [y2]; exact rv⟩
 done:=by
  intro X hP hw hK hc i pins s σ H E I hf st hg;subst hP hw hK;obtain⟨xs,e1,hn,hi⟩:=hg;have g:=(DL.cc I e1).2.2.2;have sz:(xs.map DL.eT).toArray.size=n:=by simp [hn]
  obtain⟨f0,f1,f2,f3,f4,f5⟩:=hf it (by simp)
  exact ye c (I.ok.hd hc) (by rw [sz]; exact st) g (by simp; omega) λh' kk=>⟨rfl,I.turned (t':=s.toks) kk f0 f1 f3 f4 f5⟩
 self:=λ_ _ _ _ _ st h=>AM c st h
def NY (a:Addr) (ep n:Nat):It:=
 ⟨λi H => ∃ xs x v, H a = some (.ext (DL.lq a xs ep)) ∧ xs[i]? = some x ∧ xs.length = n ∧ aS v x.2.2,
  λi H u H'=>∃ T b v,u=.ref T/\H T=none/\H'=bz H T (.tup [.ref b,v])/\∀ xs,H a=some (.ext (DL.lq a xs ep))->∃ x,xs[i]?=some x/\b=x.2.1/\aS v x.2.2,
  λi H=>∃ xs,H a=some (.ext (DL.lq a xs ep))/\xs.length=n/\n<=i⟩
theorem yB {P:Program} {w:World} {K:PySem.W.Frag} {es:List Expr} {k:Nat} {pos:Pos} (a it:Addr) (ep n:Nat) (ne:it≠a):yG P w K (.Tuple es k pos) (NY a ep n) [it] it (λi h=>∃ ok ov,h.get? it=some (A' .none (.ref a) i n ep ok ov)) where
 mem:=by simp
 obj:=λi h st b hb=>by
  have e:b=it:=by simpa using hb
  subst e;obtain⟨ok,ov,st⟩:=st;exact⟨_,st,λv z=>by cases z⟩
 keep:=λi h h' ⟨ok,ov,st⟩ k=>⟨ok,ov,k it (by simp) _ st⟩
 item:=by
  intro X hP hw hK hc i pins s σ H E I hf st hg;subst hP hw hK;obtain⟨ok,ov,st⟩:=st;obtain⟨xs,x,v,e1,hx,hn,rv⟩:=hg;have g:=(DL.cc I e1).2.2.2;have sz:(xs.map DL.eT).toArray.size=n:=by simp [hn]
  have hT:H s.heap.objs.size=none:=I.hok.fresh (P3 _);have old:it≠s.heap.objs.size:=P9 (P2 st);refine HN (e:=DL.eT x) (es:=(xs.map DL.eT).toArray) (by rw [sz]; exact st) g (by simp [hx]) λh' st' tp kk=>?_
  rw [sz] at st';have hfi:∀ b∈[it],qf X pins H b:=λb hb=>by
   have e:b=it:=by simpa using hb
   subst e;exact hf b (by simp)
  have I1:ay X pins σ (bz H s.heap.objs.size (.tup [.ref x.2.1,v])) {s with heap:=h'}:=I.turnedNew (t':=s.toks) [it] (λb o hb e=>kk b o (λq=>hb (by simp [q])) e) hfi (P3 _)
   ⟨Qi rfl,[_,_],.cons rfl (.cons rv .nil),⟨_,tp,rfl,_,rfl⟩⟩
  refine⟨_,rfl,LB (s:={s with heap:=h'}) (es:=(xs.map DL.eT).toArray) (by rw [sz]; exact st') λh2 st2 kk2=>?_⟩
  rw [sz] at st2;refine⟨.ref s.heap.objs.size,_,I1.turnedL (t':=s.toks) [it] (λb o hb e=>kk2 b o (λq=>hb (by simp [q])) e) (λb hb=>?_),rfl,⟨_,_,v,rfl,hT,rfl,λys ey=>?_⟩,⟨_,_,st2⟩,λb hb=>?_⟩
  ·have e:b=it:=by simpa using hb
   subst e;obtain⟨f0,f1,f2,f3,f4,f5⟩:=hf b (by simp)
   exact⟨by rw [aK old]; exact f0,f1,f2,f3,f4,f5⟩
  ·obtain⟨y,y1,y2⟩:=Ae I e1 ey hx;have q1:y.2.1=x.2.1:=Value.ref.inj (congrArg DictEntry.key y2);have q2:y.2.2=x.2.2:=congrArg DictEntry.val y2;exact⟨y,y1,q1.symm,by rw [q2]; exact rv⟩
  ·have e:b=it:=by simpa using hb
   subst e;rw [aK old];exact(hf b (by simp)).1
 done:=by
  intro X hP hw hK hc i pins s σ H E I hf st hg;subst hP hw hK;obtain⟨ok,ov,st⟩:=st;obtain⟨xs,e1,hn,hi⟩:=hg;have g:=(DL.cc I e1).2.2.2;have sz:(xs.map DL.eT).toArray.size=n:=by simp [hn]
  obtain⟨f0,f1,f2,f3,f4,f5⟩:=hf it (by simp)
  exact C7 (I.ok.hd hc) (by rw [sz]; exact st) g (by simp; omega) λh' kk=>⟨rfl,I.turned (t':=s.toks) kk f0 f1 f3 f4 f5⟩
 self:=λ_ _ _ _ _ ⟨_,_,st⟩ h=>G5 st h
section
variable {X:Cx} {tg l o:Expr} {tl to:TE} {apos cpos:Pos}
def MK (tl:TE):TI:=fun σ H R=>tl σ H λx H1=>∃ a ep xs,x=.ref a/\H1 a=some (.ext (DL.lq a xs ep))/\R (NH .k a ep xs.length) H1
theorem HE (hl:PE X l tl):PI X tg l (MK tl):=by
 intro pins s σ H R I h;refine b9 (hl pins s σ H _ I h) λv s1 ⟨x,H1,I1,r1,a,ep,xs,ex,e1,q⟩=>?_
 subst ex;cases (show v=Value.ref a from r1)
 obtain⟨hd,_,_,g⟩:=DL.cc I1 e1;refine vh hd g ⟨s1.heap.objs.size,[s1.heap.objs.size],_,_,H1,rfl,I1.kept (t':=s1.toks) λb o e=>pp _ e,vc .k a _ ep xs.length,?_,λb hb=>?_,q⟩
 ·show(s1.heap.push _).get? _=_
  rw [P0 _ rfl];simp [uz.nm]
 ·have e:b=s1.heap.objs.size:=by simpa using hb
  subst e;exact I1.fpOk (P3 _) (I1.hok.fresh (P3 _))
def L6 (to:TE):TI:=fun σ H R=>to σ H λx H1=>∃ a ep xs,x=.ref a/\H1 a=some (.ext (DL.lq a xs ep))/\R (NH .v a ep xs.length) H1
theorem HD (ho:PE X o to) (hbase:attributeBase o "values" X.env (eval o X.env)=eval o X.env:=by rfl) (hline:(apos.endLine == cpos.line)=true:=by rfl):PI X tg (.Call (.Attribute o "values" apos) [] [] cpos) (L6 to):=by
 intro pins s σ H R I h;refine wpAny_Call_method0_late hbase hline (b9 (ho pins s σ H _ I h) λv s1 ⟨x,H1,I1,r1,a,ep,xs,ex,e1,q⟩=>?_)
 subst ex;cases (show v=Value.ref a from r1)
 obtain⟨hd,_,_,g⟩:=DL.cc I1 e1;refine⟨"dict","dict.values",F.plainAttrs_dict,F.slot_dict_values,F.type_dict_values,⟨_,g,rfl⟩,λb e=>by cases e; exact⟨_,g,rfl⟩,Calls.callWith_builtin rfl (PySem.evalArgs_none ?_)⟩
 refine call_meetsIn F.slot_dict_values ⟨_,g,rfl⟩ F.entry_dict_values (F.args_dict_values_1 _) (OT a _ ep hd) ⟨g,?_⟩;have I2:ay X pins σ H1 {s1 with heap:=s1.heap.push {cls:=.type "dict_values",data:=.fields #[.ref a]}}:=I1.kept (t':=s1.toks) λb o e=>pp _ e
 refine uS (s:={s1 with heap:=s1.heap.push {cls:=.type "dict_values",data:=.fields #[.ref a]}}) (P0 _ rfl) (pp _ g) ⟨_,[_],_,_,H1,rfl,I2.kept (t':=s1.toks) λb o e=>pp _ e,vc .v a _ ep xs.length,?_,λb hb=>?_,q⟩
 ·show(Heap.push _ _).get? _=_
  rw [P0 _ rfl];simp [uz.nm]
 ·have e:b=(s1.heap.push {cls:=.type "dict_values",data:=.fields #[.ref a]}).objs.size:=by simpa using hb
  subst e;exact I2.fpOk (P3 _) (I2.hok.fresh (P3 _))
def J1 (to:TE):TI:=fun σ H R=>to σ H λx H1=>∃ a ep xs,x=.ref a/\H1 a=some (.ext (DL.lq a xs ep))/\R (NY a ep xs.length) H1
theorem CQ {es:List Expr} {k:Nat} {pos:Pos} (ho:PE X o to) (hbase:attributeBase o "items" X.env (eval o X.env)=eval o X.env:=by rfl) (hline:(apos.endLine == cpos.line)=true:=by rfl):PI X (.Tuple es k pos) (.Call (.Attribute o "items" apos) [] [] cpos) (J1 to):=by
 intro pins s σ H R I h;refine wpAny_Call_method0_late hbase hline (b9 (ho pins s σ H _ I h) λv s1 ⟨x,H1,I1,r1,a,ep,xs,ex,e1,q⟩=>?_)
 subst ex;cases (show v=Value.ref a from r1)
 obtain⟨hd,_,_,g⟩:=DL.cc I1 e1;refine⟨"dict","dict.items",F.plainAttrs_dict,F.slot_dict_items,F.type_dict_items,⟨_,g,rfl⟩,λb e=>by cases e; exact⟨_,g,rfl⟩,Calls.callWith_builtin rfl (PySem.evalArgs_none ?_)⟩
 refine call_meetsIn F.slot_dict_items ⟨_,g,rfl⟩ F.entry_dict_items (F.args_dict_items_1 _) (PR a _ ep hd) ⟨g,?_⟩;have I2:ay X pins σ H1 {s1 with heap:=s1.heap.push {cls:=.type "dict_items",data:=.fields #[.ref a]}}:=I1.kept (t':=s1.toks) λb o e=>pp _ e
 have ne:(s1.heap.push {cls:=.type "dict_items",data:=.fields #[.ref a]}).objs.size≠a:=Nat.ne_of_gt (Qb (P2 g) (by rw [QY]; omega))
 refine BK (s:={s1 with heap:=s1.heap.push {cls:=.type "dict_items",data:=.fields #[.ref a]}}) (P0 _ rfl) (pp _ g) ⟨_,[_],_,_,H1,rfl,I2.kept (t':=s1.toks) λb o e=>pp _ e,yB a _ ep xs.length ne,⟨.none,.none,?_⟩,λb hb=>?_,q⟩
 ·show(Heap.push _ _).get? _=_
  rw [P0 _ rfl];simp
 ·have e:b=(s1.heap.push {cls:=.type "dict_items",data:=.fields #[.ref a]}).objs.size:=by simpa using hb
  subst e;exact I2.fpOk (P3 _) (I2.hok.fresh (P3 _))
end
end L2
namespace DL
open PySem PySem.Spec PyProof.Rows L2
abbrev Cb:=Lo->DH->(List D->(DH->Prop)->DH->Prop)->Prop
structure HR (K:Fg) (H1:Hp) (J:It) (ds:List D) (ok:DH->Prop):Prop where
 go:∀ i d S2 H2,ds[i]?=some d->Kp H1 H2->Hs K H2 S2->ok S2->J.go i H2/\∀ x H',J.yld i H2 x H'->Kp H2 H'/\Hs K H' S2/\bV K H' d x
 stop:∀ S2 H2,Kp H1 H2->Hs K H2 S2->ok S2->J.stop ds.length H2
def OK (K:Fg) (g:Cb):TI:=fun σ H R=>∃ L S k,Lc K H L σ/\Hs K H S/\g L S k/\∀ ds ok S' H' J,k ds ok S'->Kp H H'->Lc K H' L σ->Hs K H' S'->HR K H' J ds ok->R J H'
structure IJ (X:Cx) (tg iter:Expr) (g:Cb):Prop where
 h:PI X tg iter (OK X.K g)
def Ij (gi:Cb) (g:DG) (b:DS):DS:=λM L S=>gi L S λds ok S1=>ja ok g b M ds L S1
def vv (cap:List (Option Nat)) (gi:Cb) (g:DG) (bd:DB):DE:=λL S k=>gi L S λds ok S1=>∀ p,S1 p=none->cz ok p g bd k ds [] (DQ cap L) (put S1 p (.lst []))
section
variable {K:Fg} {ok:DH->Prop} {gg:DG} {ge:DE} {gc:DT} {k:DK} {ds:List D} {L:Lo} {S:DH} {σ:L2.St} {H:Hp} {J:It} {p:Addr} {Q:V->Hp->Prop}
theorem vB (hL:Lc K H L σ) (hS:Hs K H S) (hp:H p=none) (h:cz ok p gg (tW gc ge) k ds [] L (put S p (.lst [])))
  (n:∀ d S' v H',k d S'->Kp H H'->Hs K H' S'->bV K H' d v->Q v H') (G:HR K H J ds ok):
  ∃ W:Nat->Nat->L2.St->Hp->Prop,(∃ m,W 0 m σ (bz H p (.lst [])))/\∀ i m σ' H',W i m σ' H'->
   (J.stop i H'/\Q (.ref p) H')\/(J.go i H'/\∃ N:L2.St->Hp->Prop,(∀ σ2 H2,N σ2 H2->∃ m',m' < m/\W (i+1) m' σ2 H2)/\∀ x H2,J.yld i H' x H2->A_ K gg x σ' H2 fun σ3 H3=>ml K gc σ3 H3 λb H3'=>if b=true then up K ge σ3 H3' λv H4=>∃ ys,H4 p=some (.lst ys)/\ys.length < sizeLine/\N σ3 (bz H4 p (.lst (ys++[v]))) else N σ3 H3'):=by
 refine⟨λi m σ1 H1=>m=ds.length - i/\i<=ds.length/\∃ acc L1 S1,Lc K H1 L1 σ1/\Hs K H1 S1/\Kp H H1/\cz ok p gg (tW gc ge) k (ds.drop i) acc L1 S1,⟨ds.length,by simp,QW _,[],L,_,hL.kp (Kp.new hp),hS.newL hp IsDs.nil,Kp.new hp,h⟩,?_⟩
 rintro i m σ1 H1 ⟨rfl,hi,acc,L1,S1,hL1,hS1,k1,w1⟩
 by_cases hlt:i < ds.length
 ·have e:ds.drop i=ds[i]::ds.drop (i+1):=QS hlt;rw [e] at w1;obtain⟨o1,w1⟩:=w1;obtain⟨g1,y1⟩:=G.go i ds[i] S1 H1 (by simp [hlt]) k1 hS1 o1
  refine .inr ⟨g1,fun σ' H'=>i+1<=ds.length/\∃ acc L' S',Lc K H' L' σ'/\Hs K H' S'/\Kp H H'/\cz ok p gg (tW gc ge) k (ds.drop (i+1)) acc L' S',fun σ' H' ⟨q1,q2⟩=>⟨ds.length - (i+1),by omega,rfl,q1,q2⟩,λx H' y=>?_⟩
  obtain⟨k0,hS0,ix⟩:=y1 x H' y;refine⟨ds[i],L1,S1,_,ix,hL1.kp k0,hS0,w1,λL2 S2 σ2 H2 q k2 hL2 hS2=>ml.go hL2 hS2 q λb S2' H2' h2 k2' hL2' hS2'=>?_⟩
  have kk:=((k1.trans k0).trans k2).trans k2';cases b with
  | true=>
   rw [if_pos rfl] at h2 ⊢;refine up.go hL2' hS2' h2 λd S3 v H3 h3 k3 hL3 hS3 i3=>?_
   obtain⟨z1,z2,z3⟩:=h3;obtain⟨xs,hl,j⟩:=hS3.lst z1;have k4:Kp H3 (bz H3 p (.lst (xs++[v]))):=Kp.mut hl (λz=>z)
   exact⟨xs,hl,by rw [<- j.length]; exact z2,hlt,_,L2,_,hL3.kp k4,hS3.setL hl (j.append (IsDs.cons i3 IsDs.nil)),(kk.trans k3).trans k4,z3⟩
  | false=>
   rw [if_neg P6] at h2 ⊢;exact⟨hlt,acc,L2,_,hL2',hS2',kk,h2⟩
 ·have e:i=ds.length:=by omega
  subst e;rw [List.drop_length] at w1;obtain⟨o1,w1⟩:=w1;exact .inl ⟨G.stop S1 H1 k1 hS1 o1,n _ S1 _ H1 w1 k1 hS1 (aX.mpr rfl)⟩
end
section
variable {X:Cx} {tg iter elt c:Expr} {gi:Cb} {gg:DG} {g:DS} {ge:DE} {gc:DT} {body:List Stmt} {pos:Pos} {scope:Scope} {cl:List (Str×Addr)} {N:List Str} {cap:List (Option Nat)}
theorem jY (hp:PassesOwn (model X.prog X.w) X.A X.env X.xe) (hc:X.calm=true) (hi:IJ X tg iter gi) (hg:GJ X tg gg) (hb:Ad X body g) (hs:∀ x,foldedSetIterable iter X.env x=pure x:=by intro _; rfl):
  SJ X (.For tg iter body [] pos) (Ij gi gg g):=
 ⟨PS.imp (vD hp hc hi.h hg.h hb.h hs) λN σ H ⟨L,S,M,hL,hS,h,r⟩=>⟨L,S,_,hL,hS,h,λds ok S1 H1 J h1 k1 hL1 hS1 G=>vg hL1 hS1 h1 (r.kp k1) G.go G.stop⟩⟩
theorem Eo {K:Fg}:∀ σ H Q,up K (vv cap gi gg (jR ge)) σ H Q->CL cap (OK K gi) (A_ K gg) (up K ge) σ H Q:=fun σ H Q ⟨L,S,k,hL,hS,h,n⟩=>
 ⟨L,S,_,hL,hS,h,λds ok S1 H1 J h1 k1 hL1 hS1 G D hD=>zA (hL1.cap cap) hS1 hD (h1 D (hS1.free hD)) (λd S' v H' q k3=>n d S' v H' q (k1.trans k3)) G.go G.stop⟩
theorem zl {K:Fg}:∀ σ H Q,up K (vv cap gi gg (tW gc ge)) σ H Q->Aa cap (OK K gi) (A_ K gg) (ml K gc) (up K ge) σ H Q:=fun σ H Q ⟨L,S,k,hL,hS,h,n⟩=>
 ⟨L,S,_,hL,hS,h,λds ok S1 H1 J h1 k1 hL1 hS1 G D hD=>vB (hL1.cap cap) hS1 hD (h1 D (hS1.free hD)) (λd S' v H' q k3=>n d S' v H' q (k1.trans k3)) G⟩
theorem sT (hc:X.calm=true) (Sc:hG X scope cl N cap) (hi:IJ X tg iter gi) (hg:∀ s0 H0 ex C,GJ (kc X scope cl N s0 H0 ex C) tg gg) (he:∀ s0 H0 ex C,EJ (kc X scope cl N s0 H0 ex C) elt ge)
  (hs:∀ x,foldedSetIterable iter X.env x=pure x:=by intro _; rfl):EJ X (.ListComp elt [⟨tg,iter,[],0⟩] scope pos) (vv cap gi gg (jR ge)):=
 ⟨PE.imp (At hc Sc hi.h (λs0 H0 ex C=>(hg s0 H0 ex C).h) (λs0 H0 ex C=>(he s0 H0 ex C).h) hs) Eo⟩
theorem zR (hc:X.calm=true) (Sc:hG X scope cl N cap) (hi:IJ X tg iter gi) (hg:∀ s0 H0 ex C,GJ (kc X scope cl N s0 H0 ex C) tg gg) (hcnd:∀ s0 H0 ex C,TJ (kc X scope cl N s0 H0 ex C) c gc) (he:∀ s0 H0 ex C,EJ (kc X scope cl N s0 H0 ex C) elt ge)
  (hs:∀ x,foldedSetIterable iter X.env x=pure x:=by intro _; rfl):EJ X (.ListComp elt [⟨tg,iter,[c],0⟩] scope pos) (vv cap gi gg (tW gc ge)):=
 ⟨PE.imp (vm hc Sc hi.h (λs0 H0 ex C=>(hg s0 H0 ex C).h) (λs0 H0 ex C=>(hcnd s0 H0 ex C).h) (λs0 H0 ex C=>(he s0 H0 ex C).h) hs) zl⟩
end
def BZ (c:uz) (kvs:List (List Int×D)):List D:=kvs.map λp=>match c with
 | .k=>jC p.1
 | .v=>p.2
def cN (kvs:List (List Int×D)):List D:=kvs.map λp=>.tup [jC p.1,p.2]
def HV (gi:DE) (f:List (List Int×D)->List D):Cb:=λL S k=>gi L S λd S1=>match d with
 | .ref a=>∃ kvs ep,S1 a=some (.gen (.dT kvs ep))/\k (f kvs) (λS=>S a=some (.gen (.dT kvs ep))) S1
 | _=>False
theorem u7 (c:uz) {K:Fg} {H1:Hp} {a:Addr} {kvs:List (List Int×D)} {ep:Nat}:HR K H1 (NH c a ep kvs.length) (BZ c kvs) (λS=>S a=some (.gen (.dT kvs ep))) where
 go:=λi d S2 H2 e k2 hS2 ok=>by
  obtain⟨xs,e1,r1⟩:=hS2.dT ok;unfold BZ at e;rw [Qt] at e;obtain⟨p,hp,rfl⟩:=QQ.mp e;obtain⟨q,hq,h1,h2,v,h3,h4⟩:=r1.at_ hp;cases c with
  | k=>
   refine⟨⟨xs,q,.ref q.2.1,e1,hq,r1.length.symm,rfl⟩,?_⟩;rintro x H' ⟨rfl,al⟩;obtain⟨q',hq',rv⟩:=al xs e1;rw [hq] at hq';cases hq';rw [aS.inj (show aS x (Value.ref q.2.1) from rv) (show aS (.ref q.2.1) (Value.ref q.2.1) from rfl)]
   exact⟨Kp.refl _,hS2,qy.mpr ⟨_,rfl,h2⟩⟩
  | v=>
   refine⟨⟨xs,q,v,e1,hq,r1.length.symm,h3⟩,?_⟩;rintro x H' ⟨rfl,al⟩;obtain⟨q',hq',rv⟩:=al xs e1;rw [hq] at hq';cases hq';rw [aS.inj (show aS x q.2.2 from rv) h3]
   exact⟨Kp.refl _,hS2,h4⟩
 stop:=λS2 H2 k2 hS2 ok=>by
  obtain⟨xs,e1,r1⟩:=hS2.dT ok;exact⟨xs,e1,r1.length.symm,by unfold BZ; rw [P5]; exact P3 _⟩
theorem yF {K:Fg} {H1:Hp} {a:Addr} {kvs:List (List Int×D)} {ep:Nat}:HR K H1 (NY a ep kvs.length) (cN kvs) (λS=>S a=some (.gen (.dT kvs ep))) where
 go:=λi d S2 H2 e k2 hS2 ok=>by
  obtain⟨xs,e1,r1⟩:=hS2.dT ok;unfold cN at e;rw [Qt] at e;obtain⟨p,hp,rfl⟩:=QQ.mp e;obtain⟨q,hq,h1,h2,v,h3,h4⟩:=r1.at_ hp;refine⟨⟨xs,q,v,e1,hq,r1.length.symm,h3⟩,?_⟩;rintro x H' ⟨T,b,v',rfl,hT,rfl,al⟩;obtain⟨q',hq',rfl,rv⟩:=al xs e1;rw [hq] at hq';cases hq';rw [aS.inj rv h3];have kn:Kp H2 (bz H2 T (.tup [.ref q.2.1,v])):=Kp.new hT;exact⟨kn,hS2.new hT,cy.mpr ⟨T,_,rfl,m9.of bu,IsDs.cons (qy.mpr ⟨_,rfl,kn.tup h2⟩) (IsDs.cons (h4.kp kn) IsDs.nil)⟩⟩
 stop:=λS2 H2 k2 hS2 ok=>by
  obtain⟨xs,e1,r1⟩:=hS2.dT ok;exact⟨xs,e1,r1.length.symm,by unfold cN; rw [P5]; exact P3 _⟩
section
variable {X:Cx} {tg o:Expr} {go:DE} {apos cpos:Pos}
theorem rn (ho:EJ X o go):IJ X tg o (HV go (BZ .k)):=⟨PI.imp (HE ho.h) fun σ H R ⟨L,S,k,hL,hS,h,n⟩=>up.go hL hS h λd S1 v H1 h1 k1 hL1 hS1 i1=>by
  cases d with
  | ref a=>
   obtain⟨kvs,ep,g1,h1⟩:=h1;obtain⟨xs,e1,r1⟩:=hS1.dT g1;have ex:=aX.mp i1;subst ex;exact⟨a,ep,xs,rfl,e1,n _ _ _ _ _ h1 k1 hL1 hS1 (r1.length▸u7 .k)⟩
  | _=>exact(show False from h1).elim⟩
theorem HL (ho:EJ X o go) (hbase:attributeBase o "values" X.env (eval o X.env)=eval o X.env:=by rfl) (hline:(apos.endLine == cpos.line)=true:=by rfl):IJ X tg (.Call (.Attribute o "values" apos) [] [] cpos) (HV go (BZ .v)):=⟨PI.imp (HD ho.h hbase hline) fun σ H R ⟨L,S,k,hL,hS,h,n⟩=>up.go hL hS h λd S1 v H1 h1 k1 hL1 hS1 i1=>by
  cases d with
  | ref a=>
   obtain⟨kvs,ep,g1,h1⟩:=h1;obtain⟨xs,e1,r1⟩:=hS1.dT g1;have ex:=aX.mp i1;subst ex;exact⟨a,ep,xs,rfl,e1,n _ _ _ _ _ h1 k1 hL1 hS1 (r1.length▸u7 .v)⟩
  | _=>exact(show False from h1).elim⟩
theorem oQ {es:List Expr} {k:Nat} {pos:Pos} (ho:EJ X o go) (hbase:attributeBase o "items" X.env (eval o X.env)=eval o X.env:=by rfl) (hline:(apos.endLine == cpos.line)=true:=by rfl):IJ X (.Tuple es k pos) (.Call (.Attribute o "items" apos) [] [] cpos) (HV go cN):=⟨PI.imp (CQ ho.h hbase hline) fun σ H R ⟨L,S,k,hL,hS,h,n⟩=>up.go hL hS h λd S1 v H1 h1 k1 hL1 hS1 i1=>by
  cases d with
  | ref a=>
   obtain⟨kvs,ep,g1,h1⟩:=h1;obtain⟨xs,e1,r1⟩:=hS1.dT g1;have ex:=aX.mp i1;subst ex;exact⟨a,ep,xs,rfl,e1,n _ _ _ _ _ h1 k1 hL1 hS1 (r1.length▸yF)⟩
  | _=>exact(show False from h1).elim⟩
end
section
variable {X:Cx} {o e f:Expr} {go ge gf:DE} {to te tf:TE} {apos cpos:Pos}
def Jz (K:Fg) (to te tf:TE):TE:=fun σ H Q=>to σ H λx H1=>∃ a xs ep,x=.ref a/\H1 a=some (.ext (lq a xs ep))/\te σ H1 λy H2=>tf σ H2 λz H3=>∃ b kvs xs ep ks v,y=.ref b/\H3 a=some (.ext (lq a xs ep))/\mW K H3 kvs xs/\m9 K H3 b (ks.map V.int)/\(∀ r,aS z r->aS v (((atKey xs ks).map (·.2)).getD r))/\Q v H3
theorem CT {n:Nat} (hr:ce n X.A) (ho:PE X o to) (he:PE X e te) (hf:PE X f tf) (m:M2 X o "get" apos e f cpos):PE X (.Call (.Attribute o "get" apos) [e,f] [] cpos) (Jz X.K to te tf):=by
 intro pins s σ H Q I h;refine wpAny_Call_method m.base m.few m.line PySem.F.plainAttrs_dict PySem.F.slot_dict_get PySem.F.type_dict_get (b9 (ho pins s σ H _ I h) λu s1 ⟨x,H1,I1,rx,a,xs,ep,ex,e1,q1⟩=>?_)
 subst ex;obtain rfl:u=Value.ref a:=rx;have g:=(cc I1 e1).2.2.2;refine⟨⟨_,g,rfl⟩,λb eb=>by cases eb; exact⟨_,g,rfl⟩,?_⟩
 rw [m.trees];refine Calls.callWith_builtin rfl (Calls.evalArgs_plain (Calls.spliced_cons (b9 (he pins s1 σ H1 _ I1 q1) λiv s2 ⟨y,H2,I2,ry,q2⟩=>Calls.spliced_cons (b9 (hf pins s2 σ H2 _ I2 q2) λr s3 ⟨z,H3,I3,rz,b,kvs,xs,ep,ks,v,ey,e3,r3,t3,g3,q3⟩=>Calls.spliced_nil ?_))))
 subst ey;cases (show iv=Value.ref b from ry)
 have dd:=rN I3 e3 r3;exact call_meetsIn PySem.F.slot_dict_get dd.typeIs PySem.F.entry_dict_get (PySem.F.args_dict_get_3 _ _ _) (meetsH_dict_get_default (tupleKind (intKind X.prog X.w)) a b (cc I3 e3).1 r) ⟨tupleKind_room_in1 (un1 hr),ks,xs,mY I3 t3,dd,v,H3,I3.tok _,g3 r rz,q3⟩
def Mt (go ge gf:DE):DE:=λL S k=>go L S λd S1=>match d with
 | .ref a=>(∃ kvs ep,S1 a=some (.gen (.dT kvs ep)))/\ge L S1 λy S2=>gf L S2 λz S3=>∃ kvs ep ks,S3 a=some (.gen (.dT kvs ep))/\y=jC ks/\k ((fX kvs ks).getD z) S3
 | _=>False
theorem xf {n:Nat} (hr:ce n X.A) (ho:EJ X o go) (he:EJ X e ge) (hf:EJ X f gf) (m:M2 X o "get" apos e f cpos:=by exact⟨rfl,rfl,rfl,rfl⟩):EJ X (.Call (.Attribute o "get" apos) [e,f] [] cpos) (Mt go ge gf):=
 ⟨PE.imp (CT hr ho.h he.h hf.h m) fun σ H Q ⟨L,S,k,hL,hS,h,n⟩=>up.go hL hS h λd S1 x H1 h1 k1 hL1 hS1 i1=>by
  cases d with
  | ref a=>
   obtain⟨⟨kvs,ep,g1⟩,h1⟩:=h1;obtain⟨xs,e1,_⟩:=hS1.dT g1;have ex:=aX.mp i1;subst ex;refine⟨a,xs,ep,rfl,e1,up.go hL1 hS1 h1 λy S2 vy H2 h2 k2 hL2 hS2 i2=>up.go hL2 hS2 h2 λz S3 vz H3 h3 k3 hL3 hS3 i3=>?_⟩
   obtain⟨kvs,ep,ks,g3,rfl,h3⟩:=h3;obtain⟨xs,e3,r3⟩:=hS3.dT g3;obtain⟨b,rfl,t3⟩:=qy.mp (i2.kp k3);have kk:=(k1.trans k2).trans k3;rcases r3.get ks with ⟨z1,z2⟩ | ⟨d,b',w,v,z1,z2,z3,z4⟩
   ·rw [z1] at h3;exact⟨b,kvs,xs,ep,ks,vz,rfl,e3,r3,t3,λr q=>by rw [z2]; exact q,n _ _ _ _ h3 kk hS3 i3⟩
   ·rw [z1] at h3;exact⟨b,kvs,xs,ep,ks,v,rfl,e3,r3,t3,λr q=>by rw [z2]; exact z3,n _ _ _ _ h3 kk hS3 z4⟩
  | _=>exact(show False from h1).elim⟩
def Ic:bC:=λds S k=>match ds with
 | [.ref a]=>∃ kvs ep,S a=some (.gen (.dT kvs ep))/\k (.int kvs.length) S
 | _=>False
theorem EN:c_ X (.builtin "len") (wL X.K Ic):=by
 intro pins s σ H xs us Q I rs h;obtain⟨ds,S,k,i,hS,r,n⟩:=h;unfold Ic at r
 split at r
 ·rename_i a
  obtain⟨kvs,ep,g1,r⟩:=r;obtain⟨v,rfl,j⟩:=k_ i;have ex:=aX.mp j;subst ex;obtain⟨ys,e1,r1⟩:=hS.dT g1;obtain⟨u,rfl,ru⟩:=nG rs;cases (show u=Value.ref a from ru)
  obtain⟨hd,z,_,g⟩:=cc I e1;have T:s.TypeIs (.ref a) "dict":=⟨_,g,rfl⟩
  have sz:(ys.map eT).toArray.size=kvs.length:=by simp [r1.length]
  have hl:(kvs.length:Int) < 2 ^ 63:=by rw [r1.length]; rw [sizeLine_eq] at z; omega
  refine PyProof.Rows.call_len_slot (n:=kvs.length) T F.slot_dict_len (λQ' q=>call_meetsIn F.slot_dict_len T F.entry_dict_len (F.args_dict_len_1 _) (Pj a _ ep hd) ⟨g,?_⟩) (by omega) (by omega) ⟨.int kvs.length,H,I.tok _,⟨_,rfl⟩,n _ _ _ _ r (Kp.refl H) hS (isInt.mpr rfl)⟩
  rw [sz];exact q
 ·exact r.elim
end
abbrev Gi:=Lo->DH->(List (D×D)->DH->Prop)->Prop
def Ls:Gi:=λ_ S k=>k [] S
def Ky (gk gv:DE) (t:Gi):Gi:=λL S k=>gk L S λx S1=>gv L S1 λy S2=>t L S2 λps S3=>k ((x,y)::ps) S3
abbrev Jy (K:Fg) (H:Hp):List (D×D)->List (V×V)->Prop:=Paired λd p=>bV K H d.1 p.1/\bV K H d.2 p.2
def OP (K:Fg) (t:Gi):L2.St->Hp->(List (V×V)->Hp->Prop)->Prop:=fun σ H Q=>∃ L S k,Lc K H L σ/\Hs K H S/\t L S k/\∀ ds S' ps H',k ds S'->Kp H H'->Hs K H' S'->Jy K H' ds ps->Q ps H'
structure PJ (X:Cx) (pos:Pos) (keys:List (Option Expr)) (values:List Expr) (t:Gi):Prop where
 h:∀ (pins:List (Addr×Obj)) (s:Shared) (σ:L2.St) (H:Hp) (Q:List (V×V)->Hp->Prop),ay X pins σ H s->OP X.K t σ H Q->
  wpAny (model X.prog X.w) X.A (evalPairs (pairTrees keys values X.env pos)) (λvs s'=>∃ ps H',ay X pins σ H' s'/\VV ps vs/\Q ps H') X.xe s
section
variable {X:Cx} {pos:Pos}
theorem C8:PJ X pos [] [] Ls:=⟨λpins s σ H Q I ⟨L,S,k,hL,hS,h,n⟩=>pairTrees_nil_walk ⟨[],H,I,.nil,n [] S [] H h (Kp.refl H) hS .nil⟩⟩
theorem ni {a b:Expr} {ks:List (Option Expr)} {vs:List Expr} {ga gb:DE} {t:Gi} (ha:EJ X a ga) (hb:EJ X b gb) (hr:PJ X pos ks vs t):PJ X pos (some a::ks) (b::vs) (Ky ga gb t):=
 ⟨λpins s σ H Q I ⟨L,S,k,hL,hS,h,n⟩=>by
  refine pairTrees_cons_walk (b9 (ha.h pins s σ H (λx H1=>up X.K gb σ H1 λy H2=>OP X.K t σ H2 λps H3=>Q ((x,y)::ps) H3) I ?_) λu s1 ⟨x,H1,I1,rx,q1⟩=>b9 (hb.h pins s1 σ H1 _ I1 q1) λw2 s2 ⟨y,H2,I2,ry,q2⟩=>
   b9 (hr.h pins s2 σ H2 _ I2 q2) λws s3 ⟨ps,H3,I3,rel,q3⟩=>⟨(x,y)::ps,H3,I3,.cons ⟨rx,ry⟩ rel,q3⟩)
  exact up.go hL hS h λd S1 v H1 h1 k1 hL1 hS1 i1=>up.go hL1 hS1 h1 λe S2 u H2 h2 k2 hL2 hS2 i2=>⟨L,S2,_,hL2,hS2,h2,λds S3 ps H3 h3 k3 hS3 i3=>n _ S3 _ H3 h3 ((k1.trans k2).trans k3) hS3 (.cons ⟨i1.kp (k2.trans k3),i2.kp k3⟩ i3)⟩⟩
end
section
variable {prog:Program} {w:World} {A:Around} {E:Value->Shared->Prop} {d:Addr}
theorem u8 (hu:A.units < cLine):∀ (vs:List (Value×Value)) (ks acc:List (List Int×Addr×Value)) (s:Shared) (Q:PUnit->Shared->Prop),Paired (λv k=>v.1=.ref k.2.1/\v.2=k.2.2) vs ks->
  (∀ k∈ks,(tupleKind (intKind prog w)).is s.heap k.1 k.2.1)->s.heap.DictOfH (tupleKind (intKind prog w)) d acc->acc.length+ks.length<=sizeLine->
  (∀ h' tk,h'.DictOfH (tupleKind (intKind prog w)) d (ks.foldl (λacc k=>storedH acc k.1 k.2.1 k.2.2) acc)->Heap.SameBut d s.heap h'->Q PUnit.unit {s with heap:=h',toks:=tk})->
  wpAny (model prog w) A (forIn vs PUnit.unit fun(x:Value×Value) (_:PUnit)=>(do dictSet d x.1 x.2; pure (ForInStep.yield PUnit.unit):Sem (ForInStep PUnit))) Q E s
 | _,_,acc,s,Q,.nil,_,hm,_,hQ=>by
  rw [List.forIn_nil];exact PZ (hQ s.heap s.toks hm (Heap.SameBut.refl _ _))
 | (_,_)::vs,k::ks,acc,s,Q,.cons h t,hk,hm,hz,hQ=>by
  obtain⟨h1,h2⟩:=h;simp only at h1 h2
  subst h1 h2;rw [Qe] at hz;rw [List.forIn_cons];have hl:=jc acc k.1 k.2.1 k.2.2;refine gt (gt (wpAny_dictSet_heap (hsz:=by omega) (show (tupleKind (intKind prog w)).room A from hu) (hk k (by simp)) hm λh1 m1 s1=>PZ (u8 hu vs ks (storedH acc k.1 k.2.1 k.2.2) _ Q t (λq hq=>?_) m1 (by omega) λh' tk m' s'=>hQ h' tk m' (s1.trans s'))))
  obtain⟨o,es,ep,g,_,dt,_⟩:=hm;exact(tupleKind (intKind prog w)).keeps (hk q (by simp [hq])) g dt s1
end
def jt (acc kvs:List (List Int×D)):List (List Int×D):=kvs.foldl (λacc kv=>t_ acc kv.1 kv.2) acc
theorem mW.merge {K:Fg} {H:Hp}:∀ {kvs:List (List Int×D)} {xs:List (List Int×Addr×Value)} {acc:List (List Int×D)} {ys:List (List Int×Addr×Value)},mW K H kvs xs->mW K H acc ys->mW K H (jt acc kvs) (xs.foldl (λacc k=>storedH acc k.1 k.2.1 k.2.2) ys)
 | _,_,_,_,.nil,r=>r
 | (k,d)::_,x::_,_,_,.cons h t,r=>by
  obtain⟨h1,h2,v,h3,h4⟩:=h;simp only at h1;subst h1
  rename_i t1 t2 a b
  exact mW.merge (kvs:=t1) (xs:=t2) (acc:=t_ a x.1 d) (ys:=storedH b x.1 x.2.1 x.2.2) t (r.put h2 h3 h4)
theorem qh:∀ (ks acc:List (List Int×Addr×Value)),(ks.foldl (λacc k=>storedH acc k.1 k.2.1 k.2.2) acc).length<=acc.length+ks.length
 | [],acc=>P3 _
 | k::ks,acc=>by
  have h1:=qh ks (storedH acc k.1 k.2.1 k.2.2);have h2:=jc acc k.1 k.2.1 k.2.2;rw [List.foldl_cons,Qe];omega
theorem FJ {K:Fg} {H:Hp}:∀ {kvs:List (List Int×D)} {ps:List (V×V)} {vs:List (Value×Value)},Jy K H (kvs.map λkv=>(jC kv.1,kv.2)) ps->VV ps vs->∃ xs,mW K H kvs xs/\Paired (λv (k:List Int×Addr×Value)=>v.1=.ref k.2.1/\v.2=k.2.2) vs xs
 | [],_,_,r,q=>by rw [List.map_nil] at r; cases r; cases q; exact⟨[],.nil,.nil⟩
 | kv::kvs,_,_,r,q=>by
  rw [Qd] at r;cases r with
  | @cons _ p _ _ h t=>
   cases q with
   | @cons _ b _ _ h' t'=>
    obtain⟨xs,a1,a2⟩:=FJ t t';obtain⟨c,e,t1⟩:=qy.mp h.1;have h1:=h'.1;rw [e] at h1;exact⟨(kv.1,c,b.2)::xs,.cons ⟨rfl,t1,p.2,h'.2,h.2⟩ a1,.cons ⟨h1,rfl⟩ a2⟩
def JA (K:Fg) (t:L2.St->Hp->(List (V×V)->Hp->Prop)->Prop):TE:=fun σ H Q=>∀ p,H p=none->t σ (bz H p (.ext (lq p [] 0))) λps H2=>∃ ep,H2 p=some (.ext (lq p [] ep))/\∃ kvs:List (List Int×D),Jy K H2 (kvs.map λkv=>(jC kv.1,kv.2)) ps/\kvs.length<=15/\
 ∀ xs ep',mW K H2 kvs xs->Q (.ref p) (bz H2 p (.ext (lq p (xs.foldl (λacc k=>storedH acc k.1 k.2.1 k.2.2) []) ep')))
theorem DU {X:Cx} {pos:Pos} {keys:List (Option Expr)} {values:List Expr} {t:Gi} {n:Nat} (hr:ce n X.A) (h:PJ X pos keys values t) (hall:keys.all (·.isSome)=true:=by rfl) (hl:keys.length=values.length:=by rfl) (h0:keys≠[]:=by simp)
  (h15:keys.length<=15:=by decide):PE X (.Dict keys values pos) (JA X.K (OP X.K t)):=by
 intro pins s σ H Q I q;have hn:=I.hok.fresh (P3 s.heap.objs.size);have hlen:=pairTrees_length keys values X.env pos hall hl;have I1:=I.laid (a:=s.heap.objs.size) (o:=.ext (lq s.heap.objs.size [] 0)) (h':=s.heap.push {cls:=.type "dict",data:=.dict #[]}) (t':=s.toks) (λ_ _ q=>pp _ q) (P3 _) (qg (uM s.heap I.big))
 rw [arm_eval_Dict,zip_pairTrees keys values X.env pos hall hl,dictDisplay_pairs _ (λe=>h0 (by rw [e] at hlen; exact Rg.mp hlen.symm)) (by omega)]
 refine gt (wpAny_standAt (gt ?_));unfold subDict;refine gt (wpAny_alloc (gt (Qq ?_)));rw [if_pos (by omega)]
 refine gt (b9 (h.h pins _ σ _ _ I1 (q _ hn)) λws s2 ⟨ps,H2,I2,rel,ep,e2,kvs,r2,lk,q2⟩=>Qq (gt ?_))
 obtain⟨xs,rx,rw'⟩:=FJ r2 rel;have hd:=(cc I2 e2).1;have hz:xs.length<=15:=by rw [<- rx.length]; exact lk
 refine u8 (Nat.lt_of_succ_lt (un1 hr)) ws xs [] s2 _ rw' (λx hx=>?_) (rN I2 e2 (kvs:=[]) .nil) (by rw [sizeLine_eq,Re]; omega) λh' tk dd' hs=>?_
 ·clear rw' hz q2;clear r2 lk
  induction rx with
  | nil=>exact nomatch hx
  | @cons p q ps qs h t ih=>
   rcases P8.mp hx with e | hx
   ·subst e;rw [<- h.1];exact mY I2 h.2.1
   ·exact ih hx
 ·have z':(xs.foldl (λacc k=>storedH acc k.1 k.2.1 k.2.2) []).length<=sizeLine:=by have:=qh xs []; rw [Re] at this; rw [sizeLine_eq]; omega
  obtain⟨ep',m⟩:=yD hd z' dd';exact PZ (PZ (PZ ⟨.ref s.heap.objs.size,_,rg (t':=tk) I2 (by rw [e2]; exact True.intro) hs ⟨_,m.2.2.2⟩ (qg m),rfl,q2 xs ep' rx⟩))
def Mw (t:Gi):DE:=λL S k=>∀ p,S p=none->∀ ep,t L (put S p (.gen (.dT [] ep))) λds S2=>∃ ep' kvs,S2 p=some (.gen (.dT [] ep'))/\ds=kvs.map (λ(kv:List Int×D)=>(jC kv.1,kv.2))/\kvs.length<=15/\∀ ep2,k (.ref p) (put S2 p (.gen (.dT (jt [] kvs) ep2)))
theorem Ab {X:Cx} {pos:Pos} {keys:List (Option Expr)} {values:List Expr} {t:Gi} {n:Nat} (hr:ce n X.A) (h:PJ X pos keys values t) (hall:keys.all (·.isSome)=true:=by rfl) (hl:keys.length=values.length:=by rfl) (h0:keys≠[]:=by simp)
  (h15:keys.length<=15:=by decide):EJ X (.Dict keys values pos) (Mw t):=
 ⟨PE.imp (DU hr h hall hl h0 h15) fun σ H Q ⟨L,S,k,hL,hS,h,n⟩ p hp=>by
  refine⟨L,_,_,hL.kp (Kp.new hp),hS.newG (g:=.dT [] 0) hp ⟨[],bu,.nil⟩,h p (hS.free hp) 0,λds S2 ps H2 h2 k2 hS2 i2=>?_⟩
  obtain⟨ep',kvs,g2,rfl,lk,h2⟩:=h2;obtain⟨ys,e2,r2⟩:=hS2.dT g2;cases r2;refine⟨ep',e2,kvs,i2,lk,λxs ep2 rx=>?_⟩
  have k3:Kp H2 (bz H2 p (.ext (lq p (xs.foldl (λacc k=>storedH acc k.1 k.2.1 k.2.2) []) ep2))):=Kp.mut e2 (λz=>z)
  exact n _ _ _ _ (h2 ep2) (((Kp.new hp).trans k2).trans k3) (hS2.setG e2 (λz=>z) ⟨_,bu,(rx.merge .nil).kp k3⟩) (aX.mpr rfl)⟩
end DL
namespace PySem
open Sem (wp)
open Builtin DL
section
variable {prog:Program} {w:World} {A:Around} {E:Value->Shared->Prop}
theorem wl:typeLookup (.type "list") "keys"=pure none:=by rw [typeLookup_type,builtinLookup_eq_fast]; kernel_rfl
theorem A5 {a:Addr} {xs:Array Value} {k:Nat} {u:Tok} {s:Shared} {R:Result->Shared->Prop} (hx:s.heap.get? a=some {cls:=.type "list",dict:=none,data:=.seq xs k,slots:=#[]}) (hA:A.handled=none)
  (h:∀ h' tk e,Heap.NewAttrErr s.heap h' e (.ref a) "keys"->R (.error (.ref e)) {s with heap:=h',toks:=tk}):codeAny (model prog w) A (.call (.builtin "list.__getattribute__") ⟨[.ref a,.str "keys" u],[]⟩) R s:=
 have T:s.TypeIs (.ref a) "list":=⟨_,hx,rfl⟩
 codeAny_call_builtin F.slot_list_getattribute.plain am_entry_list_getattribute (F.slot_list_getattribute.check _ _ _ _ _ _ _ _ T (F.args_list_getattribute_2 _ _) (meets_getattribute_miss_list a xs k #[] "keys" _ wl (by decide) (by rw [sizeLine_eq]; decide) prog w A _ _ ⟨hx,hA,h⟩))
theorem Be {a:Addr} {xs:Array Value} {k:Nat} {s:Shared} {Q:Option Value->Shared->Prop} (hx:s.heap.get? a=some {cls:=.type "list",dict:=none,data:=.seq xs k,slots:=#[]}) (hA:A.handled=none)
  (h:∀ h' tk,(∀ b o,s.heap.get? b=some o->h'.get? b=some o)->Q none {s with heap:=h',toks:=tk}):wpAny (model prog w) A (getAttr? (.ref a) "keys") Q E s:=by
 obtain⟨hp,g,d,tk,os⟩:=s;have hT:∀ tk',(⟨hp,g,d,tk',os⟩:Shared).TypeIs (.ref a) "list":=λ_=>⟨_,hx,rfl⟩
 have c1:=sub_AttributeError;have c2:=F.slot_list_getattribute.lookup;have c3:=F.slot_list_getattribute.bind (.ref a);have c4:=am_list_getattr_none;unfold getAttr? getAttrBy? getAttrBy
 repeat (any_goals (first | assumption | exact hT _ | wp_step))
 refine A5 (s:=⟨hp,g,d,tk+1,os⟩) hx hA λh' tk' e ne=>?_
 obtain⟨t',u',he⟩:=ne.there;have z:=h h' tk' ne.keeps
 show wpAny _ _ (getattributeRaised _ _ _ _ _ _ _) _ _ _
 unfold getattributeRaised
 repeat (any_goals (first | assumption | wp_step))
theorem AE:entryFor table "dict.update.loop"=some Builtin.«dict.update.loop»:=entryFor_of_tree (by kernel_rfl)
theorem rh:plainId "dict.update.loop"=true:=by decide +kernel
theorem Cl {d it l T:Addr} {its:Array Value} {i n:Nat} {key val:Value} {s:Shared} {R:Result->Shared->Prop} {dd:Option Addr} {sl:Array (Option Value)} (hx:its[i]?=some (.ref T)) (st:s.heap.IsListIter it l i) (hl:s.heap.IsList l its)
  (hT:s.heap.get? T=some {cls:=.type "tuple",dict:=dd,data:=.seq #[key,val] n,slots:=sl}) (ne:T≠it)
  (h:∀ h',h'.IsListIter it l (i+1)->Heap.SameBut it s.heap h'->wpAny (model prog w) A.in1 (dictSet d key val) (λ_ s'=>codeAny (model prog w) A (.builtin "dict.update.loop" ⟨[.ref d,.ref it,rawInt ((i:Int)+1),.none],[]⟩) R s') (λe s'=>R (.error e) s') {s with heap:=h'}):
  codeAny (model prog w) A (.builtin "dict.update.loop" ⟨[.ref d,.ref it,rawInt i,.none],[]⟩) R s:=by
 refine Qz AE ?_;rw [Qm rh _];refine gt (m:=pyNext (.ref it)) (wpAny_pyNext_list_item st hl hx λh' st' sb=>?_)
 obtain⟨hp,g,dr,tk,os⟩:=s;have hT':Heap.get? h' T=some {cls:=.type "tuple",dict:=dd,data:=.seq #[key,val] n,slots:=sl}:=(sb.2 T ne).trans hT
 have z:=h h' st' sb;refine gt (Qq (gt (Q2 ?_)))
 repeat (any_goals (first | assumption | (with_reducible show wpAny _ _ (dictSet _ _ _) _ _ _; refine QE z (λ_ s' q=>PZ ⟨plainId_quiet rh _,q⟩) λ_ _ q=>q) | wp_step))
abbrev CC (prog:Program) (w:World):HeapKind prog w (List Int):=tupleKind (intKind prog w)
theorem xR {h h':Heap} {d it:Addr} {c:String} {acc:List (List Int×Addr×Value)} (m:h.DictOfH (CC prog w) d acc) (ci:∃ o,h.get? it=some o/\o.cls=.type c) (nt:(Value.type "tuple" == Value.type c)=false) (hd:d≠it)
  (k:∀ b o,b≠it->h.get? b=some o->h'.get? b=some o):h'.DictOfH (CC prog w) d acc:=by
 obtain⟨o,es,ep,g,e1,e2,e3,e4,nd⟩:=m;refine⟨o,es,ep,k _ _ hd g,e1,e2,e3,λx hx=>?_,nd⟩
 obtain⟨q,its,n,g1,g2,g3⟩:=e4 x hx;refine⟨q,its,n,k _ _ (λz=>?_) g1,g2,g3⟩
 obtain⟨q',y1,y2⟩:=ci;rw [z,y1] at g1;cases g1;rw [y2] at g2;rw [g2] at nt;simp at nt
theorem D7 {d it l:Addr} {R:Result->Shared->Prop} (hu:A.units+1 < cLine) (hh:A.handled=none) (ts:List (Addr×List Int×Addr×Value)) (hd:d≠it) (hl:l≠it) (hld:l≠d):
  ∀ (k i:Nat) (s:Shared) (acc:List (List Int×Addr×Value)),ts.length - i=k->i<=ts.length->s.heap.IsListIter it l i->s.heap.IsList l (ts.map λt=>Value.ref t.1).toArray->
  (∀ t∈ts,(∃ dd n sl,s.heap.get? t.1=some {cls:=.type "tuple",dict:=dd,data:=.seq #[.ref t.2.2.1,t.2.2.2] n,slots:=sl})/\(CC prog w).is s.heap t.2.1 t.2.2.1)->
  s.heap.DictOfH (CC prog w) d acc->acc.length+(ts.length - i)<=sizeLine->
  (∀ h' tk,(∀ b o,b≠it->b≠d->s.heap.get? b=some o->h'.get? b=some o)->h'.DictOfH (CC prog w) d ((ts.drop i).foldl (λacc t=>storedH acc t.2.1 t.2.2.1 t.2.2.2) acc)->R (.ok (.ret .none)) {s with heap:=h',toks:=tk})->
  codeAny (model prog w) A (.builtin "dict.update.loop" ⟨[.ref d,.ref it,rawInt i,.none],[]⟩) R s:=by
 intro k
 induction k with
 | zero=>
  intro i s acc hk hi st hL hts hm hz hR;have e:i=ts.length:=by omega
  subst e;refine Qz AE ?_;rw [Qm rh _];have ci:∃ o,s.heap.get? it=some o/\o.cls=.type "list_iterator":=let ⟨o,a,b,_⟩:=st; ⟨o,a,b⟩
  refine gt (m:=pyNext (.ref it)) (wpAny_pyNext_list_end (A:=A.in1) hh st hL (by simp) λh' eb=>?_)
  have z:=hR h' s.toks (λb o n1 _ x=>eb b o n1 x) (by rw [List.drop_length]; exact xR hm ci (by decide) hd eb)
  exact gt (PZ (PZ z))
 | succ k ih=>
  intro i s acc hk hi st hL hts hm hz hR;have hlt:i < ts.length:=by omega
  have mem:ts[i]∈ts:=Q9 hlt;obtain⟨⟨dd,n,sl,gT⟩,ik⟩:=hts _ mem;have ci:∃ o,s.heap.get? it=some o/\o.cls=.type "list_iterator":=let ⟨o,a,b,_⟩:=st; ⟨o,a,b⟩
  have cd:∃ o,s.heap.get? d=some o/\o.cls=.type "dict":=let ⟨o,_,_,a,b,_⟩:=hm; ⟨o,a,b.1⟩
  have tni:∀ {b:Addr} {o:Obj},s.heap.get? b=some o->o.cls=.type "tuple"->b≠it:=λg c z=>by
   obtain⟨q,y1,y2⟩:=ci;rw [z,y1] at g;cases g;rw [y2] at c;simp at c
  have tnd:∀ {b:Addr} {o:Obj},s.heap.get? b=some o->o.cls=.type "tuple"->b≠d:=λg c z=>by
   obtain⟨q,y1,y2⟩:=cd;rw [z,y1] at g;cases g;rw [y2] at c;simp at c
  have hlen:=jc acc ts[i].2.1 ts[i].2.2.1 ts[i].2.2.2;refine Cl (T:=ts[i].1) (by simp [hlt]) st hL gT (tni gT rfl) λh1 st1 sb=>?_
  have kk:∀ b o,b≠it->s.heap.get? b=some o->h1.get? b=some o:=λb o n1 x=>(sb.2 b n1).trans x
  have isk:∀ t∈ts,(CC prog w).is h1 t.2.1 t.2.2.1:=λt ht=>by
   obtain⟨q,its,m,g1,g2,g3⟩:=(hts t ht).2;exact⟨q,its,m,kk _ _ (tni g1 g2) g1,g2,g3⟩
  have hm1:h1.DictOfH (CC prog w) d acc:=xR hm ci (by decide) hd kk
  refine wpAny_dictSet_heap (hsz:=by omega) (show (CC prog w).room A.in1 from hu) (isk _ mem) hm1 λh2 hm2 sb2=>?_
  have e:(rawInt ((i:Int)+1))=rawInt ((i+1:Nat):Int):=rfl;rw [e];have k2:∀ b o,b≠d->h1.get? b=some o->h2.get? b=some o:=λb o n1 x=>(sb2.2 b n1).trans x
  refine ih (i+1) _ _ (by omega) hlt (st1.at λo x=>k2 _ _ (Ne.symm hd) x) ((hL.at λo x=>kk _ _ hl x).at λo x=>k2 _ _ hld x) (λt ht=>?_) hm2 (by omega) λh' tk q1 q2=>?_
  ·obtain⟨⟨dd,n,sl,g⟩,_⟩:=hts t ht;obtain⟨o,es,ep,g',_,dt,_⟩:=hm1;exact⟨⟨dd,n,sl,k2 _ _ (tnd g rfl) (kk _ _ (tni g rfl) g)⟩,(CC prog w).keeps (isk t ht) g' dt sb2⟩
  ·refine hR h' tk (λb o n1 n2 x=>q1 b o n1 n2 (k2 b o n2 (kk b o n1 x))) ?_
   rw [QS hlt,List.foldl_cons];exact q2
theorem tD {l:Addr} {s:Shared} {n:Nat} (hu:A.units+2 < cLine) (hh:A.handled=none) (hb:sysModules < s.heap.objs.size) (ts:List (Addr×List Int×Addr×Value)) {Q:Value->Shared->Prop}
  (gl:s.heap.get? l=some {cls:=.type "list",dict:=none,data:=.seq (ts.map λt=>Value.ref t.1).toArray n,slots:=#[]})
  (hts:∀ t∈ts,(∃ dd n sl,s.heap.get? t.1=some {cls:=.type "tuple",dict:=dd,data:=.seq #[.ref t.2.2.1,t.2.2.2] n,slots:=sl})/\(CC prog w).is s.heap t.2.1 t.2.2.1) (hz:ts.length<=sizeLine)
  (h:∀ h' tk,(∀ b o,s.heap.get? b=some o->h'.get? b=some o)->h'.DictOfH (CC prog w) s.heap.objs.size (ts.foldl (λacc t=>storedH acc t.2.1 t.2.2.1 t.2.2.2) [])->Q (.ref s.heap.objs.size) {s with heap:=h',toks:=tk}):
  wpAny (model prog w) A (call (.type "dict") [.ref l]) Q E s:=by
 refine callType_codes (Q₁:=λob s1=>ob=.ref s.heap.objs.size/\s1={s with heap:=s.heap.push {cls:=.type "dict",data:=.dict #[]}}) F.kt_called_dict (F.kt_typeCall_dict_1 _) F.entry_dict_init (kt_code_dict_new _ ⟨rfl,rfl⟩) ?_
 rintro ob s1 ⟨rfl,rfl⟩;have hl:l < s.heap.objs.size:=P2 gl;have gl1:(s.heap.push {cls:=.type "dict",data:=.dict #[]}).get? l=some {cls:=.type "list",dict:=none,data:=.seq (ts.map λt=>Value.ref t.1).toArray n,slots:=#[]}:=pp _ gl
 have gd1:(s.heap.push {cls:=.type "dict",data:=.dict #[]}).get? s.heap.objs.size=some (lr #[] 0):=P0 _ rfl
 refine⟨⟨_,gd1,rfl⟩,F.args_dict_init_2 _ _,?_⟩;generalize hH:s.heap.push {cls:=.type "dict",data:=.dict #[]}=H1 at gl1 gd1
 have kH:∀ b o,s.heap.get? b=some o->H1.get? b=some o:=λb o x=>by rw [<- hH]; exact pp _ x
 obtain⟨hp,g,dr,tk,os⟩:=s;have T1:(⟨H1,g,dr,tk,os⟩:Shared).TypeIs (.ref hp.objs.size) "dict":=⟨_,gd1,rfl⟩
 have hT2:(⟨H1,g,dr,tk,os⟩:Shared).TypeIs (.ref l) "list":=⟨_,gl1,rfl⟩
 refine gt (m:=Dict.selfAndRest "__init__" _) ?_
 unfold Dict.selfAndRest;refine gt (wpAny_notOrdered_dict T1 ?_)
 show wpAny _ _ (pure (hp.objs.size,[Value.ref l])) _ _ _
 refine PZ ?_
 show wpAny _ _ (Dict.updateFrom "dict.__init__" hp.objs.size (.ref l) [] .none) _ _ _
 unfold Dict.updateFrom;refine gt (wpAny_typeOf hT2 ?_);rw [if_pos (by decide)]
 refine gt (Be (s:=⟨H1,g,dr,tk,os⟩) gl1 hh λh' tk' kk=>?_)
 rw [if_pos (show (none:Option Value).isNone=true from rfl)]
 refine gt (wpAny_rule (gt ?_));have gl2:=kk _ _ gl1;have gd2:=kk _ _ gd1;have iL:h'.IsList l (ts.map λt=>Value.ref t.1).toArray:=⟨_,gl2,rfl,_,rfl⟩
 refine wpAny_pyIter_list (s:=⟨h',g,dr,tk',os⟩) iL (PZ ⟨plainId_quiet rh _,?_⟩);have z1:hp.objs.size < h'.objs.size:=P2 gd2;refine D7 (A:=A.in1) (by show A.units+1+1 < cLine; omega) hh ts (P9 z1) (P9 (Nat.lt_trans hl z1)) (P9 hl) ts.length 0 ⟨h'.push {cls:=.type "list_iterator",data:=.fields #[.ref l,.int 0 0]},g,dr,tk',os⟩ [] rfl (QW _) ⟨_,P0 _ rfl,rfl,rfl⟩ (iL.push _) (λt ht=>?_) ?_ (by rw [Re]; omega) λh2 tk2 q1 q2=>⟨rfl,h h2 tk2 (λb o x=>?_) q2⟩
 ·obtain⟨⟨dd,n',sl,g1⟩,o,its,m,g2,g3⟩:=hts t ht;have up:∀ b o,hp.get? b=some o->(h'.push {cls:=.type "list_iterator",data:=.fields #[.ref l,.int 0 0]}).get? b=some o:=λb o x=>pp _ (kk _ _ (kH _ _ x))
  exact⟨⟨dd,n',sl,up _ _ g1⟩,o,its,m,up _ _ g2,g3⟩
 ·exact⟨_,#[],0,pp _ gd2,⟨rfl,rfl,rfl⟩,rfl,rfl,(by intro x hx; simp at hx),List.nodup_nil⟩
 ·have b1:b < hp.objs.size:=P2 x;exact q1 b o (P9 (Nat.lt_trans b1 z1)) (P9 b1) (pp _ (kk _ _ (kH _ _ x)))
theorem yo (c:Int):∀ l:List DictEntry,(l.map (·.hash)).Nodup->(l.filter (·.hash == c)).length<=1
 | [],_=>QW _
 | e::l,h=>by
  rw [Qd,QM] at h;rw [List.filter_cons]
  by_cases q:(e.hash == c)=true
  ·rw [if_pos q];have z:l.filter (·.hash == c)=[]:=by
    rw [List.filter_eq_nil_iff];intro x hx y;refine h.1 (P4.mpr ⟨x,hx,?_⟩);simp only [beq_iff_eq] at q y
    rw [q,y]
   rw [z];exact P3 _
  ·rw [if_neg q];exact yo c l h.2
theorem wM {id:String} {o:Addr} {es:Array DictEntry} {ep:Nat} {s:Shared} {Q:Array DictEntry->Shared->Prop} (g:s.heap.get? o=some (lr es ep)) (hk:∀ e∈es.toList,∃ b q,e.key=.ref b/\s.heap.get? b=some q/\q.cls=.type "tuple") (hn:(es.toList.map (·.hash)).Nodup) (h:Q es s):
  wpAny (model prog w) A (Dict.entriesForEmpty id o) Q E s:=by
 unfold Dict.entriesForEmpty;refine gt (QT g rfl ?_);refine gt ?_;rw [<- Array.forIn_toList];refine wpAny_forIn_list _ (λaw _ s'=>s'=s/\∀ e∈aw,e∈es.toList) _ ?_ ?_ es.toList _ ⟨rfl,λe he=>he⟩
 ·rintro e aw _ s' ⟨rfl,hr⟩;have me:=hr e (by simp)
  obtain⟨b,q,kb,gb,cb⟩:=hk e me;have one:¬ (es.filter (·.hash == e.hash)).size > 1:=by
   have z:=yo e.hash es.toList hn;rw [<- Q6,Array.toList_filter];omega
  rw [kb];have T:s'.TypeIs (.ref b) "tuple":=⟨q,gb,cb⟩
  refine gt (gt (wpAny_specialOf T F.slot_tuple_eq.lookup (PZ ?_)));rw [if_pos (by decide),if_neg one]
  exact PZ ⟨rfl,λx hx=>hr x (by simp [hx])⟩
 ·rintro _ s' ⟨rfl,_⟩;exact PZ h
theorem E6 {d o:Addr} {es:Array DictEntry} {ep:Nat} {s:Shared} {Q:Unit->Shared->Prop} (ne:d≠o) (ho:(o == sysModules)=false) (gd:s.heap.get? d=some (lr #[] 0)) (go:s.heap.get? o=some (lr es ep))
  (hk:∀ e∈es.toList,∃ b q,e.key=.ref b/\s.heap.get? b=some q/\q.cls=.type "tuple") (hn:(es.toList.map (·.hash)).Nodup) (hz:es.size<=sizeLine) (h:∀ h' ep',h'.get? d=some (lr es ep')->Heap.SameBut d s.heap h'->Q () {s with heap:=h'}):
  wpAny (model prog w) A (Dict.mergeDict "dict.__init__" d o) Q E s:=by
 have nb:(d == o)=false:=by simpa using ne
 unfold Dict.mergeDict Dict.showsAll;rw [if_neg (by rw [nb]; exact P6),if_neg (by rw [ho]; exact P6)]
 refine gt (PZ (gt (QT go rfl ?_)));cases hes:es.toList with
 | nil=>
  have e0:es=#[]:=by cases es; simp at hes; rw [hes]
  subst e0;have z:=h s.heap 0 gd (Heap.SameBut.refl _ _);dsimp only;rw [if_neg (by simp)]
  refine gt (wpAny_dictEpoch go rfl (gt (QT go rfl ?_)));rw [Std.Legacy.Range.forIn_eq_forIn_range'];exact gt (PZ (PZ z))
 | cons e r=>
  obtain⟨b,q,kb,gb,cb⟩:=hk e (by rw [hes]; simp)
  have few:(es.size<=8 && es.all λe=>(keyPart e.key).isSome)=false:=by
   have:(es.all λe=>(keyPart e.key).isSome)=false:=by
    rw [<- Array.all_toList,hes,List.all_cons,kb]
    rfl
   rw [this,Bool.and_false]
  dsimp only;rw [if_pos (by rw [few]; rfl)]
  refine gt (QT gd rfl ?_);rw [if_pos (by rfl)]
  refine gt (wM go (by rw [hes]; rw [hes] at hk; exact hk) hn ?_)
  have ne0:(!es.isEmpty)=true:=by
   cases es;simp at hes;rw [hes]
   rfl
  rw [if_pos ne0];have up:(s.heap.update d (Obj.mapDictKeys λ_=>es)).get? d=_:=QL (Obj.mapDictKeys λ_=>es) gd rfl
  refine gt (wpAny_updateDictKeysTo gd rfl ?_ (Nat.le_succ_of_le hz));exact PZ (h _ _ up (Rh ..))
theorem tQ {o:Addr} {es:Array DictEntry} {ep:Nat} {s:Shared} {Q:Value->Shared->Prop} (ho:(o == sysModules)=false) (go:s.heap.get? o=some (lr es ep))
  (hk:∀ e∈es.toList,∃ b q,e.key=.ref b/\s.heap.get? b=some q/\q.cls=.type "tuple") (hn:(es.toList.map (·.hash)).Nodup) (hz:es.size<=sizeLine)
  (h:∀ h' ep',h'.get? s.heap.objs.size=some (lr es ep')->(∀ b q,s.heap.get? b=some q->h'.get? b=some q)->Q (.ref s.heap.objs.size) {s with heap:=h'}):wpAny (model prog w) A (call (.type "dict") [.ref o]) Q E s:=by
 refine callType_codes (Q₁:=λob s1=>ob=.ref s.heap.objs.size/\s1={s with heap:=s.heap.push {cls:=.type "dict",data:=.dict #[]}}) F.kt_called_dict (F.kt_typeCall_dict_1 _) F.entry_dict_init (kt_code_dict_new _ ⟨rfl,rfl⟩) ?_
 rintro ob s1 ⟨rfl,rfl⟩;have lo:o < s.heap.objs.size:=P2 go;have go1:=pp {cls:=.type "dict",data:=.dict #[]} go
 have gd1:(s.heap.push {cls:=.type "dict",data:=.dict #[]}).get? s.heap.objs.size=some (lr #[] 0):=P0 _ rfl
 have T1:({s with heap:=s.heap.push {cls:=.type "dict",data:=.dict #[]}}:Shared).TypeIs (.ref s.heap.objs.size) "dict":=⟨_,gd1,rfl⟩
 have T2:({s with heap:=s.heap.push {cls:=.type "dict",data:=.dict #[]}}:Shared).TypeIs (.ref o) "dict":=⟨_,go1,rfl⟩
 refine⟨T1,F.args_dict_init_2 _ _,gt (m:=Dict.selfAndRest "__init__" _) ?_⟩
 unfold Dict.selfAndRest;refine gt (wpAny_notOrdered_dict T1 (PZ (a:=(s.heap.objs.size,[Value.ref o])) ?_))
 show wpAny _ _ (Dict.updateFrom "dict.__init__" s.heap.objs.size (.ref o) [] .none) _ _ _
 unfold Dict.updateFrom;refine gt (wpAny_typeOf T2 ?_);rw [if_neg (by decide)]
 refine gt ?_;unfold Dict.merge;refine gt ?_;unfold Dict.readDirectly;refine gt (wpAny_isInstance T2 isSubtype_dict_dict ?_);rw [if_neg (by decide)]
 refine gt (wpAny_specialOf T2 F.slot_dict_iter.lookup (PZ ?_));rw [if_pos (by decide)]
 refine gt (PZ (E6 (Nat.ne_of_gt lo) ho gd1 go1 (λe he=>?_) hn hz λh' ep' g sb=>?_))
 ·obtain⟨b,q,x1,x2,x3⟩:=hk e he;exact⟨b,q,x1,pp _ x2,x3⟩
 ·exact gt (PZ (PZ ⟨rfl,h h' ep' g λb q x=>(sb.2 b (P9 (P2 x))).trans (pp _ x)⟩))
end
section
variable {prog:Program} {w:World} {A:Around} {E:Value->Shared->Prop}
theorem M6 (p q:Addr) (a b c d:Int) (t1 t2 t3 t4:Tok) (n n':Nat) (dd dd':Option Addr) (sl sl':Array (Option Value)):
  MeetsIn prog w (Builtin.«tuple.__gt__» ⟨[.ref p,.ref q],[]⟩) (λA R s=>A.units+1 < cLine/\s.heap.get? p=some ⟨.type "tuple",dd,.seq #[.int a t1,.int b t2] n,sl⟩/\s.heap.get? q=some ⟨.type "tuple",dd',.seq #[.int c t3,.int d t4] n',sl'⟩/\
   R (.ok (.ret (.bool (decide (c < a) || (decide (a=c) && decide (d < b)))))) s):=
 .of_wp λA R s h=>by
  obtain⟨hp,g,dr,tk,os⟩:=s;obtain⟨hu,h1,h2,h⟩:=h;have f:=AutoSeq1.sub_tuple_tuple;have stp:∀ {x y:Int} {u v:Tok} {Q:Bool->Shared->Prop} {s:Shared},Q (x == y) s->wpAny (model prog w) A.in1 (eqBool (.int x u) (.int y v)) Q (λe s'=>R (.error e) s') s:=λh=>wpAny_eqBool_int h
  have gtp:∀ {x y:Int} {u v:Tok} {Q:Value->Shared->Prop} {s:Shared},Q (.bool (decide (y < x))) s->wpAny (model prog w) A.in1 (richCompare .Gt (.int x u) (.int y v)) Q (λe s'=>R (.error e) s') s:=λh=>PyProof.Rows.gt_int h
  by_cases e1:a=c
  ·subst e1
   by_cases e2:b=d
   ·subst e2
    repeat (any_goals (first | assumption | (with_reducible refine stp ?_) | (with_reducible refine gtp ?_) | wp_step))
    refine⟨_,rfl,?_⟩;simp only [Int.lt_irrefl,decide_false,Bool.and_false,Bool.or_false] at h;exact h
   ·have e3:(b == d)=false:=by simpa using e2
    repeat (any_goals (first | assumption | (with_reducible refine stp ?_) | (with_reducible refine gtp ?_) | wp_step))
    refine⟨_,rfl,?_⟩;simp only [Int.lt_irrefl,decide_false,Bool.false_or,decide_true,Bool.true_and] at h;exact h
  ·have e3:(a == c)=false:=by simpa using e1
   repeat (any_goals (first | assumption | (with_reducible refine stp ?_) | (with_reducible refine gtp ?_) | wp_step))
   refine⟨_,rfl,?_⟩;simp only [QV e1,Bool.false_and,Bool.or_false] at h;exact h
theorem Gx {I S:Addr} {fp wr:List Addr} {n:Nat} {P:Nat->Value->Prop} {St:Nat->Heap->Prop} {R:Result->Shared->Prop} (W:Walks prog w A.in1 I fp wr n P St) (bt:Nat->Nat->Bool) (Φ:Heap->Prop) (hS:S∉fp)
  (kΦ:∀ h h',Φ h->(∀ b o,b∉wr->b≠S->h.get? b=some o->h'.get? b=some o)->Φ h')
  (cmp:∀ i j u v (s:Shared) (Q:Value->Shared->Prop) (E:Value->Shared->Prop),Φ s.heap->P i u->P j v->Q (.bool (bt i j)) s->wpAny (model prog w) A.in1 (richCompare .Gt u v) Q E s):
  ∀ (k j:Nat) (s:Shared) (vb:Value) (c:Nat),n - (j+1)=k->j+1<=n->Φ s.heap->St (j+1) s.heap->P (argBest bt j) vb->s.heap.get? S=some {cls:=.type "list",dict:=none,data:=.seq #[vb,vb] c,slots:=#[]}->
  (∀ v h' tk,P (argBest bt (n - 1)) v->(∀ b o,b∉wr->b≠S->s.heap.get? b=some o->h'.get? b=some o)->R (.ok (.ret v)) {s with heap:=h',toks:=tk})->codeAny (model prog w) A (.builtin "max.loop" ⟨[.ref I,.none,.ref S],[]⟩) R s:=by
 have nw:S∉wr:=λz=>hS (W.sub _ z)
 have nm:((toString "max"++toString ".loop":String))="max.loop":=by decide
 intro k
 induction k with
 | zero=>
  intro j s vb c hk hj ph st pb gS fin;have ej:n=j+1:=by omega
  refine Qz F.entry_max_loop ?_;rw [Qm Qv _];refine gt (m:=seqItems? (.ref S)) (Qy gS rfl (gt (Q2 (m:=pyNext (.ref I)) (W.done s _ _ (by rw [ej]; exact st) λh' tk far=>?_))))
  have g1:=far S _ nw gS;refine gt (m:=updateSeq S λ_=>#[]) (wpAny_updateSeq g1 rfl (gt (Q8 (PZ (fin vb _ tk (by rw [ej]; exact pb) λb o n1 n2 x=>?_)))))
  exact(Qw _ _ (Ne.symm n2)).trans (far b o n1 x)
 | succ k ih=>
  intro j s vb c hk hj ph st pb gS fin;have lt:j+1 < n:=by omega
  refine Qz F.entry_max_loop ?_;rw [Qm Qv _];refine gt (m:=seqItems? (.ref S)) (Qy gS rfl (gt (Q2 (m:=pyNext (.ref I)) (W.item (j+1) s _ _ lt st λv h' tk pv st1 far=>?_))))
  have g1:=far S _ nw gS;have ph1:=kΦ _ _ ph λb o n1 _ x=>far b o n1 x
  refine gt (PZ (gt (Q2 (Qq (gt (m:=richCompare .Gt v vb) (cmp (j+1) (argBest bt j) v vb _ _ _ ph1 pv pb (gt (Qq (wpAny_truthy_bool (gt (Q8 (PZ ?_))))))))))))
  by_cases hb:bt (j+1) (argBest bt j)=true
  ·rw [hb,if_pos rfl];refine gt (m:=updateSeq S λ_=>#[v,v]) (wpAny_updateSeq g1 rfl (gt (Q8 ?_)))
   have oth:∀ b o,b≠S->h'.get? b=some o->(h'.update S (Obj.mapSeq λ_=>#[v,v])).get? b=some o:=λb o n2 x=>(Qw _ _ (Ne.symm n2)).trans x
   rw [nm];refine PZ ⟨plainId_quiet Qv _,ih (j+1) _ v _ (by omega) lt (kΦ _ _ ph1 λb o _ n2 x=>oth b o n2 x) (W.frame _ _ _ st1 λb hb' o x=>oth b o (λz=>hS (z▸hb')) x) (by unfold argBest; rw [hb,if_pos rfl]; exact pv) (QL _ g1 rfl) λu h2 tk2 pu far2=>?_⟩
   exact fin u h2 tk2 pu λb o n1 n2 x=>far2 b o n1 n2 (oth b o n2 (far b o n1 x))
  ·have hb':bt (j+1) (argBest bt j)=false:=by simpa using hb
   rw [hb',if_neg P6];refine gt (Q8 ?_);rw [nm];refine PZ ⟨plainId_quiet Qv _,ih (j+1) _ vb c (by omega) lt ph1 st1 (by unfold argBest; rw [hb',if_neg P6]; exact pb) g1 λu h2 tk2 pu far2=>?_⟩
   exact fin u h2 tk2 pu λb o n1 n2 x=>far2 b o n1 n2 (far b o n1 x)
theorem F4 {x:Value} {s:Shared} {Q:Value->Shared->Prop} (h:wpAny (model prog w) A.in1 (pyIter x) (λit s2=>∃ I fp wr n P St bt,∃ Φ:Heap->Prop,it=.ref I/\Walks prog w A.in1 I fp wr n P St/\St 0 s2.heap/\(∀ b∈fp,b < s2.heap.objs.size)/\0 < n/\Φ s2.heap/\
   (∀ S,s2.heap.objs.size<=S->∀ h h',Φ h->(∀ b o,b∉wr->b≠S->h.get? b=some o->h'.get? b=some o)->Φ h')/\
   (∀ i j u v (s:Shared) (Q:Value->Shared->Prop) (E:Value->Shared->Prop),Φ s.heap->P i u->P j v->Q (.bool (bt i j)) s->wpAny (model prog w) A.in1 (richCompare .Gt u v) Q E s)/\
   ∀ v h' tk,P (argBest bt (n - 1)) v->(∀ b o,b∉wr->s2.heap.get? b=some o->h'.get? b=some o)->Q v {s2 with heap:=h',toks:=tk}) E s):wpAny (model prog w) A (call (.builtin "max") [x]) Q E s:=by
 have nm:((toString "max"++toString ".loop":String))="max.loop":=by decide
 refine call_function_tree F.kind_max F.plain_max F.entry_max (F.args_max1 _) (gt (m:=Builtin.Builtins.bindParams "max" ["key","default"] 0 ⟨[],[]⟩) (wpAny_of_eq (a:=[none,none]) rfl (gt (PZ (gt (QE h (λit s2 h2=>?_) λ_ _ e=>e))))))
 obtain⟨I,fp,wr,n,P,St,bt,Φ,rfl,W,st,below,n0,ph,kΦ,cmp,fin⟩:=h2;refine gt (Qs ?_);have hS:s2.heap.objs.size∉fp:=λm=>QX _ (below _ m)
 have nw:s2.heap.objs.size∉wr:=λm=>hS (W.sub _ m)
 have kp:∀ b o,s2.heap.get? b=some o->(s2.heap.push {cls:=.type "list",data:=.seq #[]}).get? b=some o:=λb o x=>pp _ x
 have gS:(s2.heap.push {cls:=.type "list",data:=.seq #[]}).get? s2.heap.objs.size=some {cls:=.type "list",dict:=none,data:=.seq #[] 0,slots:=#[]}:=P0 _ rfl
 have ph0:=kΦ _ (P3 _) _ _ ph λb o _ _ x=>kp b o x
 have st0:=W.frame 0 _ _ st λb _ o x=>kp b o x
 rw [nm];refine PZ ⟨plainId_quiet Qv _,Qz F.entry_max_loop ?_⟩;rw [Qm Qv _];refine gt (m:=seqItems? (.ref s2.heap.objs.size)) (Qy gS rfl (gt (Q2 (m:=pyNext (.ref I)) (W.item 0 _ _ _ n0 st0 λv h' tk pv st1 far=>?_))))
 have g1:=far _ _ nw gS;have ph1:=kΦ _ (P3 _) _ _ ph0 λb o n1 _ x=>far b o n1 x
 have oth:∀ b o,b≠s2.heap.objs.size->h'.get? b=some o->(h'.update s2.heap.objs.size (Obj.mapSeq λ_=>#[v,v])).get? b=some o:=λb o n2 x=>(Qw _ _ (Ne.symm n2)).trans x
 refine gt (PZ (gt (m:=updateSeq s2.heap.objs.size λ_=>#[v,v]) (wpAny_updateSeq g1 rfl ?_)))
 rw [nm];refine PZ ⟨plainId_quiet Qv _,Gx W bt Φ hS (kΦ _ (P3 _)) cmp _ 0 _ v _ rfl n0 (kΦ _ (P3 _) _ _ ph1 λb o _ n2 x=>oth b o n2 x) (W.frame _ _ _ st1 λb hb o x=>oth b o (λz=>hS (z▸hb)) x) pv (QL _ g1 rfl) λu h2 tk2 pu far2=>?_⟩
 exact fin u h2 tk2 pu λb o n1 x=>by
  have nb:b≠s2.heap.objs.size:=P9 (P2 x);exact far2 b o n1 nb (oth b o nb (far b o n1 (kp b o x)))
theorem x8 (c:uz) (hh:A.handled=none) (I d:Addr) (ne:d≠I) (es:Array DictEntry) (ep:Nat):Walks prog w A I [I,d] [I] es.size (λi v=>∃ e,es[i]?=some e/\v=uz.of e c) (λi h=>h.get? I=some (uQ c.nm d i es.size ep)/\h.get? d=some (lr es ep)) where
 sub:=λb hb=>by simp at hb; simp [hb]
 frame:=λ_ _ _ st k=>⟨k I (by simp) _ st.1,k d (by simp) _ st.2⟩
 item:=λi s Q E hi st fin=>AD c (e:=es[i]) st.1 st.2 (by simp [hi]) λh' a k=>fin _ h' s.toks ⟨es[i],by simp [hi],rfl⟩ ⟨a,k _ _ ne st.2⟩ λb o hb x=>k b o (λz=>hb (by simp [z])) x
 done:=λs Q E st fin=>ye c hh st.1 st.2 (by simp) λh' k=>fin h' s.toks λb o hb x=>k b o (λz=>hb (by simp [z])) x
 self:=λ_ _ _ _ st q=>AM c st.1 q
end
end PySem
namespace DL
open PySem PySem.Spec PyProof.Rows L2
theorem vk {X:Cx} {pins:List (Addr×Obj)} {σ:L2.St} {H:Hp} {s:Shared} (I:ay X pins σ H s):∀ {kvs:List (List Int×D)} {xs:List V} {us:List Value},IsDs X.K H (cN kvs) xs->a_ xs us->
  ∃ ts:List (Addr×List Int×Addr×Value),us=ts.map (λt=>Value.ref t.1)/\mW X.K H kvs (ts.map (·.2))/\
   ∀ t∈ts,(∃ dd n sl,s.heap.get? t.1=some {cls:=.type "tuple",dict:=dd,data:=.seq #[.ref t.2.2.1,t.2.2.2] n,slots:=sl})/\(CC X.prog X.w).is s.heap t.2.1 t.2.2.1
 | [],xs,us,i,r=>by
  have e:xs=[]:=j'.mp i;subst e;cases r;exact⟨[],rfl,.nil,λt ht=>nomatch ht⟩
 | kv::kvs,xs,us,i,r=>by
  obtain⟨v,vs,rfl,h1,h2⟩:=c8.mp (show IsDs X.K H (.tup [jC kv.1,kv.2]::cN kvs) xs from i)
  cases r with
  | @cons _ u _ us r1 r2=>
   obtain⟨ts,e,q1,q2⟩:=vk I h2 r2;obtain⟨T,ys,rfl,t1,j⟩:=cy.mp h1;obtain⟨y1,y2,rfl,j1,j2⟩:=uP j;obtain⟨b,rfl,tb⟩:=qy.mp j1;cases (show u=Value.ref T from r1)
   obtain⟨its,rv,⟨⟨cls,dd,data,sl⟩,g1,g2,n,g3⟩,_⟩:=I.tuple t1;obtain⟨w1,w2,rfl,rw1,rw2⟩:=Au rv;cases (show w1=Value.ref b from rw1)
   simp only at g2 g3
   subst g2 g3;refine⟨(T,kv.1,b,w2)::ts,by rw [e]; rfl,.cons ⟨rfl,tb,y2,rw2,j2⟩ q1,λt ht=>?_⟩
   rcases P8.mp ht with e2 | ht2
   ·subst e2;exact⟨⟨dd,n,sl,g1⟩,mY I tb⟩
   ·exact q2 t ht2
theorem BD (ts:List (Addr×List Int×Addr×Value)):∀ acc,ts.foldl (λacc t=>storedH acc t.2.1 t.2.2.1 t.2.2.2) acc=(ts.map (·.2)).foldl (λacc k=>storedH acc k.1 k.2.1 k.2.2) acc:=by
 induction ts with
 | nil=>intro acc; rfl
 | cons t ts ih=>intro acc; exact ih _
def IR:bC:=λds S k=>match ds with
 | [.ref a]=>(∃ kvs ep,S a=some (.gen (.dT kvs ep))/\(kvs.map λp=>vf p.1).Nodup/\∀ p,S p=none->∀ ep',k (.ref p) (put S p (.gen (.dT kvs ep'))))\/
   ∃ kvs,S a=some (.lst (cN kvs))/\∀ p,S p=none->∀ ep',k (.ref p) (put S p (.gen (.dT (jt [] kvs) ep')))
 | _=>False
theorem Ka {X:Cx} {n:Nat} (hr:ce n X.A):c_ X (.type "dict") (wL X.K IR):=by
 intro pins s σ H xs us Q I rs h;obtain⟨ds,S,k,i,hS,r,m⟩:=h;unfold IR at r
 split at r
 ·rename_i a
  obtain⟨v,rfl,j⟩:=k_ i;have ex:=aX.mp j;subst ex;obtain⟨u,rfl,ru⟩:=nG rs;cases (show u=Value.ref a from ru)
  have hn:=I.hok.fresh (P3 s.heap.objs.size);have hb:(s.heap.objs.size == sysModules)=false:=beq_eq_false_iff_ne.mpr (Ne.symm (P9 I.big));have hun:=hr.un;rcases r with ⟨kvs,ep,g1,nd,r⟩ | ⟨kvs,g1,r⟩
  ·obtain⟨ys,e1,r1⟩:=hS.dT g1;obtain⟨hd,z,ndk,g⟩:=cc I e1;have hash:(ys.map λy=>vf y.1)=kvs.map λp=>vf p.1:=by
    clear e1 z ndk g nd g1 r
    induction r1 with
    | nil=>rfl
    | cons h t ih=>exact congr (congrArg List.cons (congrArg vf h.1.symm)) ih
   refine tQ hd g (λe he=>?_) ?_ (by simp; omega) λh' ep' g' kk=>?_
   ·simp only [P4] at he;obtain⟨y,hy,rfl⟩:=he;have dd:=rN I e1 r1;obtain⟨_,_,_,_,_,_,_,al,_⟩:=dd;obtain⟨q,its,n',q1,q2,_⟩:=al y hy;exact⟨y.2.1,q,rfl,q1,q2⟩
   ·show((ys.map eT).map (·.hash)).Nodup
    rw [QJ,show((λx:DictEntry=>x.hash) ∘ eT)=λy:List Int×Addr×Value=>vf y.1 from rfl,hash]
    exact nd
   ·have new:lq s.heap.objs.size ys ep' h':=⟨hb,z,ndk,g'⟩;refine⟨.ref s.heap.objs.size,_,I.laid (o:=.ext (lq s.heap.objs.size ys ep')) (t':=s.toks) kk (P3 _) (qg new),rfl,?_⟩;exact m _ _ _ _ (r _ (hS.free hn) ep') (Kp.new hn) (hS.newG hn ⟨ys,bu,r1.kp (Kp.new hn)⟩) (aX.mpr rfl)
  ·obtain⟨vs,hl,jl⟩:=hS.lst g1;obtain⟨z,its,c,rv,gl⟩:=(show dc X.prog X.w H s.heap a (.lst vs) from I.hok a _ hl)
   obtain⟨ts,rfl,q1,q2⟩:=vk I jl rv;have hz:ts.length<=sizeLine:=by
    have:=rv.length;rw [P5] at this;omega
   refine tD (by omega) hr.hd I.big ts gl q2 hz λh' tk kk dd=>?_
   rw [BD] at dd;have z':((ts.map (·.2)).foldl (λacc k=>storedH acc k.1 k.2.1 k.2.2) []).length<=sizeLine:=by have:=qh (ts.map (·.2)) []; rw [P5,Re] at this; omega
   obtain⟨ep',new⟩:=yD hb z' dd;refine⟨.ref s.heap.objs.size,_,I.laid (o:=.ext (lq s.heap.objs.size _ ep')) (t':=tk) kk (P3 _) (qg new),rfl,?_⟩;exact m _ _ _ _ (r _ (hS.free hn) ep') (Kp.new hn) (hS.newG hn ⟨_,bu,(q1.merge .nil).kp (Kp.new hn)⟩) (aX.mpr rfl)
 ·exact r.elim
def tT:List Int->List Int->Bool
 | [a,b],[c,d]=>decide (c < a) || (decide (a=c) && decide (d < b))
 | _,_=>false
theorem Af (key:Nat->List Int) (h2:∀ i,∃ a b,key i=[a,b]):∀ k,argBest (λi j=>tT (key i) (key j)) k<=k/\∀ i,i<=k->tT (key i) (key (argBest (λi j=>tT (key i) (key j)) k))=false
 | 0=>⟨P3 _,λi h=>by
   have:i=0:=by omega
   subst this;obtain⟨a,b,e⟩:=h2 0
   show tT (key 0) (key 0)=false
   rw [e];simp [tT]⟩
 | k+1=>by
  obtain⟨b1,b2⟩:=Af key h2 k;obtain⟨a,b,e1⟩:=h2 (k+1);obtain⟨c,d,e2⟩:=h2 (argBest (λi j=>tT (key i) (key j)) k)
  unfold argBest
  by_cases h:tT (key (k+1)) (key (argBest (λi j=>tT (key i) (key j)) k))=true
  ·rw [if_pos h];refine⟨P3 _,λi hi=>?_⟩
   obtain⟨x,y,e3⟩:=h2 i;rw [e1,e2] at h;rw [e1,e3]
   by_cases q:i=k+1
   ·subst q;rw [e1] at e3;injection e3 with z1 z2
    injection z2 with z2 _
    subst z1 z2;simp [tT]
   ·have z:=b2 i (by omega)
    rw [e2,e3] at z;simp only [tT,Bool.or_eq_true,QI,Q5,Bool.or_eq_false_iff,Bool.and_eq_false_iff,decide_eq_false_iff_not] at h z ⊢
    omega
  ·rw [if_neg h];refine⟨by omega,λi hi=>?_⟩
   by_cases q:i=k+1
   ·subst q; simpa using h
   ·exact b2 i (by omega)
def oS (ys:List (List Int×Addr×Value)) (i:Nat):List Int:=(ys[i]?.map (·.1)).getD [0,0]
theorem ky {ys:List (List Int×Addr×Value)} {i:Nat} {y:List Int×Addr×Value} (h:ys[i]?=some y):oS ys i=y.1:=by unfold oS; rw [h]; rfl
def I9:bC:=λds S k=>match ds with
 | [.ref a]=>∃ kvs ep,S a=some (.gen (.dT kvs ep))/\kvs≠[]/\(∀ p∈kvs,∃ i j,p.1=[i,j])/\∀ m∈kvs,(∀ p∈kvs,tT p.1 m.1=false)->k (jC m.1) S
 | _=>False
theorem Jg {X:Cx} {n:Nat} (hr:ce n X.A):c_ X (.builtin "max") (wL X.K I9):=by
 intro pins s σ H xs us Q I rs h;obtain⟨ds,S,k,i,hS,r,m⟩:=h;unfold I9 at r
 split at r
 ·rename_i a
  obtain⟨v,rfl,j⟩:=k_ i;have ex:=aX.mp j;subst ex;obtain⟨u,rfl,ru⟩:=nG rs;cases (show u=Value.ref a from ru)
  obtain⟨kvs,ep,g1,ne,two,r⟩:=r;obtain⟨ys,e1,r1⟩:=hS.dT g1;obtain⟨hd,z,ndk,g⟩:=cc I e1;have hun:=hr.un;have la:a < s.heap.objs.size:=P2 g;have len:=r1.length;have n0:0 < ys.length:=by rw [<- len]; exact List.length_pos_iff.mpr ne
  have tup:∀ y∈ys,∃ i j dd sl t1 t2 c,y.1=[i,j]/\s.heap.get? y.2.1=some ⟨.type "tuple",dd,.seq #[.int i t1,.int j t2] c,sl⟩:=λy hy=>by
   obtain⟨q,hq,rfl⟩:=List.mem_iff_getElem.mp hy;obtain⟨p',hp1,hp2,hp3,_⟩:=r1.at_ (i:=q) (p:=kvs[q]'(by omega)) (by simp)
   rw [Qr hq] at hp1;cases hp1;obtain⟨i,j,ee⟩:=two _ (Q9 (by omega:q < kvs.length))
   rw [ee] at hp2 hp3
   obtain⟨its,rv,⟨⟨cls,dd,data,sl⟩,h1,h2,c,h3⟩,_⟩:=I.tuple hp3;obtain⟨w1,w2,rfl,rw1,rw2⟩:=Au rv;obtain⟨t1,rfl⟩:=rw1;obtain⟨t2,rfl⟩:=rw2;simp only at h2 h3
   subst h2 h3;exact⟨i,j,dd,sl,t1,t2,c,hp2.symm,h1⟩
  have hz:ys.length<=sizeLine:=z;have szE:(ys.map eT).toArray.size=ys.length:=by simp
  have keyOk:∀ i,∃ a b,oS ys i=[a,b]:=λi=>by
   unfold oS;cases q:ys[i]? with
   | none=>exact⟨0,0,rfl⟩
   | some y=>
    obtain⟨a,b,_,_,_,_,_,e,_⟩:=tup y (List.mem_of_getElem? q);exact⟨a,b,e⟩
  refine F4 (vh (A:=X.A.in1) hd g ?_);refine⟨s.heap.objs.size,_,_,_,_,_,λi j=>tT (oS ys i) (oS ys j),λh=>∀ y∈ys,∃ i j dd sl t1 t2 c,y.1=[i,j]/\h.get? y.2.1=some ⟨.type "tuple",dd,.seq #[.int i t1,.int j t2] c,sl⟩,rfl,
   x8 .k (show X.A.in1.handled=none from hr.hd) s.heap.objs.size a (P9 la) _ ep,⟨P0 _ rfl,pp _ g⟩,CN la,by rw [szE]; exact n0,λy hy=>?_,λS' hS' h h' ph far y hy=>?_,λi j u v s' Q' E' ph pu pv q=>?_,λv h' tk pv far=>?_⟩
  ·obtain⟨i,j,dd,sl,t1,t2,c,ee,gg⟩:=tup y hy;exact⟨i,j,dd,sl,t1,t2,c,ee,pp _ gg⟩
  ·obtain⟨i0,j0,dd0,sl0,t10,t20,c0,ee0,gg0⟩:=tup y hy;have ly:y.2.1 < s.heap.objs.size:=P2 gg0;obtain⟨i,j,dd,sl,t1,t2,c,ee,gg⟩:=ph y hy;have sp:s.heap.objs.size < S':=Qb (P2 (P0 s.heap (o:=uQ "dict_keyiterator" a 0 (ys.map eT).toArray.size ep) rfl)) hS'
   exact⟨i,j,dd,sl,t1,t2,c,ee,far _ _ (by simp; exact P9 ly) (P9 (Nat.lt_trans ly sp)) gg⟩
  ·obtain⟨e,he,rfl⟩:=pu;obtain⟨e',he',rfl⟩:=pv;simp only [Ra,Qt] at he he'
   obtain⟨y,hy,rfl⟩:=QQ.mp he;obtain⟨y',hy',rfl⟩:=QQ.mp he';obtain⟨a1,b1,dd,sl,t1,t2,c,ee,gg⟩:=ph y (List.mem_of_getElem? hy);obtain⟨a2,b2,dd',sl',t1',t2',c',ee',gg'⟩:=ph y' (List.mem_of_getElem? hy');have T1:s'.TypeIs (.ref y.2.1) "tuple":=⟨_,gg,rfl⟩
   simp only [ky hy,ky hy',ee,ee',tT] at q;have fin:Value.bool (decide (a2 < a1) || (decide (a1=a2) && decide (b2 < b1)))≠.notImplemented/\Q' (.bool (decide (a2 < a1) || (decide (a1=a2) && decide (b2 < b1)))) s':=⟨(by intro z; cases z),q⟩
   exact wpAny_richCompare_same_room (op:=.Gt) T1 ⟨_,gg',rfl⟩ F.slot_tuple_gt (call_meetsIn F.slot_tuple_gt T1 F.entry_tuple_gt (F.args_tuple_gt_2 _ _) (M6 y.2.1 y'.2.1 a1 b1 a2 b2 t1 t2 t1' t2' c c' dd dd' sl sl') ⟨by show X.A.units+1+1 < cLine; omega,gg,gg',fin⟩) (by show X.A.units+1 < cLine; omega)
  ·obtain⟨e,he,rfl⟩:=pv;simp only [Ra,Qt] at he;rw [szE] at he;obtain⟨y,hy,rfl⟩:=QQ.mp he;obtain⟨b1,b2⟩:=Af (oS ys) keyOk (ys.length - 1);generalize argBest (λi j=>tT (oS ys i) (oS ys j)) (ys.length - 1)=bi at b1 b2 hy
   have lb:bi < kvs.length:=by omega
   obtain⟨q,hq,f1,f2,_⟩:=r1.at_ (i:=bi) (p:=kvs[bi]) (by simp)
   rw [hy] at hq;cases hq;have kq:=r kvs[bi] (Q9 lb) λp hp=>by
    obtain⟨x,hx,rfl⟩:=List.mem_iff_getElem.mp hp;obtain⟨q',hq',f1',_⟩:=r1.at_ (i:=x) (p:=kvs[x]) (by simp)
    have z:=b2 x (by omega)
    rw [ky hq',ky hy,<- f1',<- f1] at z;exact z
   have I1:ay X pins σ H {s with heap:=s.heap.push (uQ "dict_keyiterator" a 0 (ys.map eT).toArray.size ep)}:=I.kept (t':=s.toks) λc o e=>pp _ e
   refine⟨.ref y.2.1,H,ay.turnedL (s:={s with heap:=s.heap.push (uQ "dict_keyiterator" a 0 (ys.map eT).toArray.size ep)}) (t':=tk) [s.heap.objs.size] I1 far (λc hc=>?_),rfl,m _ S _ H kq (Kp.refl H) hS (qy.mpr ⟨_,rfl,f2⟩)⟩
   have e:c=s.heap.objs.size:=by simpa using hc
   subst e;exact I.fpOk (P3 _) (I.hok.fresh (P3 _))
 ·exact r.elim
end DL
namespace L2
open PySem PySem.Spec PyProof.Rows
def Ln (p a:Addr):Heap->Prop:=λh=>h.get? p=some {cls:=.type "dict_values",data:=.fields #[.ref a]}
section
variable {X:Cx} {o:Expr} {to:TE} {apos cpos pos p0:Pos}
def M_ (to:TE):TE:=fun σ H Q=>to σ H λx H1=>∃ a xs ep,x=.ref a/\H1 a=some (.ext (DL.lq a xs ep))/\∀ p,H1 p=none->Q (.ref p) (bz H1 p (.ext (Ln p a)))
theorem GB (ho:PE X o to) (hbase:attributeBase o "values" X.env (eval o X.env)=eval o X.env:=by rfl) (hline:(apos.endLine == cpos.line)=true:=by rfl):PE X (.Call (.Attribute o "values" apos) [] [] cpos) (M_ to):=by
 intro pins s σ H Q I h;refine wpAny_Call_method0_late hbase hline (b9 (ho pins s σ H _ I h) λv s1 ⟨x,H1,I1,r1,a,xs,ep,ex,e1,q⟩=>?_)
 subst ex;cases (show v=Value.ref a from r1)
 obtain⟨hd,_,_,g⟩:=DL.cc I1 e1;refine⟨"dict","dict.values",F.plainAttrs_dict,F.slot_dict_values,F.type_dict_values,⟨_,g,rfl⟩,λb e=>by cases e; exact⟨_,g,rfl⟩,Calls.callWith_builtin rfl (PySem.evalArgs_none ?_)⟩
 refine call_meetsIn F.slot_dict_values ⟨_,g,rfl⟩ F.entry_dict_values (F.args_dict_values_1 _) (OT a _ ep hd) ⟨g,?_⟩;have hn:=I1.hok.fresh (P3 s1.heap.objs.size);have gp:(s1.heap.push {cls:=.type "dict_values",data:=.fields #[.ref a]}).get? s1.heap.objs.size=some {cls:=.type "dict_values",data:=.fields #[.ref a]}:=P0 _ rfl
 exact⟨.ref s1.heap.objs.size,_,I1.laid (o:=.ext (Ln s1.heap.objs.size a)) (t':=s1.toks) (λb o e=>pp _ e) (P3 _) ⟨gp,⟨_,gp⟩,λh1 h2 z k=>k _ z⟩,rfl,q _ hn⟩
theorem El {P:Program} {w:World} {p a:Addr} {es:Array DictEntry} {ep:Nat}:PySem.W.KdlSrc P w "dict_values" p a es.size (λi v=>∃ e,es[i]?=some e/\v=uz.of e .v) (λh=>Ln p a h/\h.get? a=some (DL.lr es ep)) where
 type:=λs ok=>⟨_,ok.1,rfl⟩
 there:=λh ok=>⟨P2 ok.1,P2 ok.2⟩
 keep:=λh h' ok k=>⟨k p (.inl rfl) _ ok.1,k a (.inr rfl) _ ok.2⟩
 notList:=by decide
 notTuple:=by decide
 hint:=λA E s Q ok q=>PySem.W.kdl_hint_values ⟨_,ok.1,rfl⟩ q
 iter:=λA s hh ok=>⟨uQ "dict_valueiterator" a 0 es.size ep,_,λE Q q=>uS ok.1 ok.2 q,x8 .v hh s.heap.objs.size a (P9 (P2 ok.2)) es ep,⟨P0 _ rfl,pp _ ok.2⟩⟩
def K0:List V->Hp->VK->Prop:=λxs H Q=>∃ p a ys ep vs,xs=[.ref p]/\H p=some (.ext (Ln p a))/\H a=some (.ext (DL.lq a ys ep))/\a_ vs (ys.map (·.2.2))/\∀ q,H q=none->Q (.ref q) (bz H q (.lst vs))
theorem yV (hc:X.calm=true):c_ X (.type "list") K0:=by
 intro pins s σ H xs us Q I rs h;obtain⟨p,a,ys,ep,vs,rfl,e1,e2,rv,q⟩:=h;obtain⟨u,rfl,ru⟩:=nG rs;cases (show u=Value.ref p from ru)
 have g1:=(I.hok p _ e1).1;obtain⟨_,z,_,g2⟩:=DL.cc I e2;have hn:=I.hok.fresh (P3 s.heap.objs.size);have sz:(ys.map DL.eT).toArray.size=ys.length:=by simp
 refine PySem.W.kdl_call (El (p:=p) (a:=a) (es:=(ys.map DL.eT).toArray) (ep:=ep)) (I.ok.hd hc) ⟨g1,g2⟩ (by rw [sz]; exact z) λh' tk acc' c' kk gn it=>?_
 have ev:acc'.toList=ys.map (·.2.2):=by
  obtain⟨l1,l2⟩:=it;apply List.ext_getElem?;intro i;rw [Array.getElem?_toList,Qt];cases q1:acc'[i]? with
  | none=>
   have:acc'.size<=i:=by simpa using q1
   rw [l1,sz] at this;rw [List.getElem?_eq_none this]
   rfl
  | some v=>
   obtain⟨e,he,rfl⟩:=l2 i v q1;simp only [Ra,Qt] at he;obtain⟨y,hy,rfl⟩:=QQ.mp he;rw [hy]
   rfl
 have ea:acc'=(ys.map (·.2.2)).toArray:=by rw [<- ev]
 refine⟨.ref s.heap.objs.size,_,I.laid (o:=.lst vs) (t':=tk) kk (P3 _) ⟨?_,_,c',rv,by rw [gn,ea]⟩,rfl,q _ hn⟩
 rw [rv.length,P5];exact z
end
end L2
namespace DL
open PySem PySem.Spec PyProof.Rows L2
theorem mW.vals {K:Fg} {H:Hp}:∀ {kvs:List (List Int×D)} {xs:List (List Int×Addr×Value)},mW K H kvs xs->∃ vs,a_ vs (xs.map (·.2.2))/\IsDs K H (kvs.map (·.2)) vs
 | _,_,.nil=>⟨[],.nil,IsDs.nil⟩
 | _,_,.cons ⟨_,_,v,h3,h4⟩ t=>by
  obtain⟨vs,a,b⟩:=mW.vals t;exact⟨v::vs,.cons h3 a,IsDs.cons h4 b⟩
def J8 (go:DE):DE:=λL S k=>go L S λd S1=>match d with
 | .ref a=>∃ kvs ep,S1 a=some (.gen (.dT kvs ep))/\∀ p,S1 p=none->k (.ref p) (put S1 p (.lst (kvs.map (·.2))))
 | _=>False
theorem yg {X:Cx} {o:Expr} {go:DE} {apos cpos pos p0:Pos} (hc:X.calm=true) (hg:Gl X "list") (hm:X.mg "list"=none) (ho:EJ X o go) (hbase:attributeBase o "values" X.env (eval o X.env)=eval o X.env:=by rfl) (hline:(apos.endLine == cpos.line)=true:=by rfl):
  EJ X (.Call (.Name "list" p0) [.Call (.Attribute o "values" apos) [] [] cpos] [] pos) (J8 go):=
 ⟨PE.imp (pH (yV hc) hg hm (by decide +kernel) (nv (GB ho.h hbase hline) pN rfl)) fun σ H Q ⟨L,S,k,hL,hS,h,n⟩=>up.go hL hS h λd S1 v H1 h1 k1 hL1 hS1 i1=>by
  cases d with
  | ref a=>
   obtain⟨kvs,ep,g1,h1⟩:=h1;obtain⟨xs,e1,r1⟩:=hS1.dT g1;have ex:=aX.mp i1;subst ex;refine⟨a,xs,ep,rfl,e1,λp hp=>?_⟩
   obtain⟨vs,q1,q2⟩:=r1.vals;have kn:Kp H1 (bz H1 p (.ext (Ln p a))):=Kp.new hp;have na:a≠p:=bf e1 hp;refine⟨p,a,xs,ep,vs,rfl,bu,by rw [aK na]; exact e1,q1,λq hq=>?_⟩
   have hS2:Hs X.K (bz H1 p (.ext (Ln p a))) S1:=hS1.new hp;exact n _ _ _ _ (h1 q (hS2.free hq)) ((k1.trans kn).trans (Kp.new hq)) (hS2.newL hq (q2.kp kn)) (aX.mpr rfl)
  | _=>exact(show False from h1).elim⟩
end DL
namespace PySem
set_option maxRecDepth 100000
namespace F
theorem args_max1K (a d:Value):argsOk "max" ⟨[a],[("default",d)]⟩:=by unfold argsOk; kernel_rfl
end F
section
variable {prog:Program} {w:World} {A:Around} {E:Value->Shared->Prop}
theorem DC {s:Shared} {id:String} {b:Builtin} {args:List Value} {kw:List (Str×Value)} {Q:Value->Shared->Prop} (hk:builtinKind id=none) (hp:plainId id=true) (hb:entryFor table id=some b) (ha:argsOk id ⟨args,kw⟩)
  (hc:wpAny (model prog w) A.in1 (b ⟨args,kw⟩) (λfin s'=>match fin with
   | .done f=>(match (Except.ok f:Result) with | .ok (.ret v)=>Q v s' | .ok _=>False | .error e=>E e s')
   | .again c'=>c'.quiet=true/\codeAny (model prog w) A c' (λr s'=>match r with | .ok (.ret v)=>Q v s' | .ok _=>False | .error e=>E e s') s') E s):
  wpAny (model prog w) A (call (.builtin id) args kw) Q E s:=by
 refine wpAny_call (codeAny_call_builtin hp hb ?_);unfold checkBuiltinCall;rw [hk];unfold argsOk at ha;dsimp only
 split at ha
 ·rename_i sg eg
  rw [eg];exact wpAny_of_eq ha hc
 ·rename_i eg
  rw [eg];exact PZ hc
theorem G0 {I S:Addr} {fp wr:List Addr} {n:Nat} {P:Nat->Value->Prop} {St:Nat->Heap->Prop} {R:Result->Shared->Prop} {kw:List (Str×Value)} (W:Walks prog w A.in1 I fp wr n P St) (bt:Nat->Nat->Bool) (hS:S∉fp) (cmp:CmpOf prog w A.in1 .Gt P bt):
  ∀ (k j:Nat) (s:Shared) (vb:Value) (c:Nat),n - (j+1)=k->j+1<=n->St (j+1) s.heap->P (argBest bt j) vb->s.heap.get? S=some {cls:=.type "list",dict:=none,data:=.seq #[vb,vb] c,slots:=#[]}->
  (∀ v h' tk,P (argBest bt (n - 1)) v->(∀ b o,b∉wr->b≠S->s.heap.get? b=some o->h'.get? b=some o)->R (.ok (.ret v)) {s with heap:=h',toks:=tk})->codeAny (model prog w) A (.builtin "max.loop" ⟨[.ref I,.none,.ref S],kw⟩) R s:=by
 have nw:S∉wr:=λz=>hS (W.sub _ z)
 have nm:((toString "max"++toString ".loop":String))="max.loop":=by decide
 intro k
 induction k with
 | zero=>
  intro j s vb c hk hj st pb gS fin;have ej:n=j+1:=by omega
  refine Qz F.entry_max_loop ?_;rw [Qm Qv _];refine gt (m:=seqItems? (.ref S)) (Qy gS rfl (gt (Q2 (m:=pyNext (.ref I)) (W.done s _ _ (by rw [ej]; exact st) λh' tk far=>?_))))
  have g1:=far S _ nw gS;refine gt (m:=updateSeq S λ_=>#[]) (wpAny_updateSeq g1 rfl (gt (Q8 (PZ (fin vb _ tk (by rw [ej]; exact pb) λb o n1 n2 x=>?_)))))
  exact(Qw _ _ (Ne.symm n2)).trans (far b o n1 x)
 | succ k ih=>
  intro j s vb c hk hj st pb gS fin;have lt:j+1 < n:=by omega
  refine Qz F.entry_max_loop ?_;rw [Qm Qv _];refine gt (m:=seqItems? (.ref S)) (Qy gS rfl (gt (Q2 (m:=pyNext (.ref I)) (W.item (j+1) s _ _ lt st λv h' tk pv st1 far=>?_))))
  have g1:=far S _ nw gS;refine gt (PZ (gt (Q2 (Qq (gt (m:=richCompare .Gt v vb) (cmp (j+1) (argBest bt j) v vb _ _ _ pv pb (gt (Qq (wpAny_truthy_bool (gt (Q8 (PZ ?_))))))))))))
  by_cases hb:bt (j+1) (argBest bt j)=true
  ·rw [hb,if_pos rfl];refine gt (m:=updateSeq S λ_=>#[v,v]) (wpAny_updateSeq g1 rfl (gt (Q8 ?_)))
   have oth:∀ b o,b≠S->h'.get? b=some o->(h'.update S (Obj.mapSeq λ_=>#[v,v])).get? b=some o:=λb o n2 x=>(Qw _ _ (Ne.symm n2)).trans x
   rw [nm];refine PZ ⟨plainId_quiet Qv _,ih (j+1) _ v _ (by omega) lt (W.frame _ _ _ st1 λb hb' o x=>oth b o (λz=>hS (z▸hb')) x) (by unfold argBest; rw [hb,if_pos rfl]; exact pv) (QL _ g1 rfl) λu h2 tk2 pu far2=>?_⟩
   exact fin u h2 tk2 pu λb o n1 n2 x=>far2 b o n1 n2 (oth b o n2 (far b o n1 x))
  ·have hb':bt (j+1) (argBest bt j)=false:=by simpa using hb
   rw [hb',if_neg P6];refine gt (Q8 ?_);rw [nm];refine PZ ⟨plainId_quiet Qv _,ih (j+1) _ vb c (by omega) lt st1 (by unfold argBest; rw [hb',if_neg P6]; exact pb) g1 λu h2 tk2 pu far2=>?_⟩
   exact fin u h2 tk2 pu λb o n1 n2 x=>far2 b o n1 n2 (far b o n1 x)
theorem F3 {x d:Value} {s:Shared} {Q:Value->Shared->Prop} (h:wpAny (model prog w) A.in1 (pyIter x) (λit s2=>∃ I fp wr n P St bt,it=.ref I/\Walks prog w A.in1 I fp wr n P St/\St 0 s2.heap/\(∀ b∈fp,b < s2.heap.objs.size)/\CmpOf prog w A.in1 .Gt P bt/\
   (0 < n->∀ v h' tk,P (argBest bt (n - 1)) v->(∀ b o,b∉wr->s2.heap.get? b=some o->h'.get? b=some o)->Q v {s2 with heap:=h',toks:=tk})/\
   (n=0->∀ h' tk,(∀ b o,b∉wr->s2.heap.get? b=some o->h'.get? b=some o)->Q d {s2 with heap:=h',toks:=tk})) E s):wpAny (model prog w) A (call (.builtin "max") [x] [("default",d)]) Q E s:=by
 have nm:((toString "max"++toString ".loop":String))="max.loop":=by decide
 refine DC F.kind_max F.plain_max F.entry_max (F.args_max1K _ _) (gt (m:=Builtin.Builtins.bindParams "max" ["key","default"] 0 ⟨[],[("default",d)]⟩) (wpAny_of_eq (a:=[none,some d]) rfl (gt (PZ (gt (QE h (λit s2 h2=>?_) λ_ _ e=>e))))))
 obtain⟨I,fp,wr,n,P,St,bt,rfl,W,st,below,cmp,fin,fin0⟩:=h2;refine gt (Qs ?_);have hS:s2.heap.objs.size∉fp:=λm=>QX _ (below _ m)
 have nw:s2.heap.objs.size∉wr:=λm=>hS (W.sub _ m)
 have kp:∀ b o,s2.heap.get? b=some o->(s2.heap.push {cls:=.type "list",data:=.seq #[]}).get? b=some o:=λb o x=>pp _ x
 have gS:(s2.heap.push {cls:=.type "list",data:=.seq #[]}).get? s2.heap.objs.size=some {cls:=.type "list",dict:=none,data:=.seq #[] 0,slots:=#[]}:=P0 _ rfl
 have st0:=W.frame 0 _ _ st λb _ o x=>kp b o x
 rw [nm];refine PZ ⟨plainId_quiet Qv _,Qz F.entry_max_loop ?_⟩;rw [Qm Qv _]
 by_cases n0:0 < n
 ·refine gt (m:=seqItems? (.ref s2.heap.objs.size)) (Qy gS rfl (gt (Q2 (m:=pyNext (.ref I)) (W.item 0 _ _ _ n0 st0 λv h' tk pv st1 far=>?_))))
  have g1:=far _ _ nw gS;have oth:∀ b o,b≠s2.heap.objs.size->h'.get? b=some o->(h'.update s2.heap.objs.size (Obj.mapSeq λ_=>#[v,v])).get? b=some o:=λb o n2 x=>(Qw _ _ (Ne.symm n2)).trans x
  refine gt (PZ (gt (m:=updateSeq s2.heap.objs.size λ_=>#[v,v]) (wpAny_updateSeq g1 rfl ?_)))
  rw [nm];refine PZ ⟨plainId_quiet Qv _,G0 W bt hS cmp _ 0 _ v _ rfl n0 (W.frame _ _ _ st1 λb hb o x=>oth b o (λz=>hS (z▸hb)) x) pv (QL _ g1 rfl) λu h2 tk2 pu far2=>?_⟩
  exact fin n0 u h2 tk2 pu λb o n1 x=>by
   have nb:b≠s2.heap.objs.size:=P9 (P2 x);exact far2 b o n1 nb (oth b o nb (far b o n1 (kp b o x)))
 ·have e0:n=0:=by omega
  refine gt (m:=seqItems? (.ref s2.heap.objs.size)) (Qy gS rfl (gt (Q2 (m:=pyNext (.ref I)) (W.done _ _ _ (by rw [e0]; exact st0) λh' tk far=>?_))))
  have q:=fin0 e0 h' tk λb o n1 x=>far b o n1 (kp b o x)
  repeat (any_goals (first | assumption | wp_step))
end
end PySem
namespace L2
open PySem PySem.Spec PyProof.Rows
section
variable {X:Cx}
def Ih (X:Cx) (f:Value) (nm:Str) (r:List V->V->Hp->VK->Prop):Prop:=
 ∀ (pins:List (Addr×Obj)) (s:Shared) (σ:St) (H:Hp) (xs:List V) (us:List Value) (d:V) (u:Value) (Q:VK),ay X pins σ H s->a_ xs us->aS d u->r xs d H Q->wpAny (model X.prog X.w) X.A (call f us [(nm,u)]) (EP X pins σ Q) X.xe s
theorem Bz (hc:X.calm=true):Ih X (.builtin "max") "default" (λxs d H Q=>∃ (p:Addr) (ns:List Int),xs=[.ref p]/\jD X.K H p (ns.map V.int)/\(ns=[]->Q d H)/\∀ m:Int,m∈ns->(∀ x∈ns,x<=m)->Q (.int m) H):=by
 intro pins s σ H xs us d ud Q I r rd h;obtain⟨p,ns,rfl,hq,q0,q⟩:=h;obtain⟨u,rfl,rx⟩:=nG r;cases rx;obtain⟨its,rv,pl,hz⟩:=I.list hq;have hl:=rv.length;rw [P5] at hl;have hlt:=pl.lt;have hh:X.A.in1.handled=none:=I.ok.hd hc;have hv:∀ i v,its.toArray[i]?=some v->∃ t,v=Value.int (ns.getD i 0) t:=λi v h=>sQ (i:=i) (v:=v) rv (by rw [Ra] at h; exact h)
 refine F3 (wpAny_pyIter_list pl.isList ?_);refine⟨s.heap.objs.size,_,_,_,_,_,λi j=>decide (ns.getD i 0 > ns.getD j 0),rfl,Walks.list hh s.heap.objs.size p (P9 hlt) its.toArray,⟨⟨_,P0 _ rfl,rfl,rfl⟩,Heap.IsList.at pl.isList λo e=>pp _ e⟩,CN hlt,CmpOf.ints_gt _ hv,λn0 v h' tk hP kk=>?_,λn0 h' tk kk=>?_⟩
 ·rw [P7,<- hl] at hP n0
  obtain⟨t,rfl⟩:=hv _ _ hP;obtain⟨b1,b2⟩:=tw (λi=>ns.getD i 0) (ns.length - 1)
  have hm:ns.getD (argBest (λi j=>decide (ns.getD i 0 > ns.getD j 0)) (ns.length - 1)) 0∈ns:=by
   have hlt2:argBest (λi j=>decide (ns.getD i 0 > ns.getD j 0)) (ns.length - 1) < ns.length:=by omega
   rw [QB,Qr hlt2];exact Q9 hlt2
  refine rP I (show aS (.int _) (.int _ t) from⟨t,rfl⟩) (q _ hm λx hx=>?_) h' tk kk
  obtain⟨i,hi,rfl⟩:=List.mem_iff_getElem.mp hx;have:=b2 i (by omega)
  rw [QB,Qr hi] at this;exact this
 ·rw [P7,<- hl] at n0;exact rP I rd (q0 (Rg.mp n0)) h' tk kk
theorem Bv {x nm:Str} {p pos kp:Pos} {e ed:Expr} {es:List Expr} {t:TA} {id:String} {td:TE} {r:List V->V->Hp->VK->Prop} (hc:Ih X (.builtin id) nm r) (hg:Gl X x) (hm:X.mg x=none) (hv:bootBuiltins x=some (.builtin id)) (ha:PA X (e::es) t) (hd:PE X ed td) (hn:x≠"__name__":=by decide) (hdb:(x == ("__debug__":Str))=false:=by decide)
  (he:backTo pos (starEach (e::es) X.env)=(false,eval e X.env)::backTo pos (starEach es X.env):=by rfl) (hpl:(backTo pos (starEach (e::es) X.env)).any (·.1)=false:=by rfl):
  PE X (.Call (.Name x p) (e::es) [⟨some nm,ed,kp⟩] pos) (fun σ H Q=>t σ H λxs H1=>td σ H1 λd H2=>r xs d H2 Q):=by
 intro pins s σ H Q I h;refine wpAny_Call_Name_kw (sI I hg hm hv ?_ hn hdb);refine callWith_kw (b9 (ha pos pins s σ H _ I h) λus s1 ⟨vs,H1,I1,r1,q1⟩=>kws_cons (b9 (hd pins s1 σ H1 _ I1 q1) λu s2 ⟨d,H2,I2,r2,q2⟩=>kws_nil ?_)) he hpl
 exact hc pins s2 σ H2 vs us d u Q I2 r1 r2 q2
end
end L2
namespace DL
open PySem PySem.Spec PyProof.Rows L2
def Mk (t:DA):DE:=λL S k=>t L S λds S1=>match ds with
 | [.ref a]=>∃ ns:List Int,S1 a=some (.lst (ns.map D.int))/\(ns=[]->k .non S1)/\∀ m:Int,m∈ns->(∀ x∈ns,x<=m)->k (.int m) S1
 | _=>False
section
variable {X:Cx} {x:Str} {p pos kp:Pos} {e ed:Expr} {t:DA}
theorem GI (hg:Gl X x) (hm:X.mg x=none) (hv:bootBuiltins x=some (.builtin "max")) (ha:AJ X [e] t) (hd:EJ X ed (dC .non)) (hc:X.calm=true:=by rfl) (hn:x≠"__name__":=by decide) (hdb:(x == ("__debug__":Str))=false:=by decide)
  (he:backTo pos (starEach [e] X.env)=(false,eval e X.env)::backTo pos (starEach [] X.env):=by rfl) (hpl:(backTo pos (starEach [e] X.env)).any (·.1)=false:=by rfl):
  EJ X (.Call (.Name x p) [e] [⟨some "default",ed,kp⟩] pos) (Mk t):=
 ⟨PE.imp (Bv (Bz hc) hg hm hv ha.h hd.h hn hdb he hpl) fun σ H Q ⟨L,S,k,hL,hS,h,n⟩=>qB.go hL hS h λds S1 vs H1 h1 k1 hL1 hS1 i1=>⟨L,S1,λd S2=>d=.non/\S2=S1,hL1,hS1,⟨rfl,rfl⟩,λd S2 v H2 ⟨e1,e2⟩ k2 hS2 i2=>by
  subst e1 e2
  split at h1
  ·rename_i a
   obtain⟨ns,z,r0,r⟩:=h1;obtain⟨x,rfl,j1⟩:=k_ (i1.kp k2);have e1:=aX.mp j1;subst e1;obtain⟨vs,q1,j⟩:=hS2.lst z;have e:=k7 j;subst e;exact⟨_,ns,rfl,jD.of q1,λe0=>n _ _ _ _ (r0 e0) (k1.trans k2) hS2 i2,λm a1 a2=>n _ _ _ _ (r m a1 a2) (k1.trans k2) hS2 (isInt.mpr rfl)⟩
  ·exact h1.elim⟩⟩
end
def HW:D2:=λd e S k=>match d,e with
 | .ref a,.ref c=>∃ xs ys b,S a=some (.lst xs)/\S c=some (.lst ys)/\((xs.length=ys.length/\jM (jQ 7) xs ys=some b)\/(xs.length≠ys.length/\b=false))/\k (.bl b) S
 | d,e=>∃ b,jQ 8 d e=some b/\k (.bl b) S
theorem Ft {X:Cx} {pins:List (Addr×Obj)} {σ:L2.St} {H:Hp} {s:Shared} {S:DH} {a c:Addr} {xs ys:List D} (I:ay X pins σ H s) (hS:Hs X.K H S) (h1:S a=some (.lst xs)) (h2:S c=some (.lst ys)) (hl:xs.length≠ys.length) (A:Around) (hu:A.units < cLine):
  SeqAt.RcAt A s (.ref a) (.ref c) false:=by
 obtain⟨v1,g1,j1⟩:=hS.lst h1;obtain⟨v2,g2,j2⟩:=hS.lst h2;obtain⟨u1,r1,p1,_⟩:=I.list (jD.of g1);obtain⟨u2,r2,p2,_⟩:=I.list (jD.of g2);refine SeqAt.RcAt.lists_lengths p1.isList p2.isList ?_ hu;have e1:=j1.length.trans r1.length;have e2:=j2.length.trans r2.length;simp only [P7,bne_iff_ne,ne_eq];omega
theorem Ik {X:Cx} {n:Nat} (hr:ce n X.A):fW X (compareOp .Eq) (jL X.K HW):=by
 intro pins s σ H x y v u Q I rx ry h;obtain⟨d,e,S,k,i1,i2,hS,r,m⟩:=h;have hu:=hr.units;unfold HW at r
 split at r
 ·obtain⟨xs,ys,b,h1,h2,h3,w⟩:=r;rcases h3 with ⟨h3,h4⟩ | ⟨h3,rfl⟩
  ·exact vn hr pins s σ H x y v u Q I rx ry ⟨_,_,S,k,i1,i2,hS,⟨xs,ys,b,h1,h2,h3,h4,w⟩,m⟩
  ·have e1:=aX.mp i1;have e2:=aX.mp i2;subst e1 e2;cases rx;cases ry;exact(Ft I hS h1 h2 h3 X.A (by omega)) X.prog X.w X.xe _ ⟨.bl false,H,I,rfl,og m hS w (ck.mpr rfl)⟩
 ·rename_i hn
  obtain⟨b,h1,w⟩:=r;refine vn hr pins s σ H x y v u Q I rx ry ⟨_,_,S,k,i1,i2,hS,?_,m⟩;unfold J_
  split
  ·rename_i a c
   exact(hn a c rfl rfl).elim
  ·exact⟨b,h1,w⟩
def GP:D2:=λd e S k=>match d,e with
 | .non,.tup _=>k (.bl true) S
 | .tup _,.non=>k (.bl true) S
 | d,e=>KP d e S k
theorem Iz {X:Cx} {n:Nat} (hr:ce n X.A):fW X (compareOp .NotEq) (jL X.K GP):=by
 intro pins s σ H x y v u Q I rx ry h;obtain⟨d,e,S,k,i1,i2,hS,r,m⟩:=h;have hu:=hr.units;unfold GP at r
 split at r
 ·obtain⟨a,vs,rfl,t,j⟩:=cy.mp i2;have e1:=cW.mp i1;subst e1;cases rx;cases ry;obtain⟨its,_,p,_⟩:=I.tuple t;exact SeqAt.RcNeAt.none_tuple p (by omega) X.prog X.w X.xe _ ⟨.bl true,H,I,rfl,og m hS r (ck.mpr rfl)⟩
 ·obtain⟨a,vs,rfl,t,j⟩:=cy.mp i1;have e1:=cW.mp i2;subst e1;cases rx;cases ry;obtain⟨its,_,p,_⟩:=I.tuple t;exact SeqAt.RcNeAt.tuple_none p (by omega) X.prog X.w X.xe _ ⟨.bl true,H,I,rfl,og m hS r (ck.mpr rfl)⟩
 ·exact AB hr pins s σ H x y v u Q I rx ry ⟨_,_,S,k,i1,i2,hS,r,m⟩
end DL
namespace PySem
open Builtin DL
def NA (A:Around) (s:Shared) (ys:List (List Int×Addr×Value)):List (List Int×Addr×Value)->Bool->Prop
 | [],r=>r=true
 | x::xs,r=>(atKey ys x.1=none/\r=false)\/∃ p e r',atKey ys x.1=some p/\SeqAt.EqAt A s x.2.2 p.2 e/\NA A s ys xs r'/\r=(e && r')
section
variable {prog:Program} {w:World} {A:Around} {E:Value->Shared->Prop}
theorem Lz {nm:String} {a b:Addr} {s:Shared} {xs ys:List (List Int×Addr×Value)} {ep ep':Nat} {r:Bool} {Q:Bool->Shared->Prop} (ha:(a == sysModules)=false) (hb:(b == sysModules)=false) (ga:s.heap.get? a=some (lr (xs.map eT).toArray ep)) (gb:s.heap.get? b=some (lr (ys.map eT).toArray ep'))
  (ka:∀ x∈xs,(tupleKind (intKind prog w)).is s.heap x.1 x.2.1) (kb:∀ x∈ys,(tupleKind (intKind prog w)).is s.heap x.1 x.2.1) (nb:(ys.map (·.1)).Nodup) (hu:(tupleKind (intKind prog w)).room A) (len:xs.length=ys.length) (hit:NA A s ys xs r) (h:Q r s):
  wpAny (model prog w) A (Builtin.Dict.samePairs nm a b) Q E s:=by
 have na:¬ (a == sysModules)=true:=by rw [ha]; decide
 have nb':¬ (b == sysModules)=true:=by rw [hb]; decide
 unfold Builtin.Dict.samePairs Builtin.Dict.showsAll;rw [if_neg na,if_neg nb'];refine gt (PZ (gt (PZ (gt (QT ga rfl ?_)))));dsimp only;refine gt (QT gb rfl ?_);have sz:(xs.map eT).toArray.size=(ys.map eT).toArray.size:=by simp [len]
 rw [if_neg (by rw [sz]; simp)]
 refine gt (wpAny_dictEpoch ga rfl (gt ?_));rw [Std.Legacy.Range.forIn_eq_forIn_range'];have sz2:(xs.map eT).toArray.size=xs.length:=by simp
 simp only [Std.Legacy.Range.size,Nat.sub_zero,Nat.add_sub_cancel,Nat.div_one,sz2];refine wpAny_forIn_list _ (λaw q s'=>s'=s/\q=(none,())/\∃ pre suf,xs=pre++suf/\aw=List.range' pre.length suf.length/\NA A s ys suf r) _ ?_ ?_ _ _ ⟨rfl,rfl,[],xs,rfl,rfl,hit⟩
 ·rintro i aw q s' ⟨rfl,rfl,pre,suf,ex,er,ht⟩;cases suf with
  | nil=>cases er
  | cons x suf=>
   rw [Qe,List.range'_succ] at er;injection er with e1 e2
   subst e1;have gx:(xs.map eT).toArray[pre.length]?=some (eT x):=by simp [ex]
   refine gt (QT ga rfl ?_);rw [gx];have mx:x∈xs:=by rw [ex]; simp
   refine gt (Qq (gt (wpAny_dictFind_heap (knd:=tupleKind (intKind prog w)) (k:=x.1) (a:=x.2.1) (xs:=ys) hu (ka x mx) gb rfl rfl kb nb (λno=>?_) (λj p hj=>?_))))
   ·rcases ht with ⟨_,er⟩ | ⟨p,e,r',hp,_⟩
    ·subst er;exact PZ (PZ (PZ h))
    ·rw [atKey_none_of_get no] at hp;cases hp
   ·rcases ht with ⟨hn,_⟩ | ⟨p',e,r',hp,he,ht',er⟩
    ·rw [atKey_of_get nb hj] at hn;cases hn
    ·rw [atKey_of_get nb hj] at hp;cases hp;have gy:(ys.map eT).toArray[j]?=some (eT (x.1,p)):=by simp [hj]
     refine gt (QT gb rfl ?_);rw [gy];refine Qq (he prog w _ _ ?_);cases e with
     | false=>
      rw [Bool.false_and] at er;subst er;exact PZ (PZ h)
     | true=>
      rw [Bool.true_and] at er;subst er;refine gt (wpAny_dictEpoch ga rfl ?_);rw [if_neg (by simp)]
      exact PZ ⟨rfl,rfl,pre++[x],suf,by rw [ex]; simp,by simp [e2],ht'⟩
 ·rintro q s' ⟨rfl,rfl,pre,suf,ex,er,ht⟩;cases suf with
  | cons x suf=>rw [Qe,List.range'_succ] at er; cases er
  | nil=>
   have ht:r=true:=ht;subst ht;exact PZ h
end
end PySem
namespace DL
open PySem PySem.Spec PyProof.Rows L2
def HH (kvs':List (List Int×D)):List (List Int×D)->Bool->Prop
 | [],r=>r=true
 | p::ps,r=>(fX kvs' p.1=none/\r=false)\/∃ d e r',fX kvs' p.1=some d/\jQ 6 p.2 d=some e/\HH kvs' ps r'/\r=(e && r')
section
variable {X:Cx} {pins:List (Addr×Obj)} {σ:L2.St} {H:Hp} {s:Shared}
theorem Dx (I:ay X pins σ H s) {A:Around} (hu:A.units+6 < cLine) {kvs':List (List Int×D)} {ys:List (List Int×Addr×Value)} (r2:mW X.K H kvs' ys):∀ {kvs:List (List Int×D)} {xs:List (List Int×Addr×Value)} {r:Bool},mW X.K H kvs xs->HH kvs' kvs r->NA A s ys xs r
 | _,_,_,.nil,h=>h
 | p::ps,q::qs,r,.cons c t,h=>by
  obtain⟨e1,_,v,rv,iv⟩:=c;rcases h with ⟨hn,er⟩ | ⟨d,e,r',hd,he,ht,er⟩
  ·rcases r2.get p.1 with ⟨_,g⟩ | ⟨_,_,_,_,g,_⟩
   ·exact .inl ⟨by rw [<- e1]; exact g,er⟩
   ·rw [hn] at g;cases g
  ·rcases r2.get p.1 with ⟨g,_⟩ | ⟨d',b,u,v2,g,hp,rv2,iv2⟩
   ·rw [hd] at g;cases g
   ·rw [hd] at g;cases g;exact .inr ⟨(b,u),e,r',by rw [<- e1]; exact hp,(qt I 6 A p.2 d v v2 q.2.2 u e hu he iv iv2 rv rv2).1,Dx I hu r2 t ht,er⟩
end
end DL
namespace PySem
open Builtin DL
section
variable {prog:Program} {w:World} {A:Around} {E:Value->Shared->Prop}
theorem MG {a b:Addr} {s:Shared} {r:Bool} {Q:Value->Shared->Prop} (T1:s.TypeIs (.ref a) "dict") (T2:s.TypeIs (.ref b) "dict") (hu:A.units < cLine) (sp:∀ (Q':Bool->Shared->Prop),Q' r s->wpAny (model prog w) A.in1 (Builtin.Dict.samePairs "dict.__eq__" a b) Q' E s) (h:Q (.bool r) s):
  wpAny (model prog w) A (compareOp .Eq (.ref a) (.ref b)) Q E s:=by
 refine wpAny_richCompare_same_room (op:=.Eq) T1 T2 F.slot_dict_eq (QP F.slot_dict_eq T1 F.entry_dict_eq ?_ (F.args_dict_eq_2 _ _)) hu;refine gt (m:=Builtin.Dict.dictSlotArgs "__eq__" ⟨[.ref a,.ref b],[]⟩) ?_
 unfold Builtin.Dict.dictSlotArgs;refine gt (wpAny_notOrdered_dict T1 (PZ (gt (wpAny_isInstance (T:="dict") T2 F.sub_dict_dict ?_))))
 rw [if_neg (by decide)]
 refine gt (PZ (gt (PZ (gt (sp _ ?_)))));exact PZ ⟨_,rfl,(by intro z; cases z),by cases r <;> exact h⟩
theorem Nt {a b:Addr} {s:Shared} {r:Bool} {Q:Value->Shared->Prop} (T1:s.TypeIs (.ref a) "dict") (T2:s.TypeIs (.ref b) "dict") (hu:A.units < cLine) (sp:∀ (Q':Bool->Shared->Prop),Q' r s->wpAny (model prog w) A.in1 (Builtin.Dict.samePairs "dict.__ne__" a b) Q' E s) (h:Q (.bool (!r)) s):
  wpAny (model prog w) A (compareOp .NotEq (.ref a) (.ref b)) Q E s:=by
 refine wpAny_richCompare_same_room (op:=.NotEq) T1 T2 F.slot_dict_ne (QP F.slot_dict_ne T1 F.entry_dict_ne ?_ (F.args_dict_ne_2 _ _)) hu;refine gt (m:=Builtin.Dict.dictSlotArgs "__ne__" ⟨[.ref a,.ref b],[]⟩) ?_
 unfold Builtin.Dict.dictSlotArgs;refine gt (wpAny_notOrdered_dict T1 (PZ (gt (wpAny_isInstance (T:="dict") T2 F.sub_dict_dict ?_))))
 rw [if_neg (by decide)]
 refine gt (PZ (gt (PZ (gt (sp _ ?_)))));exact PZ ⟨_,rfl,(by intro z; cases z),by cases r <;> exact h⟩
theorem J3 {nm:String} {a b:Addr} {s:Shared} {es es':Array DictEntry} {ep ep':Nat} {Q:Bool->Shared->Prop} (ha:(a == sysModules)=false) (hb:(b == sysModules)=false) (ga:s.heap.get? a=some (lr es ep)) (gb:s.heap.get? b=some (lr es' ep')) (n:es.size≠es'.size) (h:Q false s):
  wpAny (model prog w) A (Builtin.Dict.samePairs nm a b) Q E s:=by
 have na:¬ (a == sysModules)=true:=by rw [ha]; decide
 have nb':¬ (b == sysModules)=true:=by rw [hb]; decide
 unfold Builtin.Dict.samePairs Builtin.Dict.showsAll;rw [if_neg na,if_neg nb'];refine gt (PZ (gt (PZ (gt (QT ga rfl ?_)))));dsimp only;refine gt (QT gb rfl ?_);rw [if_pos (by simpa using n)]
 exact gt (wpAny_rule (PZ h))
end
end PySem
namespace DL
open PySem PySem.Spec PyProof.Rows L2
theorem zy {p q:Program} {u v:World}:∀ {k:List Int} {l:List Value},PySem.ItemsAre (intKind p u) k l->PySem.ItemsAre (intKind q v) k l:=by
 intro k l h
 induction h with
 | nil=>exact .nil
 | cons a _ ih=>exact .cons a ih
def NM (kvs kvs':List (List Int×D)) (r:Bool):Prop:=(kvs.length≠kvs'.length/\r=false)\/(kvs.length=kvs'.length/\HH kvs' kvs r)
section
variable {X:Cx} {pins:List (Addr×Obj)} {σ:L2.St} {H:Hp} {s:Shared}
theorem IL (I:ay X pins σ H s) {S:DH} (hS:Hs X.K H S) {a b:Addr} {kvs kvs':List (List Int×D)} {ep ep':Nat} {r:Bool} {A:Around} (hu:A.units+7 < cLine) (g1:S a=some (.gen (.dT kvs ep))) (g2:S b=some (.gen (.dT kvs' ep'))) (h:NM kvs kvs' r) {nm:String} {E:Value->Shared->Prop} {prog:Program} {w:World}:
  ∀ (Q':Bool->Shared->Prop),Q' r s->wpAny (model prog w) A.in1 (Builtin.Dict.samePairs nm a b) Q' E s:=λQ' hq=>by
 obtain⟨xs,w1,r1⟩:=hS.dT g1;obtain⟨ys,w2,r2⟩:=hS.dT g2;obtain⟨hd1,_,n1,t1⟩:=cc I w1;obtain⟨hd2,_,n2,t2⟩:=cc I w2;have l1:=r1.length;have l2:=r2.length;rcases h with ⟨hl,rfl⟩ | ⟨hl,ht⟩
 ·exact J3 hd1 hd2 t1 t2 (by simp; omega) hq
 ·obtain⟨_,_,_,_,_,_,_,k1,_⟩:=rN I w1 r1;obtain⟨_,_,_,_,_,_,_,k2,_⟩:=rN I w2 r2;have ct:∀ k a,(tupleKind (intKind X.prog X.w)).is s.heap k a->(tupleKind (intKind prog w)).is s.heap k a:=λk a h=>by
   obtain⟨o,its,n,h1,h2,h3,h4⟩:=h;exact⟨o,its,n,h1,h2,h3,zy h4⟩
  exact Lz hd1 hd2 t1 t2 (λx hx=>ct _ _ (k1 x hx)) (λx hx=>ct _ _ (k2 x hx)) n2 (tupleKind_room_in1 (by omega)) (by omega) (Dx I (by show A.units+1+6 < cLine; omega) r2 r1 ht) hq
end
def E2:D2:=λd e S k=>match d,e with
 | .ref a,.ref b=>∃ kvs ep kvs' ep' r,S a=some (.gen (.dT kvs ep))/\S b=some (.gen (.dT kvs' ep'))/\NM kvs kvs' r/\k (.bl r) S
 | _,_=>False
def Ed:D2:=λd e S k=>match d,e with
 | .ref a,.ref b=>∃ kvs ep kvs' ep' r,S a=some (.gen (.dT kvs ep))/\S b=some (.gen (.dT kvs' ep'))/\NM kvs kvs' r/\k (.bl (!r)) S
 | _,_=>False
theorem Kc {X:Cx} {n:Nat} (hr:ce n X.A):fW X (compareOp .Eq) (jL X.K E2):=by
 intro pins s σ H x y v u Q I rx ry h;obtain⟨d,e,S,k,i1,i2,hS,r,m⟩:=h;unfold E2 at r
 split at r
 ·rename_i a b
  obtain⟨kvs,ep,kvs',ep',r0,g1,g2,hl,r⟩:=r;have e1:=aX.mp i1;have e2:=aX.mp i2;subst e1 e2;cases (show v=Value.ref a from rx)
  cases (show u=Value.ref b from ry)
  obtain⟨xs,w1,r1⟩:=hS.dT g1;obtain⟨ys,w2,r2⟩:=hS.dT g2;have hu:=hr.units;exact MG ⟨_,(cc I w1).2.2.2,rfl⟩ ⟨_,(cc I w2).2.2.2,rfl⟩ (by omega) (IL I hS (by omega) g1 g2 hl) ⟨.bl r0,H,I,rfl,og m hS r (ck.mpr rfl)⟩
 ·exact r.elim
theorem KE {X:Cx} {n:Nat} (hr:ce n X.A):fW X (compareOp .NotEq) (jL X.K Ed):=by
 intro pins s σ H x y v u Q I rx ry h;obtain⟨d,e,S,k,i1,i2,hS,r,m⟩:=h;unfold Ed at r
 split at r
 ·rename_i a b
  obtain⟨kvs,ep,kvs',ep',r0,g1,g2,hl,r⟩:=r;have e1:=aX.mp i1;have e2:=aX.mp i2;subst e1 e2;cases (show v=Value.ref a from rx)
  cases (show u=Value.ref b from ry)
  obtain⟨xs,w1,r1⟩:=hS.dT g1;obtain⟨ys,w2,r2⟩:=hS.dT g2;have hu:=hr.units;exact Nt ⟨_,(cc I w1).2.2.2,rfl⟩ ⟨_,(cc I w2).2.2.2,rfl⟩ (by omega) (IL I hS (by omega) g1 g2 hl) ⟨.bl (!r0),H,I,rfl,og m hS r (ck.mpr rfl)⟩
 ·exact r.elim
def MT:D2:=λd e S k=>match d,e with
 | .ref a,.ref b=>Ed (.ref a) (.ref b) S k\/GP (.ref a) (.ref b) S k
 | d,e=>GP d e S k
def Md:D2:=λd e S k=>match d,e with
 | .ref a,.ref b=>E2 (.ref a) (.ref b) S k\/HW (.ref a) (.ref b) S k
 | d,e=>HW d e S k
theorem x5 {X:Cx} {n:Nat} (hr:ce n X.A):fW X (compareOp .NotEq) (jL X.K MT):=by
 intro pins s σ H x y v u Q I rx ry h;obtain⟨d,e,S,k,i1,i2,hS,r,m⟩:=h;unfold MT at r
 split at r
 ·rcases r with r | r
  ·exact KE hr pins s σ H x y v u Q I rx ry ⟨_,_,S,k,i1,i2,hS,r,m⟩
  ·exact Iz hr pins s σ H x y v u Q I rx ry ⟨_,_,S,k,i1,i2,hS,r,m⟩
 ·exact Iz hr pins s σ H x y v u Q I rx ry ⟨_,_,S,k,i1,i2,hS,r,m⟩
theorem IK {X:Cx} {n:Nat} (hr:ce n X.A):fW X (compareOp .Eq) (jL X.K Md):=by
 intro pins s σ H x y v u Q I rx ry h;obtain⟨d,e,S,k,i1,i2,hS,r,m⟩:=h;unfold Md at r
 split at r
 ·rcases r with r | r
  ·exact Kc hr pins s σ H x y v u Q I rx ry ⟨_,_,S,k,i1,i2,hS,r,m⟩
  ·exact Ik hr pins s σ H x y v u Q I rx ry ⟨_,_,S,k,i1,i2,hS,r,m⟩
 ·exact Ik hr pins s σ H x y v u Q I rx ry ⟨_,_,S,k,i1,i2,hS,r,m⟩
end DL
namespace PySem
open Builtin DL
def subM (m:Nat):List Nat:=(List.range 7).filter λi=>m.testBit i
def yz (led:Bool) (m:Nat):SetTable:={mask:=if (subM m).length < 5 then 7 else 31,place:=(subM m).toArray,dummies:=#[],finger:=0,led:=led,moves:=if (subM m).length < 5 then 0 else 1,plain:=true}
def Ci (led:Bool) (m v:Nat):SetTable:={yz led m with place:=(subM (m ||| 2 ^ v)).toArray}
def xb (m v:Nat):Nat:=((subM m).filter (· < v)).length
def CV (led:Bool) (m v:Nat):Bool:=
 (m.testBit v && (m ||| 2 ^ v) == m) || (!m.testBit v && (yz led m).freeSlot v == some (v,false) && decide ((yz led m).put v=(Ci led m v,xb m v)) && (Ci led m v).fits (subM (m ||| 2 ^ v)).length && decide (SetTable.insertAt (subM m).toArray (xb m v) v=(subM (m ||| 2 ^ v)).toArray) && decide (m ||| 2 ^ v < 128) &&
  (if (Ci led m v).tooFull then decide ((Ci led m v).relaid ((subM (m ||| 2 ^ v)).map fun(i:Nat)=>(i:Int)).toArray (SetTable.grown (subM (m ||| 2 ^ v)).length)=some (yz led (m ||| 2 ^ v),Array.range (subM (m ||| 2 ^ v)).length)) && (yz led (m ||| 2 ^ v)).fits (subM (m ||| 2 ^ v)).length else decide (Ci led m v=yz led (m ||| 2 ^ v))))
theorem CK:∀ m∈List.range 128,∀ v∈List.range 7,(CV true m v && CV false m v)=true:=by decide +kernel
def IY (m i:Nat):Nat:=if i=0 then 0 else(subM m).getD (i - 1) 0+1
theorem EQ:∀ m∈List.range 128,∀ i∈List.range 8,i<=(subM m).length->SetTable.below (subM m).toArray (IY m i)=i:=by decide +kernel
theorem x_:∀ m∈List.range 128,(subM m).length<=7/\((yz true m).fits (subM m).length && (yz false m).fits (subM m).length)=true:=by decide +kernel
theorem As (led:Bool) {m v:Nat} (hm:m < 128) (hv:v < 7):CV led m v=true:=by
 have z:=CK m (Q0.mpr hm) v (Q0.mpr hv);rw [QI] at z;cases led
 ·exact z.2
 ·exact z.1
theorem Ol (led:Bool) {m:Nat} (hm:m < 128):(yz led m).fits (subM m).length=true:=by
 have z:=(x_ m (Q0.mpr hm)).2;rw [QI] at z;cases led
 ·exact z.2
 ·exact z.1
theorem pC {m v:Nat}:v∈subM m↔v < 7/\m.testBit v=true:=by simp [subM]
theorem nL {α:Type} (l:List α) (p:Nat) (x:α):SetTable.insertAt l.toArray p x=(l.take p++x::l.drop p).toArray:=by
 unfold SetTable.insertAt;apply Array.ext';simp;exact List.take_of_length_le (by simp)
theorem u5 {α:Type}:∀ l:List α,(List.range l.length).filterMap (λi=>l[i]?)=l
 | []=>rfl
 | a::l=>by
  rw [Qe,List.range_succ_eq_map,List.filterMap_cons];simp only [List.getElem?_cons_zero,List.filterMap_map]
  congr 1
  exact u5 l
theorem yN {α:Type} (xs:Array α):(Array.range xs.size).filterMap (λi=>xs[i]?)=xs:=by
 apply Array.ext';rw [Array.toList_filterMap,Array.toList_range];have:=u5 xs.toList
 simpa using this
abbrev Sx:=Nat×Tok
def kO (xs:List Sx):Array (Int×Value):=(xs.map λx=>((x.1:Int),Value.int x.1 x.2)).toArray
def Cs (led:Bool) (m:Nat) (xs:List Sx) (ep:Nat):Obj:={cls:=.type "set",dict:=none,data:=.set (kO xs) ep (yz led m),slots:=#[]}
def qX (h:Heap) (a:Addr) (led:Bool) (m:Nat):Prop:=m < 128/\∃ xs ep,xs.map (·.1)=subM m/\h.get? a=some (Cs led m xs ep)
theorem fF (xs:List Sx):(kO xs).size=xs.length:=by simp [kO]
theorem tL {v:Nat} (hv:v < 7):hashInt (v:Int)=v:=by
 have:∀ v∈List.range 7,hashInt ((v:Nat):Int)=(v:Int):=by decide
 exact this v (Q0.mpr hv)
section
variable {prog:Program} {w:World} {A:Around} {E:Value->Shared->Prop} {s:Shared}
theorem BA {xs:List Sx} (h:∀ x∈xs,x.1 < 7):ElemsOf (intKind prog w) (kO xs).toList:=λe he=>by
 simp only [kO,P4] at he;obtain⟨x,hx,rfl⟩:=he;exact⟨⟨x.1,by simp [intKind,Value.isInt],(tL (h x hx)).symm⟩,rfl⟩
theorem Ch (led:Bool) {m v:Nat} {xs:List Sx} {tk:Tok} (hm:m < 128) (hv:v < 7) (hx:xs.map (·.1)=subM m) (ht:m.testBit v=false):
  ∃ xs',xs'.map (·.1)=subM (m ||| 2 ^ v)/\layNew (yz led m) (kO xs) (v:Int) (.int v tk)=(kO xs',Ci led m v,false,false)/\m ||| 2 ^ v < 128/\
   (((Ci led m v).tooFull=true/\relayAll (Ci led m v) (kO xs') (SetTable.grown (kO xs').size)=(kO xs',yz led (m ||| 2 ^ v),false))\/((Ci led m v).tooFull=false/\Ci led m v=yz led (m ||| 2 ^ v))):=by
 have c:=As led hm hv;unfold CV at c;rw [ht] at c;simp only [Bool.false_and,Bool.false_or,Bool.not_false,Bool.true_and,QI,beq_iff_eq,Q5] at c;obtain⟨⟨⟨⟨⟨c1,c2⟩,c3⟩,c4⟩,c5⟩,c6⟩:=c;have e0:xs.take (xb m v)++(v,tk)::xs.drop (xb m v)=xs.take (xb m v)++(v,tk)::xs.drop (xb m v):=rfl;generalize hx':xs.take (xb m v)++(v,tk)::xs.drop (xb m v)=xs' at e0;have m':xs'.map (·.1)=subM (m ||| 2 ^ v):=by
  rw [nL] at c4;rw [<- hx',List.map_append,Qd,List.map_take,List.map_drop,hx];have c4:=congrArg Array.toList c4
  simpa using c4
 have ei:SetTable.insertAt (kO xs) (xb m v) ((v:Int),Value.int v tk)=kO xs':=by
  unfold kO;rw [nL,<- hx',List.map_append,Qd,List.map_take,List.map_drop]
 have sz:(kO xs').size=(subM (m ||| 2 ^ v)).length:=by rw [fF,<- m',P5]
 refine⟨xs',m',?_,c5,?_⟩
 ·unfold layNew;rw [c1];dsimp only;rw [c2];dsimp only;rw [ei,sz,c3];unfold SetTable.orStandIn;rw [c3]
  rfl
 ·by_cases tf:(Ci led m v).tooFull=true
  ·rw [if_pos tf] at c6;simp only [QI,Q5] at c6;refine .inl ⟨tf,?_⟩;have eh:(kO xs').map (·.1)=((subM (m ||| 2 ^ v)).map fun(i:Nat)=>(i:Int)).toArray:=by
    apply Array.ext';simp only [kO,<- m',List.map_toArray,QJ]
    rfl
   unfold relayAll;rw [eh,sz,c6.1];dsimp only;rw [<- sz,yN,sz,c6.2];have cv:coversAll (Array.range (subM (m ||| 2 ^ v)).length) (subM (m ||| 2 ^ v)).length=true:=by
    unfold coversAll;rw [List.isPerm_iff,Array.toList_range]
   rw [cv]
   rfl
  ·rw [if_neg tf] at c6;simp only [Q5] at c6;exact .inr ⟨by simpa using tf,c6⟩
end
section
variable {prog:Program} {w:World} {A:Around} {E:Value->Shared->Prop} {s:Shared}
theorem Hy {m:Nat} {xs:List Sx} (hx:xs.map (·.1)=subM m):∀ x∈xs,x.1 < 7:=λx h=>(pC.mp (by rw [<- hx]; exact Q7 h)).1
theorem tR {m:Nat} (hm:m < 128):(subM m).length<=7:=(x_ m (Q0.mpr hm)).1
theorem lH (led:Bool) {m:Nat} {xs:List Sx} (hm:m < 128) (hx:xs.map (·.1)=subM m):(yz led m).fits (kO xs).size=true:=by
 rw [fF,<- P5 (f:=(·.1)),hx];exact Ol led hm
theorem m7 {m:Nat} {xs:List Sx} (hm:m < 128) (hx:xs.map (·.1)=subM m):(kO xs).size<=7:=by
 rw [fF,<- P5 (f:=(·.1)),hx];exact tR hm
theorem Du {h:Heap} {a:Addr} {led:Bool} {m ep:Nat} {xs:List Sx} (es:Array (Int×Value)) (t:SetTable) {es0:Array (Int×Value)} {t0:SetTable} (g:h.get? a=some {cls:=.type "set",dict:=none,data:=.set es0 ep t0,slots:=#[]}):
  (h.update a (Obj.putSet es t)).get? a=some {cls:=.type "set",dict:=none,data:=.set es (ep+1) t,slots:=#[]}:=QL _ g rfl
set_option maxHeartbeats 1600000 in
theorem Je {a:Addr} {led:Bool} {m v:Nat} {tk:Tok} {Q:Bool->Shared->Prop} (hS:qX s.heap a led m) (hv:v < 7)
  (h:∀ b h',Heap.SameBut a s.heap h'->qX h' a led (m ||| 2 ^ v)->Q b {s with heap:=h'}):wpAny (model prog w) A (setAddHashed a (.int v tk) (hashInt v)) Q E s:=by
 obtain⟨hm,xs,ep,hx,ho⟩:=hS;have hf:=lH led hm hx;have lt:=Hy hx;have hel:ElemsOf (intKind prog w) (kO xs).toList:=BA lt;have sm:=m7 hm hx;have hb:(kO xs).size < scanBound:=by unfold scanBound; omega
 unfold setAddHashed setAddHashedIn;refine Qq (gt (wpAny_setState_of ho rfl hf ?_));dsimp only;rw [byScan_of (knd:=intKind prog w) (x:=.int v tk) rfl hb hel];simp only [↓reduceIte];unfold setAddByScan;refine gt (gt (wpAny_rule (gt (wpAny_setScan_of (knd:=intKind prog w) (k:=(v:Int)) (by simp [intKind,Value.isInt]) ho rfl hf hel ?_))))
 cases hr:List.findIdx? (λe=>(intKind prog w).is (v:Int) e.2) (kO xs).toList with
 | some j=>
  dsimp only;have ht:m.testBit v=true:=by
   obtain⟨hj,hp,_⟩:=List.findIdx?_eq_some_iff_getElem.mp hr;have me:=Q9 hj;generalize (kO xs).toList[j]=e at hp me
   simp only [kO,P4] at me;obtain⟨x,hx1,rfl⟩:=me;have:(x.1:Int)=v:=by simpa [intKind,Value.isInt] using hp
   have e2:x.1=v:=by omega
   exact e2▸(pC.mp (hx▸Q7 (f:=(·.1)) hx1)).2
  have c:=As led hm hv;unfold CV at c;rw [ht] at c;simp only [Bool.true_and,Bool.not_true,Bool.false_and,Bool.or_false,beq_iff_eq] at c;refine PZ (PZ ?_);have z:=h false s.heap (Heap.SameBut.refl a s.heap) ⟨by rw [c]; exact hm,xs,ep,by rw [c]; exact hx,by rw [c]; exact ho⟩
  cases s;exact z
 | none=>
  dsimp only;have ht:m.testBit v=false:=by
   cases e:m.testBit v with
   | false=>rfl
   | true=>
    have me:v∈xs.map (·.1):=by rw [hx]; exact pC.mpr ⟨hv,e⟩
    obtain⟨x,h1,h2⟩:=P4.mp me;have z:=List.findIdx?_eq_none_iff.mp hr ((x.1:Int),Value.int x.1 x.2) (by simp only [kO,P4]; exact⟨x,h1,rfl⟩)
    have h2:x.1=v:=h2;simp [intKind,Value.isInt,h2] at z
  obtain⟨xs',m',eL,lt',alt⟩:=Ch led (tk:=tk) hm hv hx ht;have sm':=m7 lt' m';have bl:(kO xs').size<=sizeLine:=fits_of_scanBound (by unfold scanBound; omega)
  rw [tL hv,eL];dsimp only;refine gt (PZ ?_);rw [if_pos (show (Ci led m v).plain=true from rfl),hashByValue_scannable 8 (x:=.int v tk) rfl]
  refine gt (PZ ?_);rw [if_pos (show plainKind (.int v tk)=true from rfl)]
  refine gt (wpAny_storeSet_of ho rfl ?_ bl);have g1:=Du (led:=led) (m:=m) (xs:=xs) (kO xs') (Ci led m v) ho;rcases alt with ⟨tf,er⟩ | ⟨tf,et⟩
  ·rw [tf];simp only [Bool.not_false,Bool.true_and,↓reduceIte];rw [er];refine gt (PZ (gt (wpAny_storeSet_of g1 rfl ?_ bl)));have g2:=Du (led:=led) (m:=m) (xs:=xs) (kO xs') (yz led (m ||| 2 ^ v)) g1
   exact PZ (PZ (h _ _ ((Rh _ a _).trans (Rh _ a _)) ⟨lt',xs',_,m',g2⟩))
  ·rw [tf];simp only [Bool.not_false,Bool.true_and,Rb,↓reduceIte];rw [et] at g1 ⊢;exact PZ (PZ (h _ _ (Rh _ a _) ⟨lt',xs',_,m',g1⟩))
end
end PySem
namespace PySem
open PySem.Spec Builtin DL
def FV (val:Nat->Nat):Nat->Nat
 | 0=>0
 | i+1=>FV val i ||| 2 ^ val i
theorem Dj (led:Bool):yz led 0=.fresh 0 0 led:=by cases led <;> rfl
abbrev FX (led:Bool):Obj:={cls:=.type "set",dict:=none,data:=.set #[] 0 (.fresh 0 0 led)}
section
variable {prog:Program} {w:World} {A:Around} {R:Result->Shared->Prop} {I:Addr} {fp wr:List Addr} {G:Array GenState->Array GenState->Prop} {n:Nat} {P:Nat->Value->Prop} {St:Nat->Shared->Prop}
theorem qX.keep {h h':Heap} {a:Addr} {led:Bool} {m:Nat} (x:qX h a led m) (k:∀ o,h.get? a=some o->h'.get? a=some o):qX h' a led m:=by
 obtain⟨hm,xs,ep,hx,g⟩:=x;exact⟨hm,xs,ep,hx,k _ g⟩
theorem Ge (W:WalksS prog w A.in1 I fp wr G n P St) (S:Addr) (hSf:S∉fp) (led:Bool) (val:Nat->Nat) (hv:∀ i,val i < 7) (hval:∀ i v,P i v->∃ t,v=.int (val i:Nat) t):
  ∀ (k i:Nat) (s:Shared),n - i=k->i<=n->St i s->qX s.heap S led (FV val i)->(∀ s',Moved (S::wr) G s s'->qX s'.heap S led (FV val n)->R (.ok (.ret .none)) s')->
   codeAny (model prog w) A (.builtin "set.update.loop" ⟨[.ref S,.ref I],[]⟩) R s:=by
 have hSw:S∉wr:=λh=>hSf (W.sub _ h)
 have hsub:∀ b∈wr,b∈S::wr:=λb hb=>Qa _ hb
 intro k
 induction k with
 | zero=>
  intro i s hk hi hst hS hR;have hin:i=n:=by omega
  subst hin;refine Qz PyProof.Rows.F.entry_set_update_loop ?_;rw [Qm PyProof.Rows.F.plain_set_update_loop _]
  show wpAny _ A.in1 (pyNext (.ref I) >>= _) _ _ s
  refine gt (W.done s _ _ hst λs' hm=>?_)
  show wpAny _ A.in1 (ret Value.none) _ _ s'
  exact PZ (hR s' (hm.mono hsub) (hS.keep λo e=>hm.heap S _ hSw e))
 | succ k ih=>
  intro i s hk hi hst hS hR;have hlt:i < n:=by omega
  refine Qz PyProof.Rows.F.entry_set_update_loop ?_;rw [Qm PyProof.Rows.F.plain_set_update_loop _]
  show wpAny _ A.in1 (pyNext (.ref I) >>= _) _ _ s
  refine gt (W.item i s _ _ hlt hst λv s' hP hst' hm=>?_)
  obtain⟨t,rfl⟩:=hval i v hP;have hS':qX s'.heap S led (FV val i):=hS.keep λo e=>hm.heap S _ hSw e
  refine gt (Qq ?_);unfold setAdd;refine Qq (gt ((intKind prog w).pyHash (k:=(val i:Nat)) (by simp [intKind,Value.isInt]) ?_))
  refine Je (s:={s' with toks:=s'.toks+1}) hS' (hv i) λb h' hsb hS2=>?_
  refine PZ ⟨plainId_quiet PyProof.Rows.F.plain_set_update_loop _,ih (i+1) _ (by omega) hlt (W.frame _ s' _ _ hst' (Nat.le_succ _) λb hb o e=>?_) hS2 λs'' hm'' hS''=>?_⟩
  ·rw [hsb.2 b (λh:b=S=>hSf (by rw [<- h]; exact hb))]
   exact e
  ·refine hR s'' (Moved.trans W.gtrans ((hm.mono hsub).then_heap (Nat.le_succ _) λb o hb e=>?_) hm'') hS''
   rw [hsb.2 b (λh:b=S=>hb (by rw [h]; exact P_))]
   exact e
end
section
variable {prog:Program} {w:World} {A:Around} {E:Value->Shared->Prop} {s:Shared}
theorem t7 (a:Value) {Q₁:Value->Shared->Prop} (h:Q₁ (.ref s.heap.objs.size) {s with heap:=s.heap.push (FX (!w.params.followText "set-order"))}):
  codeAny (model prog w) A (.call (.builtin "set.__new__") ⟨[.type "set",a],[]⟩) (wants Q₁ E) s:=by
 refine codeAny_of_tree ?_
 show wpAny _ A.in1 (do checkBuiltinCall "set.__new__" ⟨[.type "set",a],[]⟩; again (.builtin "set.__new__" ⟨[.type "set",a],[]⟩)) _ _ s
 refine gt (wpAny_of_eq (F.newCall_set_1 a) (PZ ⟨plainId_quiet F.plain_set_new _,Qz F.entry_set_new ?_⟩));rw [Qm F.plain_set_new _];unfold Builtin.«set.__new__» Builtin.Frozenset.newClass;have hsub:=sub_set_self;obtain⟨hp,g,d,tk,os⟩:=s;dsimp only
 wp_walk
 refine wpAny_askSetting (PZ ?_);dsimp only;simp only [newObj];exact gt (wpAny_alloc (PZ (PZ h)))
set_option maxRecDepth 100000 in
set_option maxHeartbeats 3200000 in
theorem tH {l:Addr} {items:Array Value} {val:Nat->Nat} {led:Bool} {R:Result->Shared->Prop} (hh:A.handled=none) (hl:s.heap.IsList l items) (hv:∀ i,val i < 7) (hval:∀ (i:Nat) (v:Value),items[i]?=some v->∃ t,v=.int (val i:Nat) t)
  (h:∀ (h':Heap) (tk:Nat),qX h' s.heap.objs.size led (FV val items.size)->(∀ b o,b < s.heap.objs.size->s.heap.get? b=some o->h'.get? b=some o)->R (.ok (.ret Value.none)) {s with heap:=h',toks:=tk}):
  wpAny (model prog w) A (Builtin.«set.__init__» ⟨[.ref s.heap.objs.size,.ref l],[]⟩) (λfin s'=>∃ v,fin=Fin.done (Flow.ret v)/\R (.ok (.ret v)) s') (λe s'=>R (.error e) s') {s with heap:=s.heap.push (FX led)}:=by
 obtain⟨⟨ocls,odict,odata,oslots⟩,hol,hcl,nl,hdl⟩:=id hl;simp only at hcl hdl
 subst hcl hdl;have hS:(s.heap.push (FX led)).get? s.heap.objs.size=some (FX led):=P0 _ rfl;have hol':=pp (h:=s.heap) (FX led) hol;have s1:=F.sub_list_set;have s2:=F.sub_list_frozenset;have hne:(Value.type "list" == Value.type "dict")=false:=by decide
 unfold Builtin.«set.__init__» noKeywords Builtin.Frozenset.updateFrom;generalize hPI:pyIter=PI
 wp_walk
 subst hPI;have hl1:(s.heap.push (FX led)).IsList l items:=⟨_,hol',rfl,nl,rfl⟩;have hlt:l < s.heap.objs.size:=P2 hol;have hsz:(s.heap.push (FX led)).objs.size=s.heap.objs.size+1:=QY _ _;refine wpAny_pyIter_list hl1 (gt (wpAny_runValue ?_));refine Ge ((Walks.list (by simp [hh]) _ l (by rw [hsz]; exact P9 (Nat.lt_succ_of_lt hlt)) items).toS) s.heap.objs.size
  (by rw [hsz]; simp only [P8,Qh,or_false,not_or]; exact⟨P9 (Nat.lt_succ_self _),Nat.ne_of_gt hlt⟩) led val hv hval (items.size - 0) 0 _ (by omega) (QW _)
  ⟨⟨_,P0 _ rfl,rfl,rfl⟩,hl1.push _⟩ ?setA ?setB
 case setA=>
  exact⟨by show 0 < 128; decide,[],0,by show []=subM 0; decide,by rw [pp _ hS]; show some (FX led)=some (Cs led 0 [] 0); unfold Cs; rw [Dj]; rfl⟩
 case setB=>
  rintro⟨h',g',d',tk',os'⟩ hm hS';cases (show g'=s.gens from hm.gens)
  cases (show d'=s.drawn from hm.drawn)
  cases (show os'=s.os from hm.os)
  refine PZ (PZ ⟨_,rfl,h h' tk' hS' λb o hlb e=>?_⟩)
  refine hm.heap b o ?_ (pp _ (pp _ e));rw [hsz];simp only [P8,Qh,or_false,not_or];exact⟨P9 hlb,P9 (Nat.lt_succ_of_lt hlb)⟩
set_option maxRecDepth 100000 in
set_option maxHeartbeats 3200000 in
theorem rD {l:Addr} {items:Array Value} {val:Nat->Nat} {Q:Value->Shared->Prop} (hh:A.handled=none) (hl:s.heap.IsList l items) (hv:∀ i,val i < 7) (hval:∀ (i:Nat) (v:Value),items[i]?=some v->∃ t,v=.int (val i:Nat) t)
  (h:∀ (h':Heap) (tk:Nat),qX h' s.heap.objs.size (!w.params.followText "set-order") (FV val items.size)->(∀ b o,b < s.heap.objs.size->s.heap.get? b=some o->h'.get? b=some o)->Q (.ref s.heap.objs.size) {s with heap:=h',toks:=tk}):
  wpAny (model prog w) A (call (.type "set") [.ref l]) Q E s:=by
 obtain⟨c,tl,g1⟩:=F.called_set.mro;have g2:=F.called_set.made;have g3:=F.called_set.sub;have g4:=F.called_set.notType;have g5:=F.called_set.canCreate;have g6:=F.typeCall_set_1 (.ref l);refine wpAny_call (codeAny_of_tree (show wpAny _ _ (callAny (.type "set") _) _ _ _ from PZ ⟨Code.quiet_builtin _ (by decide +kernel),Qz F.entry_type_call ?_⟩))
 rw [Around.under_plain (weight_type_call_type "set" [.ref l] []) rfl]
 repeat (any_goals (first | assumption | wp_step))
 generalize hL:(!w.params.followText "set-order")=led at h
 refine codeAny_mono (t7 (.ref l) (E:=E) (Q₁:=λv t=>v=.ref s.heap.objs.size/\t={s with heap:=s.heap.push (FX led)}) ⟨rfl,by rw [hL]⟩) λr t hr=>?_
 match r,hr with
 | .error e,hr=>exact hr
 | .ok (.ret v),⟨e1,e2⟩=>
  subst e1 e2;have hT:Shared.TypeIs {s with heap:=s.heap.push (FX led)} (.ref s.heap.objs.size) "set":=⟨_,P0 _ rfl,rfl⟩
  have g7:=F.called_set.init.lookup;have g8:=F.called_set.init.bind (.ref s.heap.objs.size)
  repeat (any_goals (first | assumption | wp_step))
  refine codeAny_mono (codeAny_call_builtin (R:=wants (λr t=>r=.none/\∃ h' tk,t={s with heap:=h',toks:=tk}/\Q (.ref s.heap.objs.size) {s with heap:=h',toks:=tk}) E) F.called_set.init.plain F.entry_set_init (check_set_init_1 hT ?_)) λr2 t2 hr2=>?_
  ·refine QE (tH (R:=wants (λr t=>r=.none/\∃ h' tk,t={s with heap:=h',toks:=tk}/\Q (.ref s.heap.objs.size) {s with heap:=h',toks:=tk}) E) (by simp [hh]) hl hv hval λh' tk a b=>⟨rfl,h',tk,rfl,h h' tk a b⟩) ?_ ?_
   ·rintro fin t ⟨v,rfl,q⟩;exact q
   ·exact λ_ _ e=>e
  ·match r2,hr2 with
   | .error e,hr2=>exact hr2
   | .ok (.ret v),⟨e1,h',tk,e2,q⟩=>
    subst e1 e2
    repeat (any_goals (first | assumption | wp_step))
end
end PySem
namespace PySem
open Builtin DL
theorem iu:Slot "set_iterator" "__next__" "set_iterator.__next__":=
 .of (owner:="set_iterator") (n:="__next__") (by rw [typeLookup_type,builtinLookup_eq_fast]; kernel_rfl) (by decide +kernel) (by decide +kernel) (by decide +kernel)
  (by first | exact .inl (by decide +kernel) | exact .inr (by decide +kernel)) (by rw [isSubtype_type]; kernel_rfl)
theorem nQ:entryFor table "set_iterator.__next__"=some Builtin.«set_iterator.__next__»:=entryFor_of_tree (by kernel_rfl)
theorem xW:Manifest.owners.lookup (String.ofList ['r','o','t','a','r','e','t','i','_','t','e','s'].reverse)=some Manifest.sig_set_iterator:=by kernel_rfl
theorem oJ (a:Value):argsOk "set_iterator.__next__" ⟨[a],[]⟩:=by
 unfold argsOk; rw [signature?_of (id:="set_iterator.__next__") (n:=['_','_','t','x','e','n','_','_']) (o:=['r','o','t','a','r','e','t','i','_','t','e','s']) (by kernel_rfl) xW]; kernel_rfl
theorem oO:Slot "set_iterator" "__iter__" "set_iterator.__iter__":=
 .of (owner:="set_iterator") (n:="__iter__") (by rw [typeLookup_type,builtinLookup_eq_fast]; kernel_rfl) (by decide +kernel) (by decide +kernel) (by decide +kernel)
  (by first | exact .inl (by decide +kernel) | exact .inr (by decide +kernel)) (by rw [isSubtype_type]; kernel_rfl)
theorem uw:entryFor table "set_iterator.__iter__"=some Builtin.«dict_keyiterator.__iter__»:=entryFor_alias (id':="dict_keyiterator.__iter__") (by kernel_rfl) rfl (by decide +kernel) (by kernel_rfl)
theorem vA (a:Value):argsOk "set_iterator.__iter__" ⟨[a],[]⟩:=by
 unfold argsOk; rw [signature?_of (id:="set_iterator.__iter__") (n:=['_','_','r','e','t','i','_','_']) (o:=['r','o','t','a','r','e','t','i','_','t','e','s']) (by kernel_rfl) xW]; kernel_rfl
theorem ut:entryFor table "set.__iter__"=some Builtin.«frozenset.__iter__»:=entryFor_alias (id':="frozenset.__iter__") (by kernel_rfl) rfl (by decide +kernel) (by kernel_rfl)
theorem tI {α:Type}:∀ (l:List α) (i:Nat) (h:i < l.length),(l[i]::l.eraseIdx i).Perm l
 | _::_,0,_=>List.Perm.refl _
 | x::l,i+1,h=>(List.Perm.swap _ _ _).trans (List.Perm.cons x (tI l i (by simpa using h)))
theorem Ez {α:Type} (next:Nat->Nat):∀ (fuel k:Nat) (left:List α) (out:Array α),fuel=left.length->(pickOrder.go next fuel k left out).toList.Perm (out.toList++left)
 | 0,_,[],out,_=>by
  unfold pickOrder.go;rw [Qn]
 | fuel+1,k,x::left,out,e=>by
  have lt:next k % (x::left).length < (x::left).length:=Nat.mod_lt _ (by simp)
  unfold pickOrder.go;rw [Qr lt];refine(Ez next fuel (k+1) _ _ (by rw [List.length_eraseIdx_of_lt lt]; omega)).trans ?_
  rw [Array.toList_push,List.append_assoc];exact List.Perm.append_left _ (tI _ _ lt)
theorem Cq {α:Type} (next:Nat->Nat) (xs:Array α):(pickOrder next xs).toList.Perm xs.toList:=Ez next xs.size 0 xs.toList #[] rfl
def Jh (sl i:Nat) (a:Addr) (n ep:Nat):Obj:={cls:=.type "set_iterator",dict:=none,data:=.fields #[.int sl 0,.int i 0,.ref a,.int n 0,.int ep 0],slots:=#[]}
def vJ (w:World) (a:Addr) (ep:Nat) (xs:List Sx):Array (Int×Value):=if w.params.followText "set-order" then pickOrder (w.params.setOrder a ep) (kO xs) else kO xs
theorem rG (w:World) (a:Addr) (ep:Nat) (xs:List Sx):(vJ w a ep xs).toList.Perm (kO xs).toList:=by
 unfold vJ
 split
 ·exact Cq _ _
 ·exact List.Perm.refl _
theorem lx (w:World) (a:Addr) (ep:Nat) (xs:List Sx):(vJ w a ep xs).size=xs.length:=by
 rw [<- fF,<- Q6,<- Q6];exact(rG w a ep xs).length_eq
section
variable {prog:Program} {w:World} {A:Around} {E:Value->Shared->Prop} {s:Shared} {a it:Addr} {m ep sl i:Nat} {xs:List Sx}
theorem sZ {Q:Option (Value×Nat)->Shared->Prop} (hm:m < 128) (hx:xs.map (·.1)=subM m) (ho:s.heap.get? a=some (Cs (!w.params.followText "set-order") m xs ep)) (hsl:w.params.followText "set-order"=false->sl=IY m i) (hi:i<=xs.length)
  (h:∀ sl',(w.params.followText "set-order"=false->sl'=IY m (i+1))->Q ((vJ w a ep xs)[i]?.map λe=>(e.2,sl')) s):wpAny (model prog w) A (setNext a sl i ep) Q E s:=by
 have hf:=lH (!w.params.followText "set-order") hm hx
 unfold setNext;refine gt (wpAny_setState_of ho rfl hf ?_);dsimp only;unfold setsByText;refine gt (gt (wpAny_askSetting (PZ ?_)));dsimp only;cases hF:w.params.followText "set-order" with
 | true=>
  rw [show (model prog w).w.params.followText "set-order"=true from hF,if_pos rfl,if_neg (by simp)]
  unfold setWalk;refine gt (gt (wpAny_setState_of ho rfl hf ?_));dsimp only;unfold setsByText;refine gt (gt (wpAny_askSetting (PZ ?_)));dsimp only;rw [show (model prog w).w.params.followText "set-order"=true from hF,if_pos rfl]
  refine gt (wpAny_askSetting (PZ (PZ ?_)));have z:=h sl (by rw [hF]; intro q; cases q)
  unfold vJ at z;rw [hF,if_pos rfl] at z;exact z
 | false=>
  rw [show (model prog w).w.params.followText "set-order"=false from hF,if_neg (by simp)]
  refine wpAny_ite_split (λz=>absurd (show false=true from z) P6) (λ_=>?_)
  refine gt (wpAny_ite_split (λz=>absurd (show (false && !(kO xs).isEmpty)=true from z) (by simp)) (λ_=>PZ ?_))
  have l8:i < 8:=by
   have:=m7 hm hx;rw [fF] at this;omega
  have ln:(subM m).length=xs.length:=by rw [<- hx,P5]
  have eb:SetTable.below (subM m).toArray sl=i:=by
   rw [hsl hF];exact EQ m (Q0.mpr hm) i (Q0.mpr l8) (by omega)
  have ew:vJ w a ep xs=kO xs:=by unfold vJ; rw [hF]; rfl
  rw [ew] at h
  show wpAny _ _ (pure (match (kO xs)[SetTable.below (subM m).toArray sl]?,(subM m).toArray[SetTable.below (subM m).toArray sl]? with | some (_,x),some j=>some (x,j+1) | _,_=>none)) _ _ _
  rw [eb];have z:=h (IY m (i+1)) λ_=>rfl
  by_cases lt:i < xs.length
  ·have e1:(kO xs)[i]?=some ((xs[i].1:Int),Value.int xs[i].1 xs[i].2):=by simp [kO,lt]
   have e2:(subM m).toArray[i]?=some ((subM m).getD i 0):=by
    rw [Ra,QB,Qr (by omega)]
    rfl
   rw [e1] at z ⊢;rw [e2];exact PZ z
  ·have e1:(kO xs)[i]?=none:=by simp [kO]; omega
   rw [e1] at z ⊢;exact PZ z
theorem PK {Q:Value->Shared->Prop} (hm:m < 128) (hx:xs.map (·.1)=subM m) (led:Bool) (ho:s.heap.get? a=some (Cs led m xs ep)) (h:Q (.ref s.heap.objs.size) {s with heap:=s.heap.push (Jh 0 0 a xs.length ep)}):wpAny (model prog w) A (pyIter (.ref a)) Q E s:=by
 have T:s.TypeIs (.ref a) "set":=⟨_,ho,rfl⟩
 have hf:=lH led hm hx;refine wpAny_pyIter_slot T F.slot_set_iter (QP F.slot_set_iter T ut ?_ (F.args_set_iter_1 _));unfold Builtin.«frozenset.__iter__» Builtin.Frozenset.slot0 slotArgs;simp only [List.isEmpty_nil,Bool.not_true,Rb,↓reduceIte,bind_assoc,Re,bne_self_eq_false];unfold Builtin.Frozenset.addrOf Builtin.Frozenset.sizeOf;refine gt (PZ ?_)
 try dsimp only
 refine gt (PZ ?_);refine gt (gt (wpAny_setEntries_of ho rfl hf (PZ ?_)));unfold setDrawn setsByText;refine gt (gt (wpAny_setState_of ho rfl hf ?_));refine gt (gt (wpAny_askSetting (PZ (PZ ?_))));refine wpAny_ite_split (λz=>absurd (show (!w.params.followText "set-order" && false)=true from z) (by simp)) (λ_=>gt (PZ (gt (wpAny_setEpoch_of ho rfl hf ?_))))
 refine gt (Qs (PZ ⟨_,rfl,"set_iterator",_,⟨_,P0 _ rfl,rfl⟩,iu.lookup,?_⟩))
 rw [fF];exact h
theorem Pr (it a:Addr) (m ep sl i:Nat) (xs:List Sx) (hm:m < 128) (hx:xs.map (·.1)=subM m) (hsl:w.params.followText "set-order"=false->sl=IY m i) (e:Int×Value) (he:(vJ w a ep xs)[i]?=some e):
  MeetsIn prog w (Builtin.«set_iterator.__next__» ⟨[.ref it],[]⟩) (λ_ R s=>s.heap.get? it=some (Jh sl i a xs.length ep)/\s.heap.get? a=some (Cs (!w.params.followText "set-order") m xs ep)/\
   ∀ sl' h',(w.params.followText "set-order"=false->sl'=IY m (i+1))->h'.get? it=some (Jh sl' (i+1) a xs.length ep)->(∀ b o,b≠it->s.heap.get? b=some o->h'.get? b=some o)->R (.ok (.ret e.2)) {s with heap:=h'}):=
 .of_wp λA R s h=>by
  obtain⟨hp,g,dr,tk,os⟩:=s;obtain⟨h1,h2,h⟩:=h;have hf:=lH (!w.params.followText "set-order") hm hx
  have hi:i<=xs.length:=by
   have:=(Array.getElem?_eq_some_iff.mp he).1;rw [lx] at this;omega
  unfold Builtin.«set_iterator.__next__» slotArgs;simp only [List.isEmpty_nil,Bool.not_true,Rb,↓reduceIte,bind_assoc,Re,bne_self_eq_false];refine gt (PZ ?_);refine gt (wpAny_fieldsOf h1 rfl ?_)
  show wpAny _ _ (setEntries a >>= _) _ _ _
  refine gt (wpAny_setEntries_of h2 rfl hf ?_);refine wpAny_ite_split (λz=>absurd z (by rw [fF]; simp)) (λ_=>?_)
  refine gt (sZ (sl:=sl) (i:=i) (ep:=ep) hm hx h2 hsl hi λsl' q=>?_)
  rw [he];refine gt (m:=setField (.ref it) 0 (rawInt sl')) (Qp h1 (by simp) λk1 a1 b1=>gt (m:=setField (.ref it) 1 (rawInt ((i:Int)+1))) (Qp a1 (by simp) λk2 a2 b2=>PZ ⟨_,rfl,h sl' k2 q a2 (λb o nb x=>b2.extBut b o nb (b1.extBut b o nb x))⟩))
theorem Ph (it a:Addr) (m ep sl i:Nat) (xs:List Sx) (hm:m < 128) (hx:xs.map (·.1)=subM m) (hsl:w.params.followText "set-order"=false->sl=IY m i) (hi:i=xs.length):
  MeetsIn prog w (Builtin.«set_iterator.__next__» ⟨[.ref it],[]⟩) (λA R s=>A.handled=none/\s.heap.get? it=some (Jh sl i a xs.length ep)/\s.heap.get? a=some (Cs (!w.params.followText "set-order") m xs ep)/\
   (∀ h' e,Heap.ExtBut it s.heap h'->(∃ o,h'.get? e=some o/\o.cls=.type "StopIteration")->R (.error (.ref e)) {s with heap:=h'})):=
 .of_wp λA R s h=>by
  obtain⟨hp,g,dr,tk,os⟩:=s;obtain⟨h0,h1,h2,h⟩:=h;have hf:=lH (!w.params.followText "set-order") hm hx
  have he:(vJ w a ep xs)[i]?=none:=by rw [Array.getElem?_eq_none_iff,lx]; omega
  unfold Builtin.«set_iterator.__next__» slotArgs;simp only [List.isEmpty_nil,Bool.not_true,Rb,↓reduceIte,bind_assoc,Re,bne_self_eq_false];refine gt (PZ ?_);refine gt (wpAny_fieldsOf h1 rfl ?_)
  show wpAny _ _ (setEntries a >>= _) _ _ _
  refine gt (wpAny_setEntries_of h2 rfl hf ?_);refine wpAny_ite_split (λz=>absurd z (by rw [fF]; simp)) (λ_=>?_)
  refine gt (sZ (sl:=sl) (i:=i) (ep:=ep) hm hx h2 hsl (by omega) λsl' q=>?_)
  rw [he];refine gt (m:=setField (.ref it) 2 .none) (Qp h1 (by simp) λk1 a1 b1=>?_)
  wp_walk
  unfold raiseNew;refine gt (wpAny_handled ?_);rw [show A.in1.handled=none from h0]
  exact gt (PZ (wpAny_throw (h _ _ (λb o nb x=>pp _ (pp _ (b1.extBut b o nb x))) ⟨_,P0 _ rfl,rfl⟩)))
theorem G_ {n:Nat} {Q:Value->Shared->Prop} (h1:s.heap.get? it=some (Jh sl i a n ep)) (h:Q (.ref it) s):wpAny (model prog w) A (pyIter (.ref it)) Q E s:=by
 have T:s.TypeIs (.ref it) "set_iterator":=⟨_,h1,rfl⟩
 refine wpAny_pyIter_slot T oO (QP oO T uw ?_ (vA _));exact PZ ⟨_,rfl,"set_iterator",_,T,iu.lookup,h⟩
theorem FO (hh:A.handled=none) (I a:Addr) (ne:a≠I) (m ep:Nat) (xs:List Sx) (hm:m < 128) (hx:xs.map (·.1)=subM m):Walks prog w A I [I,a] [I] xs.length (λi v=>∃ e,(vJ w a ep xs)[i]?=some e/\v=e.2)
  (λi h=>(∃ sl,(w.params.followText "set-order"=false->sl=IY m i)/\h.get? I=some (Jh sl i a xs.length ep))/\h.get? a=some (Cs (!w.params.followText "set-order") m xs ep)) where
 sub:=λb hb=>by simp at hb; simp [hb]
 frame:=λ_ _ _ ⟨⟨sl,q,st⟩,st2⟩ k=>⟨⟨sl,q,k I (by simp) _ st⟩,k a (by simp) _ st2⟩
 item:=λi s Q E hi ⟨⟨sl,q,st⟩,st2⟩ fin=>by
  have lt:i < (vJ w a ep xs).size:=by rw [lx]; exact hi
  have he:(vJ w a ep xs)[i]?=some (vJ w a ep xs)[i]:=by simp [lt]
  exact jp iu ⟨_,st,rfl⟩ nQ (oJ _) (Pr I a m ep sl i xs hm hx q _ he) ⟨st,st2,λsl' h' q' g k=>fin _ h' s.toks ⟨_,he,rfl⟩ ⟨⟨sl',q',g⟩,k _ _ ne st2⟩ λb o hb x=>k b o (λz=>hb (by simp [z])) x⟩
 done:=λs Q E ⟨⟨sl,q,st⟩,st2⟩ fin=>jp iu ⟨_,st,rfl⟩ nQ (oJ _) (Ph I a m ep sl _ xs hm hx q rfl) ⟨hh,st,st2,λh' e x ⟨o,y1,y2⟩=>⟨⟨e,o,rfl,y1,y2⟩,fin h' s.toks λb o hb z=>x b o (λy=>hb (by simp [y])) z⟩⟩
 self:=λ_ _ _ _ ⟨⟨sl,q,st⟩,st2⟩ z=>G_ st z
theorem Hw {r:Addr} {Q:Bool->Shared->Prop} (hT:s.TypeIs (.ref r) "set") (h:Q false s):wpAny (model prog w) A (Builtin.List.listLengthHint (.ref r)) Q E s:=by
 unfold Builtin.List.listLengthHint;refine gt (wpAny_specialOf hT F.slot_set_len.lookup ?_);generalize hid:("set.__len__":String)=id0
 wp_delta
 rw [show splitId id0=some ("set","__len__") from by subst hid; decide +kernel]
 subst hid;refine gt (wpAny_isInstance (T:="set") (b:=true) hT (by rw [isSubtype_type]; kernel_rfl) ?_)
 refine wpAny_ite_split (λhab=>absurd hab (by decide)) (λ_=>?_)
 refine wpAny_ite_split (λ_=>?_) (λhab=>absurd (by decide +kernel) hab)
 refine gt (wpAny_typeOf hT ?_);exact PZ h
theorem Jf (hm:m < 128) (hx:xs.map (·.1)=subM m):PySem.W.KdlSrc prog w "set" a a xs.length (λi v=>∃ e,(vJ w a ep xs)[i]?=some e/\v=e.2) (λh=>h.get? a=some (Cs (!w.params.followText "set-order") m xs ep)) where
 type:=λs ok=>⟨_,ok,rfl⟩
 there:=λh ok=>⟨P2 ok,P2 ok⟩
 keep:=λh h' ok k=>k a (.inl rfl) _ ok
 notList:=by decide
 notTuple:=by decide
 hint:=λA E s Q ok q=>Hw ⟨_,ok,rfl⟩ q
 iter:=λA s hh ok=>⟨Jh 0 0 a xs.length ep,_,λE Q q=>PK hm hx _ ok q,FO hh s.heap.objs.size a (P9 (P2 ok)) m ep xs hm hx,⟨0,λ_=>rfl,P0 _ rfl⟩,pp _ ok⟩
end
end PySem
namespace PySem
open Builtin DL PyProof.Rows
section
variable {prog:Program} {w:World} {A:Around} {E:Value->Shared->Prop} {s:Shared} {a it:Addr} {m ep:Nat} {xs:List Sx}
theorem vF {R:Result->Shared->Prop} (hh:A.handled=none) (hm:m < 128) (hx:xs.map (·.1)=subM m) (ho:s.heap.get? a=some (Cs (!w.params.followText "set-order") m xs ep))
  (h:∀ h' tk acc c',(∀ b o,s.heap.get? b=some o->h'.get? b=some o)->h'.get? s.heap.objs.size=some {cls:=.type "list",dict:=none,data:=.seq acc c',slots:=#[]}->ItemsOf (λi v=>∃ e,(vJ w a ep xs)[i]?=some e/\v=e.2) acc xs.length->R (.ok (.ret (.ref s.heap.objs.size))) {s with heap:=h',toks:=tk}):
  codeAny (model prog w) A (.builtin "proto.collect" ⟨[.ref a],[]⟩) R s:=by
 have la:=P2 ho;have hz:xs.length<=sizeLine:=by
  have:=m7 hm hx;rw [fF] at this;exact fits_of_scanBound (by unfold scanBound; omega)
 refine Qz F.entry_proto_collect ?_;rw [Qm F.plain_proto_collect _]
 show wpAny _ A.in1 (newList [] >>= λl=>again (.builtin "list.__iadd__" ⟨[l,.ref a],[]⟩)) _ _ s
 refine gt (Qs ?_);refine PZ ⟨plainId_quiet F.plain_list_iadd _,Qz F.entry_list_iadd ?_⟩;rw [Qm F.plain_list_iadd _];have ho1:(s.heap.push {cls:=.type "list",data:=.seq ([]:List Value).toArray}).get? a=some (Cs (!w.params.followText "set-order") m xs ep):=pp _ ho
 have hS1:(s.heap.push {cls:=.type "list",data:=.seq ([]:List Value).toArray}).get? s.heap.objs.size=some {cls:=.type "list",data:=.seq #[] 0}:=P0 _ rfl
 exact PySem.W.kdl_extend (R:=R) (s:={s with heap:=s.heap.push {cls:=.type "list",data:=.seq ([]:List Value).toArray}}) (Jf hm hx) hh ho1 s.heap.objs.size (Nat.ne_of_gt la) (Nat.ne_of_gt la) _ 0 hS1 (λh' tk acc c' kk gn itm=>h h' tk acc c' (λb o e=>kk b o (P9 (P2 e)) (pp _ e)) gn itm) hz
theorem yI {Q:List Value->Shared->Prop} (hh:A.handled=none) (hm:m < 128) (hx:xs.map (·.1)=subM m) (ho:s.heap.get? a=some (Cs (!w.params.followText "set-order") m xs ep))
  (h:∀ h' tk acc,(∀ b o,s.heap.get? b=some o->h'.get? b=some o)->s.heap.objs.size < h'.objs.size->ItemsOf (λi v=>∃ e,(vJ w a ep xs)[i]?=some e/\v=e.2) acc xs.length->Q acc.toList {s with heap:=h',toks:=tk}):wpAny (model prog w) A (collect (.ref a)) Q E s:=by
 unfold collect;refine gt (wpAny_runValue (vF hh hm hx ho λh' tk acc c' kk gn itm=>?_))
 show wpAny _ A (load s.heap.objs.size >>= _) _ _ _
 refine gt (wpAny_load gn ?_);exact PZ (h h' tk acc kk (P2 gn) itm)
theorem tJ:∀ l:List (Int×Value),(∀ e∈l,∃ t,e.2=.int e.1 t)->IntsAre (l.map (·.2)) (l.map (·.1))
 | [],_=>.nil
 | e::l,h=>by
  obtain⟨t,q⟩:=h e (by simp)
  rw [Qd,Qd,q];exact .cons _ _ (tJ l λx hx=>h x (by simp [hx]))
theorem qE:∀ (l l':List Int),l.Perm l'->l.Pairwise (·<=·)->l'.Pairwise (·<=·)->l=l'
 | [],l',p,_,_=>(List.Perm.nil_eq p)
 | x::l,[],p,_,_=>absurd p.length_eq (by simp)
 | x::l,y::l',p,s1,s2=>by
  have hx:x∈y::l':=p.mem_iff.mp (by simp)
  have hy:y∈x::l:=p.mem_iff.mpr (by simp)
  have e:x=y:=by
   rcases P8.mp hx with q | q
   ·exact q
   rcases P8.mp hy with r | r
   ·exact r.symm
   exact Int.le_antisymm ((List.pairwise_cons.mp s1).1 y r) ((List.pairwise_cons.mp s2).1 x q)
  subst e;rw [qE l l' (List.Perm.cons_inv p) (List.pairwise_cons.mp s1).2 (List.pairwise_cons.mp s2).2]
def subI (m:Nat):List Int:=(subM m).map fun(v:Nat)=>(v:Int)
theorem Ai (m:Nat):(subI m).Pairwise (· < ·):=by
 unfold subI subM;rw [List.pairwise_map];exact(List.Pairwise.filter _ List.pairwise_lt_range).imp λh=>by omega
theorem A4 {Q:Value->Shared->Prop} (hh:A.handled=none) (hm:m < 128) (hx:xs.map (·.1)=subM m) (ho:s.heap.get? a=some (Cs (!w.params.followText "set-order") m xs ep))
  (h:∀ h' tk l vs e,s.heap.objs.size<=l->(∀ b o,s.heap.get? b=some o->h'.get? b=some o)->h'.get? l=some (seqObj "list" vs e)->IntsAre vs.toList (subI m)->Q (.ref l) {s with heap:=h',toks:=tk}):
  wpAny (model prog w) A (call (.builtin "sorted") [.ref a]) Q E s:=by
 refine Calls.call_function_entry kind_sorted plain_sorted entry_sorted (args_sorted1 _) ?_;unfold Builtin.«sorted»;refine gt (m:=checkCount "sorted" 1 1 _) (PZ ?_)
 refine gt (yI (A:=A.in1) hh hm hx ho λh1 tk acc kk sz itm=>?_)
 have ev:acc.toList=(vJ w a ep xs).toList.map (·.2):=by
  obtain⟨l1,l2⟩:=itm;apply List.ext_getElem?;intro i;rw [Array.getElem?_toList,Qt,Array.getElem?_toList];cases q1:acc[i]? with
  | none=>
   have:acc.size<=i:=by simpa using q1
   rw [Array.getElem?_eq_none (by rw [lx]; omega)]
   rfl
  | some v=>
   obtain⟨e,he,rfl⟩:=l2 i v q1;rw [he]
   rfl
 have hI:IntsAre acc.toList ((vJ w a ep xs).toList.map (·.1)):=by
  rw [ev];refine tJ _ λe he=>?_
  have:=(rG w a ep xs).mem_iff.mp he;simp only [kO,P4] at this;obtain⟨x,_,rfl⟩:=this;exact⟨x.2,rfl⟩
 have hp:((vJ w a ep xs).toList.map (·.1)).Perm (subI m):=by
  refine((rG w a ep xs).map _).trans (List.Perm.of_eq ?_);unfold subI;rw [<- hx];simp only [kO,QJ]
  rfl
 have hl:acc.toList.length < 64:=by
  have:=tR hm;rw [ev,P5,Q6,lx,<- P5 (f:=(·.1)),hx];omega
 refine gt (wpAny_newList ?_);have hoL:(h1.push (seqObj "list" acc.toList.toArray 0)).get? h1.objs.size=some (seqObj "list" acc.toList.toArray 0):=P0 _ rfl
 refine gt (Qq (QP slot_list_sort ⟨_,hoL,rfl⟩ entry_list_sort (list_sort_tree hoL hI hl λout ns' a1 a2 a3=>⟨_,rfl,?_⟩) (args_list_sort _)))
 have e:ns'=subI m:=qE _ _ (a2.trans hp) a3 ((Ai m).imp λh=>Int.le_of_lt h)
 subst e;obtain⟨ep',g⟩:=sortedHeap_at (out:=out) hoL;refine PZ ⟨_,rfl,h _ tk _ out ep' (Nat.le_of_lt sz) (λb o x=>?_) g a1⟩
 have lb:=P2 (kk b o x);rw [sortedHeap_old (P9 lb) (by rw [size_push']; exact Nat.lt_succ_of_lt lb)]
 exact pp _ (kk b o x)
end
end PySem
namespace L2
open PySem PySem.Spec PyProof.Rows
def M4 (led:Bool) (p:Addr) (m:Nat):Heap->Prop:=λh=>qX h p led m
def Cr (ns:List Int) (i:Nat):Nat:=(ns.getD i 0).toNat
def C4 (ns:List Int):Nat:=FV (Cr ns) ns.length
theorem wk (val:Nat->Nat) (v:Nat):∀ k,(FV val k).testBit v=true↔∃ i,i < k/\val i=v
 | 0=>by simp [FV]
 | k+1=>by
  show(FV val k ||| 2 ^ val k).testBit v=true↔_
  rw [Nat.testBit_or,Bool.or_eq_true,wk val v k,Nat.testBit_two_pow,Q5]
  constructor
  ·rintro(⟨i,h1,h2⟩ | h)
   ·exact⟨i,by omega,h2⟩
   ·exact⟨k,by omega,h⟩
  ·rintro⟨i,h1,h2⟩
   by_cases e:i=k
   ·subst e; exact .inr h2
   ·exact .inl ⟨i,by omega,h2⟩
def pA (ns:List Int):List Int:=subI (C4 ns)
theorem Gz (ns:List Int):(pA ns).Pairwise (· < ·):=Ai _
theorem lN {ns:List Int} (hb:∀ n∈ns,0<=n/\n < 7) {v:Int}:v∈pA ns↔v∈ns:=by
 unfold pA subI;simp only [P4,pC]
 constructor
 ·rintro⟨u,⟨_,h2⟩,rfl⟩;obtain⟨i,hi,e⟩:=(wk _ _ _).mp h2;have e1:ns.getD i 0=ns[i]:=by rw [QB,Qr hi]; rfl
  have m1:ns[i]∈ns:=Q9 hi;have b1:=hb _ m1;unfold Cr at e;rw [e1] at e;have:(u:Int)=ns[i]:=by omega
  rw [this];exact m1
 ·intro h;obtain⟨i,hi,e⟩:=List.getElem_of_mem h;have b1:=hb _ h;have e1:ns.getD i 0=v:=by rw [QB,Qr hi,<- e]; rfl
  exact⟨v.toNat,⟨by omega,(wk _ _ _).mpr ⟨i,hi,by unfold Cr; rw [e1]⟩⟩,by omega⟩
section
variable {X:Cx}
theorem Co (hc:X.calm=true):c_ X (.type "set") (λxs H Q=>∃ a ns,xs=[.ref a]/\jD X.K H a (ns.map V.int)/\(∀ n∈ns,0<=n/\n < 7)/\∀ p,H p=none->Q (.ref p) (bz H p (.ext (M4 (!X.w.params.followText "set-order") p (C4 ns))))):=by
 intro pins s σ H xs us Q I r h;obtain⟨a,ns,rfl,hq,hb,q⟩:=h;obtain⟨u,rfl,rx⟩:=nG r;cases rx;obtain⟨its,r',pl,hz⟩:=I.list hq;have hlen:=r'.length;rw [P5] at hlen;have hI:IntsAre its ns:=zI r';have nb:∀ i,0<=ns.getD i 0/\ns.getD i 0 < 7:=λi=>by
  rw [QB];cases e:ns[i]? with
  | none=>exact⟨by decide,by decide⟩
  | some v=>exact hb v (List.mem_of_getElem? e)
 refine rD (val:=Cr ns) (I.ok.hd hc) pl.isList (λi=>?_) (λi v hv=>?_) λh' tk hS kp=>?_
 ·have:=nb i;unfold Cr;omega
 ·obtain⟨t,rfl⟩:=IntsAre.int_at hI i v (by simpa using hv)
  have:=nb i;refine⟨t,?_⟩;unfold Cr;rw [Int.toNat_of_nonneg this.1]
 have e:its.toArray.size=ns.length:=by rw [P7]; exact hlen.symm
 rw [e] at hS;have hS':M4 (!X.w.params.followText "set-order") s.heap.objs.size (C4 ns) h':=hS
 obtain⟨_,_,_,_,g⟩:=id hS;exact⟨.ref s.heap.objs.size,_,I.laid (o:=.ext (M4 (!X.w.params.followText "set-order") s.heap.objs.size (C4 ns))) (t':=tk) (λb o z=>kp b o (P2 z) z) (P3 _) ⟨hS',⟨_,g⟩,λh1 h2 z k=>qX.keep z λo e=>k o e⟩,rfl,q _ (I.hok.fresh (P3 _))⟩
theorem yW (hc:X.calm=true):c_ X (.builtin "sorted") (λxs H Q=>∃ p m,xs=[.ref p]/\H p=some (.ext (M4 (!X.w.params.followText "set-order") p m))/\∀ q,H q=none->Q (.ref q) (bz H q (.lst ((subI m).map V.int)))):=by
 intro pins s σ H xs us Q I r h;obtain⟨p,m,rfl,e1,q⟩:=h;obtain⟨u,rfl,rx⟩:=nG r;cases rx;obtain⟨hm,ys,ep,hx,g⟩:=(I.hok p _ e1).1;refine A4 (I.ok.hd hc) hm hx g λh' tk l vs e le kk gl ia=>?_
 have hl:((subI m).map V.int).length<=sizeLine:=by
  have:=tR hm;unfold subI;rw [P5,P5];exact fits_of_scanBound (by unfold scanBound; omega)
 exact⟨.ref l,_,I.laid (a:=l) (o:=.lst ((subI m).map V.int)) (t':=tk) kk le ⟨hl,vs.toList,e,rW ia,by simpa using gl⟩,rfl,q l (I.hok.fresh le)⟩
end
end L2
namespace DL
open PySem PySem.Spec PyProof.Rows L2
def FH (g:DE):DE:=λL S k=>g L S λd S1=>match d with
 | .ref a=>∃ ns:List Int,S1 a=some (.lst (ns.map D.int))/\(∀ n∈ns,0<=n/\n < 7)/\∀ p,S1 p=none->k (.ref p) (put S1 p (.lst ((pA ns).map D.int)))
 | _=>False
theorem yQ {X:Cx} {e:Expr} {g:DE} {p1 p2 pos1 pos2:Pos} (hc:X.calm=true) (hg1:Gl X "sorted") (hm1:X.mg "sorted"=none) (hv1:bootBuiltins "sorted"=some (.builtin "sorted")) (hg2:Gl X "set") (hm2:X.mg "set"=none) (hv2:bootBuiltins "set"=some (.type "set")) (he:EJ X e g)
  (s1:starEach [e] X.env=(false,eval e X.env)::starEach [] X.env:=by exact bN rfl) (s2:(backTo pos2 (starEach [] X.env)).any (·.1)=false:=by exact dz rfl)
  (s3:starEach [.Call (.Name "set" p2) [e] [] pos2] X.env=(false,eval (.Call (.Name "set" p2) [e] [] pos2) X.env)::starEach [] X.env:=by exact bN rfl) (s4:(backTo pos1 (starEach [] X.env)).any (·.1)=false:=by exact dz rfl):
  EJ X (.Call (.Name "sorted" p1) [.Call (.Name "set" p2) [e] [] pos2] [] pos1) (FH g):=
 ⟨PE.imp (xV (yW hc) hg1 hm1 hv1 (nv (pH (Co hc) hg2 hm2 hv2 (nv he.h pN s1) (by decide) (by decide) s1 s2) pN s3) (by decide) (by decide) s3 s4) fun σ H Q ⟨L,S,k,hL,hS,h,n⟩=>up.go hL hS h λd S1 v H1 h1 k1 hL1 hS1 i1=>by
  cases d with
  | ref a=>
   obtain⟨ns,g1,hb,w⟩:=h1;have ex:=aX.mp i1;subst ex;obtain⟨vs,q1,j⟩:=hS1.lst g1;have e:=k7 j;subst e;refine⟨a,ns,rfl,jD.of q1,hb,λp hp=>⟨p,_,rfl,bu,λq hq=>?_⟩⟩
   have hS2:=hS1.new (o:=.ext (M4 (!X.w.params.followText "set-order") p (C4 ns))) hp
   exact n _ _ _ _ (w q (hS2.free hq)) ((k1.trans (Kp.new hp)).trans (Kp.new hq)) (hS2.newL hq rH) (aX.mpr rfl)
  | _=>exact(show False from h1).elim⟩
def xK (kvs:List (dJ×D)) (k:dJ):Option D:=(kvs.find? λkv=>decide (kv.1=k)).map (·.2)
def Ef (kvs:List (dJ×D)) (k:dJ) (d:D):List (dJ×D):=if (kvs.any λkv=>decide (kv.1=k))=true then kvs.map (λkv=>if kv.1=k then(kv.1,d) else kv) else kvs++[(k,d)]
abbrev rk (K:Fg) (H:Hp):List (dJ×D)->List (dJ×V)->Prop:=Paired λp q=>p.1=q.1/\bV K H p.2 q.2
section
variable {K:Fg} {H H':Hp}
theorem rk.kp {kvs:List (dJ×D)} {ys:List (dJ×V)} (r:rk K H kvs ys) (k:Kp H H'):rk K H' kvs ys:=Paired.mapP r λ_ _ z=>⟨z.1,z.2.kp k⟩
theorem rk.val {k:dJ}:∀ {kvs:List (dJ×D)} {ys:List (dJ×V)},rk K H kvs ys->∀ {d:D},xK kvs k=some d->∃ v,qU ys k=some v/\bV K H d v
 | _,_,.nil,d,h=>by simp [xK] at h
 | (k1,d1)::kvs,(k2,v2)::ys,.cons ⟨a,b⟩ t,d,h=>by
  have a:k1=k2:=a;subst a
  by_cases e:k1=k
  ·refine⟨v2,oD e,?_⟩;simp [xK,Qg,e] at h;rw [<- h];exact b
  ·obtain⟨v,q1,q2⟩:=rk.val (k:=k) t (d:=d) (by simpa [xK,Qg,e] using h)
   exact⟨v,by rw [oH e]; exact q1,q2⟩
theorem rk.any {k:dJ}:∀ {kvs:List (dJ×D)} {ys:List (dJ×V)},rk K H kvs ys->(kvs.any λkv=>decide (kv.1=k))=(ys.any λkv=>decide (kv.1=k))
 | _,_,.nil=>rfl
 | (k1,d1)::kvs,(k2,v2)::ys,.cons ⟨a,b⟩ t=>by
  have a:k1=k2:=a;rw [List.any_cons,List.any_cons,rk.any t,a]
theorem rk.map {k:dJ} {d:D} {v:V} (hd:bV K H d v):∀ {kvs:List (dJ×D)} {ys:List (dJ×V)},rk K H kvs ys->rk K H (kvs.map λkv=>if kv.1=k then(kv.1,d) else kv) (ys.map λkv=>if kv.1=k then(kv.1,v) else kv)
 | _,_,.nil=>.nil
 | (k1,d1)::kvs,(k2,v2)::ys,.cons ⟨a,b⟩ t=>by
  have a:k1=k2:=a;subst a;rw [Qd,Qd];refine .cons ?_ (rk.map hd t);dsimp only
  split
  ·exact⟨rfl,hd⟩
  ·exact⟨rfl,b⟩
theorem rk.snoc {k:dJ} {d:D} {v:V} (hd:bV K H d v):∀ {kvs:List (dJ×D)} {ys:List (dJ×V)},rk K H kvs ys->rk K H (kvs++[(k,d)]) (ys++[(k,v)])
 | _,_,.nil=>.cons ⟨rfl,hd⟩ .nil
 | _,_,.cons a t=>.cons a (rk.snoc hd t)
theorem rk.put {k:dJ} {d:D} {v:V} {kvs:List (dJ×D)} {ys:List (dJ×V)} (hd:bV K H d v) (r:rk K H kvs ys):rk K H (Ef kvs k d) (oa ys k v):=by
 unfold Ef oa;rw [r.any]
 split
 ·exact rk.map hd r
 ·exact rk.snoc hd r
end
section
variable {X:Cx}
def Nf:DE:=λ_ S k=>∀ p,S p=none->k (.ref p) (put S p (.gen (.dK [])))
theorem Gj {pos:Pos}:EJ X (.Dict [] [] pos) Nf:=
 ⟨PE.imp Fr fun σ H Q ⟨L,S,k,hL,hS,h,n⟩ p hp=>n _ _ _ _ (h p (hS.free hp)) (Kp.new hp) (hS.newG hp ⟨[],bu,.nil⟩) (aX.mpr rfl)⟩
def No (go gi:DE):DE:=λL S k=>go L S λd S1=>gi L S1 λe S2=>match d,e with
 | .ref a,.int i=>∃ kvs c,S2 a=some (.gen (.dK kvs))/\xK kvs (.inl i)=some c/\k c S2
 | _,_=>False
theorem Ag {o i:Expr} {go gi:DE} {pos:Pos} {n:Nat} (hr:ce n X.A) (ho:EJ X o go) (hi:EJ X i gi) (hs:DP i):EJ X (.Subscript o i pos) (No go gi):=
 ⟨PE.imp (GY (un1 hr) ho.h hi.h hs) fun σ H Q ⟨L,S,k,hL,hS,h,m⟩=>up.go hL hS h λd S1 x H1 h1 k1 hL1 hS1 i1=>up.go hL1 hS1 h1 λe S2 y H2 h2 k2 hL2 hS2 i2=>by
  split at h2
  ·rename_i a j
   obtain⟨kvs,c,g1,g2,h2⟩:=h2;obtain⟨ys,e1,r1⟩:=(show pQ X.K H2 a (.dK kvs) from hS2 a _ g1)
   have ex:=aX.mp i1;have ey:=isInt.mp i2;subst ex ey;obtain⟨v,q1,q2⟩:=rk.val r1 g2;exact⟨a,v,rfl,by rw [<- q1]; exact Cf.k (k:=.inl j) e1,m c S2 v H2 h2 (k1.trans k2) hS2 q2⟩
  ·exact h2.elim⟩
def MJ:C':=λx y v H Q=>∃ a kvs j,x=.ref a/\y=.int j/\H a=some (.dK kvs)/\kvs.length < sizeLine/\Q (bz H a (.dK (oa kvs (.inl j) v)))
theorem BW {n:Nat} (hr:ce n X.A):F9 X MJ:=by
 intro pins s σ H o i v ov iv u Q I ro ri rv h;obtain⟨a,kvs,j,rfl,rfl,e1,z,q⟩:=h;cases (show ov=Value.ref a from ro)
 exact Cm (un1 hr) I (Hm.k (k:=.inl j) e1 z) ri rv λs' I'=>⟨_,I',q⟩
def K4 (go gi:DE):DG:=λd L S k=>go L S λo S1=>gi L S1 λi S2=>match o,i with
 | .ref a,.int j=>∃ kvs,S2 a=some (.gen (.dK kvs))/\kvs.length < sizeLine/\k L (put S2 a (.gen (.dK (Ef kvs (.inl j) d))))
 | _,_=>False
theorem Hk {o i:Expr} {go gi:DE} {pos:Pos} {n:Nat} (hr:ce n X.A) (ho:EJ X o go) (hi:EJ X i gi)
  (ha:∀ v,assign (.Subscript o i pos) X.env v=(do
   let ov <- holding [v] (eval o X.env)
   let iv <- holding [v,ov] (eval i X.env)
   standAt pos
   holding [v,ov,iv] (setItem ov iv v)
   release [v,ov,iv] []):=by intro _; rfl):GJ X (.Subscript o i pos) (K4 go gi):=
 ⟨PG.imp (y7 ho.h hi.h (BW hr) ha) λv σ H Q ⟨d,L,S,k,i1,hL,hS,h,m⟩=>up.go hL hS h λc S1 u H1 h1 k1 hL1 hS1 j1=>up.go hL1 hS1 h1 λc2 S2 u2 H2 h2 k2 hL2 hS2 j2=>by
  split at h2
  ·rename_i a j
   obtain⟨kvs,g1,z,h2⟩:=h2;obtain⟨ys,e1,r1⟩:=(show pQ X.K H2 a (.dK kvs) from hS2 a _ g1)
   have ex:=aX.mp j1;have ey:=isInt.mp j2;subst ex ey;have hl:=Paired.length r1;refine⟨a,ys,j,rfl,rfl,e1,by rw [<- hl]; exact z,?_⟩
   have k3:Kp H2 (bz H2 a (.dK (oa ys (.inl j) v))):=Kp.mut e1 (λz=>z)
   exact m L _ σ _ h2 (k1.trans (k2.trans k3)) (hL2.kp k3) (hS2.setG e1 (λz=>z) ⟨_,bu,(rk.put (i1.kp (k1.trans k2)) r1).kp k3⟩)
  ·exact h2.elim⟩
end
end DL
namespace ST
open PySem PySem.SetTable
def Pg (mask:Nat) (p:Probe):Probe:=
 if p.more > 0 then {p with j:=p.j+1,more:=p.more - 1} else {p with j:=(leap mask p.i p.perturb).1,more:=runEnd mask (leap mask p.i p.perturb).1 - (leap mask p.i p.perturb).1,i:=(leap mask p.i p.perturb).1,perturb:=(leap mask p.i p.perturb).2}
def O_ (mask i pt:Nat):Probe:={j:=i,more:=runEnd mask i - i,i:=i,perturb:=pt,dummy:=none}
def sq (mask:Nat) (h:Int):Nat->Probe
 | 0=>O_ mask (bits h % (mask+1)) (bits h)
 | n+1=>Pg mask (sq mask h n)
def Pa (mask:Nat):Prop:=mask=7\/mask=31\/mask=127
def PH (xs:Array Nat):Prop:=∀ i j:Nat,i < j->∀ a b:Nat,xs[i]?=some a->xs[j]?=some b->a < b
def On (t:SetTable) (j:Nat):Prop:=∃ i:Nat,t.place[i]?=some j
def O' (t:SetTable) (h:Int) (j:Nat):Prop:=∃ n,(sq t.mask h n).j=j/\∀ m,m < n->On t (sq t.mask h m).j
structure TI (t:SetTable) (hs:List Int):Prop where
 dm:t.dummies=#[]
 ris:PH t.place
 sz:t.place.size=hs.length
 le:∀ j,On t j->j < t.mask+1
 msk:Pa t.mask
 way:∀ q∈t.place.toList.zip hs,O' t q.2 q.1
def PB (t:SetTable):Prop:=t.place.size*5 < t.mask*3
end ST
namespace ST
open PySem PySem.SetTable PySem.Spec
section
variable {prog:Program} {w:World} {K:Type} [DecidableEq K] {knd:KeyKind prog w K} {A:Around} {E:Value->Shared->Prop} {s:Shared}
def ent (knd:KeyKind prog w K) (x:List K×Addr):Int×Value:=(tupleKeyHash knd x.1,.ref x.2)
structure Ou (knd:KeyKind prog w K) (h:Heap) (a:Addr) (o:Obj) (es:Array (Int×Value)) (ep:Nat) (t:SetTable) (xs:List (List K×Addr)):Prop where
 get:h.get? a=some o
 ex:o.ExactSet
 data:o.data=.set es ep t
 ent:es.toList=xs.map (ent knd)
 is:∀ x∈xs,IsTupleKey knd h x.1 x.2
 ti:TI t (xs.map λx=>tupleKeyHash knd x.1)
 lax:PB t
end
end ST
namespace ST
open PySem PySem.SetTable PySem.Spec PyProof.Rows
def LQ {α:Type} [DecidableEq α] (a:List α) (k:α):List α:=if k∈a then a else a++[k]
def dd {α:Type} [DecidableEq α] (l:List α):List α:=l.foldl LQ []
section
variable {prog:Program} {w:World} {K:Type} [DecidableEq K] {knd:KeyKind prog w K} {A:Around} {R:Result->Shared->Prop} {I:Addr} {fp wr:List Addr} {G:Array GenState->Array GenState->Prop} {n:Nat} {P:Nat->Value->Prop} {St:Nat->Shared->Prop}
def Holds (knd:KeyKind prog w K) (h:Heap) (S:Addr) (V:Addr->Prop) (l:List (List K)):Prop:=∃ o es ep t xs,Ou knd h S o es ep t xs/\xs.length=(dd l).length/\(∀ k,k∈xs.map (·.1)↔k∈dd l)/\∀ x∈xs,V x.2
end
end ST
namespace DL
open PySem PySem.Spec PyProof.Rows L2
theorem Ds:bootBuiltins "range"=some (.type "range"):=by decide +kernel
end DL
namespace L2
open PySem PySem.Spec PyProof.Rows
section
variable {X:Cx} {pins:List (Addr×Obj)} {σ:St} {H:Hp} {s s':Shared} {E:XK}
theorem Hb {e:Value} (hex:X.ex=[]) (hst:X.stack=X.env::X.outer) (hf:X.env.frame=some X.env.locals) (I:ay X pins σ H s) (h:lh X.prog X.w X.stack H s E e s') {Cn:Str} {cv:Value} {p1 hp:Pos} {b0:Stmt} {suite:List Stmt} {Q:Flow->Shared->Prop}
  (hg:Gl X Cn) (hm:X.mg Cn=some cv) (hdb:(Cn == ("__debug__":Str))=false) (hx:∀ c H',E c none H'->PySem.W.exmOne X.K c cv=some true)
  (k:∀ ea c H' o s6,E c none H'->H' ea=none->o.cls=c->ay X pins σ (bz H' ea (.frz o (.ext λ_=>True))) s6->
   wpAny (model X.prog X.w) (X.A.mark (some (.ref ea))) (execs (b0::suite) X.env) Q qz s6):
  wpAny (model X.prog X.w) X.A (noteFrame e X.env) (λ_ s2=>wpAny (model X.prog X.w) X.A (setFlight e none) (λ_ s3=>wpAny (model X.prog X.w) X.A (handleBy e X.env [.ExceptHandler (some (.Name Cn p1)) none (b0::suite) hp]) Q X.xe s3) X.xe s2) X.xe s':=by
 obtain⟨ea,cls,a0,H',B,rfl,os,bare,fl,hok,hB,hB2,un,q⟩:=h;have fr0:X.A.frames=some (X.env::X.outer):=by rw [<- hst]; exact I.ok.frames
 have fl0:Heap.FlyingW B (X.env::X.outer) ea cls a0 s'.heap:=by rw [<- hst]; exact fl
 refine wpAny_looks_onW fr0 hf fl0 λh4 held4 up4=>?_
 refine wpAny_landsW held4 λh5 fl5 up5=>?_
 have up45:=up4.trans up5;have I5:=I.landed os bare fl (by rw [hst]; exact fl5) up45 hok hB hB2 un
 obtain⟨ob,hob,hobc⟩:=fl5.there;refine wpAny_handleBy_cons (codeAny_handlers_test (pc (X:=X.marked (.ref ea) qz) (I5.marked (.ref ea) _) hg hm ?_ hdb)) (by intro z; cases z)
 have LT:PySem.W.Looks (model X.prog X.w) h5 (typeOf (.ref ea)) cls:=by
  subst hobc;exact(PySem.W.Looks.ld hob).andThen .now
 refine PySem.W.exm_one I5.kIn LT (hx cls H' q) _ _ _ _ (λ_ _ z=>z) ?_
 refine codeAny_handlers_suite ?_;refine lands_againW fl5 λh6 fl6 up6=>?_
 have I6:=I.landed os bare fl (by rw [hst]; exact fl6) (up45.trans up6) hok hB hB2 un
 obtain⟨o6,ho6,hc6⟩:=fl6.there;have nfr:ea∉kS X.stack:=λz=>by
  obtain⟨_,o2,e2,d2⟩:=fl.2.2.1.mem z;obtain⟨oe,vs,T,oT,ts,w1,w2,w3,w4⟩:=fl.2.2.2;rw [w1] at e2;cases e2;exact d2 _ w3
 have nB:B.get? ea=none:=fl.2.1;have nw:∀ b o,s.heap.get? b=some o->b≠ea:=λb o z y=>by
  subst y;obtain⟨o',z'⟩:=hB2 b o z nfr;rw [nB] at z';cases z'
 have hn:H' ea=none:=by
  cases y:H' ea with
  | none=>rfl
  | some u=>
   obtain⟨o',z'⟩:=(hok ea u y).there;rw [nB] at z';cases z'
 have h0:X.s₀.heap.get? ea=none:=by
  cases y:X.s₀.heap.get? ea with
  | none=>rfl
  | some u=>
   obtain⟨o',z'⟩:=I.base.there ea u y (by rw [hex]; simp)
   exact absurd rfl (nw ea o' z')
 have I7:=I6.freeze ho6 hn h0 (λz=>nfr (by rw [hst,z]; unfold kS; rw [List.filterMap_cons,hf]; exact P_)) (λx c z=>by
  obtain⟨v,o,z2,_⟩:=I.cell x c z;exact nw c o z2) (λp z=>nw p.1 p.2 (I.pin p z).1)
 exact QE (k ea cls H' o6 _ q hn hc6 I7) (λ_ _ z=>z) λ_ _ z=>z.elim
end
abbrev Cx.still (X:Cx):Cx:={X with xe:=qz}
theorem ay.still {X:Cx} {pins:List (Addr×Obj)} {σ:St} {H:Hp} {s:Shared} (I:ay X pins σ H s):ay X.still pins σ H s:=
 ⟨⟨I.ok.mod,I.ok.kind,I.ok.glob,I.ok.blt,I.ok.above,I.ok.inj,I.ok.has,I.ok.cab,I.ok.hd,I.ok.frames,I.ok.stk,I.ok.exf,I.ok.bs,I.ok.bsz,I.ok.noex,I.ok.exfs,I.ok.funs,I.ok.frf⟩,I.os,I.bare,I.base,I.loc,I.cell,I.free,I.freeC,I.pin,I.hok,I.len⟩
theorem ay.unstill {X:Cx} {pins:List (Addr×Obj)} {σ:St} {H:Hp} {s:Shared} (I:ay X.still pins σ H s):ay X pins σ H s:=
 ⟨⟨I.ok.mod,I.ok.kind,I.ok.glob,I.ok.blt,I.ok.above,I.ok.inj,I.ok.has,I.ok.cab,I.ok.hd,I.ok.frames,I.ok.stk,I.ok.exf,I.ok.bs,I.ok.bsz,I.ok.noex,I.ok.exfs,I.ok.funs,I.ok.frf⟩,I.os,I.bare,I.base,I.loc,I.cell,I.free,I.freeC,I.pin,I.hok,I.len⟩
def XW (X:Cx) (pins:List (Addr×Obj)) (σ:St) (R:Hp->Prop) (E:XK) (e:Value) (s':Shared):Prop:=∃ H1 s1,ay X pins σ H1 s1/\R H1/\lh X.prog X.w X.stack H1 s1 E e s'
abbrev TX:=St->Hp->VK->(Hp->Prop)->Prop
def FW (X:Cx) (E:XK) (e:Expr) (t:TX):Prop:=∀ (pins:List (Addr×Obj)) (s:Shared) (σ:St) (H:Hp) (Q:VK) (R:Hp->Prop),ay X pins σ H s->t σ H Q R->wpAny (model X.prog X.w) X.A (eval e X.env) (EP X pins σ Q) (XW X pins σ R E) s
section
variable {X:Cx} {E:XK}
theorem EP.unstill {pins:List (Addr×Obj)} {σ:St} {Q:VK} {u:Value} {s:Shared} (h:EP X.still pins σ Q u s):EP X pins σ Q u s:=by
 obtain⟨v,H',I,r,q⟩:=h;exact⟨v,H',I.unstill,r,q⟩
theorem FW.imp {e:Expr} {t t':TX} (h:FW X E e t) (i:∀ σ H Q R,t' σ H Q R->t σ H Q R):FW X E e t':=λpins s σ H Q R I q=>h pins s σ H Q R I (i σ H Q R q)
theorem Gd {fn:Str} {f:Addr} {fd:FuncData} {ps:List Str} {sp:Sp} {k:Nat} {e:Expr} {es:List Expr} {ta:TA} {fp cp:Pos}
  (F:aI X.prog X.w X.K X.mg X.base (lh X.prog X.w) k f fd ps sp) (hr:ce k X.A) (hgf:Gl X fn) (hmf:X.mg fn=some (.ref f)) (hkf:PySem.W.keepIn X.K (.ref f)=true) (hb:nP X.K fd ps []) (ha:PA X.still (e::es) ta)
  (hdf:(fn == ("__debug__":Str))=false:=by decide) (he:starEach (e::es) X.env=(false,eval e X.env)::starEach es X.env:=by rfl) (hpl:(backTo cp (starEach es X.env)).any (·.1)=false:=by rfl):
  FW X E (.Call (.Name fn fp) (e::es) [] cp) (fun σ H Q R=>ta σ H λvs H1=>R H1/\sp vs H1 Q E):=by
 intro pins s σ H Q R I h;refine wpAny_Call_Name_kw (pc I hgf hmf ?_ hdf);refine PySem.W.callWith_K (h₀:=X.base) I.ok.mod.kin hkf (QE (ha cp pins s σ H _ I.still h) (λus s1 ⟨vs,H1,I1,r,hR,q⟩=>?_) λ_ _ z=>z.elim) he hpl
 have I1:ay X pins σ H1 s1:=I1.unstill;refine⟨I1.kIn,?_⟩;have r2:a_ (vs++[]) (us++[]):=by rw [Qn,Qn]; exact r
 have q2:sp (vs++[]) H1 Q E:=by rw [Qn]; exact q
 have hl:(us++[]).length=ps.length:=by rw [<- r2.length]; exact F.len _ _ _ _ q2
 refine wpAny_call (codeAny_mono (F.run X.A X.stack s1 H1 ⟨us,[]⟩ (us++[]) (vs++[]) _ E hr I1.env0 (hb s1 us I1.kIn hl) r2 q2) λr s' hq=>?_)
 cases r with
 | ok fl=>
  cases fl with
  | ret u=>exact I1.after hq
  | next=>exact False.elim hq
  | brk=>exact False.elim hq
  | cont=>exact False.elim hq
 | error e=>exact⟨H1,s1,I1,hR,hq⟩
theorem Mu {a b:Expr} {ta:TX} {tb:TE} {pos:Pos} {r:R2} (hr:Ba X.still r) (ha:FW X E a ta) (hb:PE X.still b tb) (hs:pe b):FW X E (.Subscript a b pos) (fun σ H Q R=>ta σ H (λx H1=>tb σ H1 λy H2=>r x y H2 Q) R):=by
 intro pins s σ H Q R I h;refine Subscript_ (b9 (ha pins s σ H _ R I h) λv s1 ⟨x,H1,I1,r1,q1⟩=>?_)
 refine QE (hb pins s1 σ H1 _ I1.still q1) (λu s2 ⟨y,H2,I2,r2,q2⟩=>?_) λ_ _ z=>z.elim
 exact QE (hr a b pins s2 σ H2 x y v u Q I2 r1 r2 q2 (hs _ _)) (λ_ _ z=>z.unstill) λ_ _ z=>z.elim
theorem Bx {pins:List (Addr×Obj)} {σ:St} {R:Hp->Prop} {s':Shared} {e:Value} {Cn:Str} {cv:Value} {p1 hp:Pos} {b0:Stmt} {suite:List Stmt} {D:qR} {t:TS} (h:XW X pins σ R E e s') (hd:X.calm=true->X.A.handled=none) (hex:X.ex=[]) (hst:X.stack=X.env::X.outer) (hf:X.env.frame=some X.env.locals)
  (hg:Gl X Cn) (hm:X.mg Cn=some cv) (hdb:(Cn == ("__debug__":Str))=false) (hs:∀ v,oA (X.marked v qz) (b0::suite) t) (hE:∀ c H',E c none H'->PySem.W.exmOne X.K c cv=some true)
  (kk:∀ H1 ea c H' o,R H1->E c none H'->DL.Kp H1 H'->H' ea=none->o.cls=c->t D σ (bz H' ea (.frz o (.ext λ_=>True)))):
  wpAny (model X.prog X.w) X.A (noteFrame e X.env) (λ_ s2=>wpAny (model X.prog X.w) X.A (setFlight e none) (λ_ s3=>wpAny (model X.prog X.w) X.A (handleBy e X.env [.ExceptHandler (some (.Name Cn p1)) none (b0::suite) hp]) (SP X pins D) X.xe s3) X.xe s2) X.xe s':=by
 obtain⟨H1,s1,I1,hR,hq⟩:=h;refine Hb hex hst hf I1 (DL.Ki hq) hg hm hdb (λc H' z=>hE c H' z.1) λea c H' o s6 y1 y2 y3 I6=>?_
 refine b9 (hs (.ref ea) pins s6 _ _ _ (I6.marked (.ref ea) qz) (kk H1 ea c H' o hR y1.1 y1.2 y2 y3)) λf s7 y=>?_
 cases f with
 | next=>
  obtain⟨σ7,H7,I7,q⟩:=y;exact⟨σ7,H7,I7.unmarked hd,q⟩
 | brk=>
  obtain⟨σ7,H7,I7,q⟩:=y;exact⟨σ7,H7,I7.unmarked hd,q⟩
 | cont=>
  obtain⟨σ7,H7,I7,q⟩:=y;exact⟨σ7,H7,I7.unmarked hd,q⟩
 | ret v=>
  obtain⟨v,σ7,H7,I7,r,q⟩:=y;exact⟨v,σ7,H7,I7.unmarked hd,r,q⟩
def Mf (K:PySem.W.Frag) (E:XK) (cv:Value) (te:TX) (k:qR->St->VK) (t:TS):TS:=λD σ H=>(∀ c H',E c none H'->PySem.W.exmOne K c cv=some true)/\
 ∃ R:Hp->Prop,te σ H (k D σ) R/\∀ H1 ea c H' o,R H1->E c none H'->DL.Kp H1 H'->H' ea=none->o.cls=c->t D σ (bz H' ea (.frz o (.ext λ_=>True)))
theorem F_ {x Cn:Str} {cv:Value} {i:Nat} {e:Expr} {te:TX} {t:TS} {b0:Stmt} {suite:List Stmt} {xp ap p1 hp pos:Pos} (he:FW X E e te)
  (hd:X.calm=true->X.A.handled=none) (hex:X.ex=[]) (hst:X.stack=X.env::X.outer) (hf:X.env.frame=some X.env.locals) (hg:Gl X Cn) (hm:X.mg Cn=some cv) (hN:X.N.Nodup) (hi:X.N[i]?=some x) (hx:FY X.env.scope x) (hs:∀ v,oA (X.marked v qz) (b0::suite) t)
  (hsw:swapsWith e (some (.Name x xp)) ap.line X.env=pure false:=by rfl) (hfx:X.fn x=true\/X.env.scope.names.lookup x=some .local:=by first | exact .inl rfl | exact .inr rfl | assumption) (hdb:(Cn == ("__debug__":Str))=false:=by decide):
  PS X (.Try [.Assign [.Name x xp] e ap] [.ExceptHandler (some (.Name Cn p1)) none (b0::suite) hp] [] [] pos) (Mf X.K E cv te (λD σ v H=>D.nx (σ.set i (some v)) H) t):=by
 intro pins s σ H D I h;obtain⟨hE,R,h,kk⟩:=h;refine wpAny_Try_except (wpAny_execs_cons (wpAny_Assign_Name (QE (he pins s σ H _ R I h) (λv s1 ⟨y,H1,I1,r1,q1⟩=>?_) λe s' z=>?_) hsw))
 ·exact mt I1 hN hi hx r1 (λs2 I2=>wpAny_execs_nil (wpAny_execs_nil ⟨_,H1,I2,q1⟩)) hfx
 ·exact Bx z hd hex hst hf hg hm hdb hs hE kk
end
end L2
namespace DL
open PySem PySem.Spec PyProof.Rows L2
def Ps (K:Fg) (g:DE):TX:=fun σ H Q R=>∃ L S k,Lc K H L σ/\Hs K H S/\g L S k/\(∀ d S' v H',k d S'->Kp H H'->Hs K H' S'->bV K H' d v->Q v H')/\∀ H1,Kp H H1->R H1
structure NC (X:Cx) (ex:Addr->DH->Prop) (e:Expr) (g:DE):Prop where
 h:FW X (Pl X.K ex) e (Ps X.K g)
section
variable {X:Cx} {ex:Addr->DH->Prop}
theorem ER {fn:Str} {n:Nat} {F:re} {e:Expr} {es:List Expr} {ta:DA} {fp cp:Pos} (c:ui X.prog X.w X.K X.mg X.base fn n F) (hr:ce n X.A) (hgf:Gl X fn) (ha:AJ X.still (e::es) ta)
  (hdf:(fn == ("__debug__":Str))=false:=by decide) (he:starEach (e::es) X.env=(false,eval e X.env)::starEach es X.env:=by exact bN rfl) (hpl:(backTo cp (starEach es X.env)).any (·.1)=false:=by exact dz rfl):
  NC X ex (.Call (.Name fn fp) (e::es) [] cp) (Db F ex ta):=by
 obtain⟨g,fd,ps,F1,h1,h2,h3⟩:=c.ex;refine⟨FW.imp (Gd F1 hr hgf h1 h2 h3 ha.h hdf he hpl) fun σ H Q R ⟨L,S,k,hL,hS,h,n,hR⟩=>?_⟩
 refine qB.go hL hS h λds S1 vs H1 h1 k1 hL1 hS1 i1=>?_
 exact⟨hR H1 k1,ds,S1,k,ex,i1,hS1,h1,λd' S' v H' q k3 z1 z2=>n d' S' v H' q (k1.trans k3) z1 z2,λC S' H' z zs=>⟨C,S',rfl,z,zs⟩⟩
theorem Kw {a b:Expr} {ga gb:DE} {pos:Pos} {r:D2} (hr:Ba X.still (jL X.K r)) (ha:NC X ex a ga) (hb:EJ X.still b gb) (hs:pe b):NC X ex (.Subscript a b pos) (xM r ga gb):=by
 refine⟨FW.imp (Mu hr ha.h hb.h hs) fun σ H Q R ⟨L,S,k,hL,hS,h,n,hR⟩=>?_⟩
 refine⟨L,S,_,hL,hS,h,λd S1 v H1 h1 k1 hS1 i1=>?_,hR⟩
 refine up.go (hL.kp k1) hS1 h1 λe S2 u H2 h2 k2 hL2 hS2 i2=>?_
 exact⟨d,e,S2,k,i1.kp k2,i2,hS2,h2,λd' S' v' H' q k3 z1 z2=>n d' S' v' H' q (k1.trans (k2.trans k3)) z1 z2⟩
def MU (K:Fg) (cv:Value) (g:(Addr->DH->Prop)->DE) (i:Nat) (t:DS):DS:=λM L S=>g (λC S2=>PySem.W.exmOne K (.ref C) cv=some true/\t M L S2) L S λd S2=>M.nx (L.set i (some d)) S2
theorem Bu {x Cn:Str} {cv:Value} {i:Nat} {e:Expr} {g:(Addr->DH->Prop)->DE} {t:DS} {b0:Stmt} {suite:List Stmt} {xp ap p1 hp pos:Pos} (he:∀ ex,NC X ex e (g ex))
  (hd:X.calm=true->X.A.handled=none) (hex:X.ex=[]) (hst:X.stack=X.env::X.outer) (hf:X.env.frame=some X.env.locals) (hg:Gl X Cn) (hm:X.mg Cn=some cv) (hN:X.N.Nodup) (hi:X.N[i]?=some x) (hx:FY X.env.scope x) (hs:∀ v,Ad (X.marked v qz) (b0::suite) t)
  (hsw:swapsWith e (some (.Name x xp)) ap.line X.env=pure false:=by rfl) (hfx:X.fn x=true\/X.env.scope.names.lookup x=some .local:=by first | exact .inl rfl | exact .inr rfl | assumption) (hdb:(Cn == ("__debug__":Str))=false:=by decide):
  SJ X (.Try [.Assign [.Name x xp] e ap] [.ExceptHandler (some (.Name Cn p1)) none (b0::suite) hp] [] [] pos) (MU X.K cv g i t):=by
 refine⟨λpins s σ H N I ⟨L,S,M,hL,hS,h,r⟩=>F_ (t:=o_ X.K t) (he (λC S2=>PySem.W.exmOne X.K (.ref C) cv=some true/\t M L S2)).h hd hex hst hf hg hm hN hi hx (λv=>(hs v).h) hsw hfx hdb pins s σ H N I ⟨?_,Kp H,⟨L,S,_,hL,hS,h,λd S' v H' q k1 hS' i1=>r.nx _ _ _ _ q k1 ((hL.kp k1).set i1 i) hS',λ_ z=>z⟩,?_⟩⟩
 ·rintro c H' ⟨C,S',rfl,z,_⟩;exact z.1
 ·rintro H1 ea c H' o k0 ⟨C,S',rfl,z,zs⟩ kp hn ho;have k2:Kp H (bz H' ea (.frz o (.ext λ_=>True))):=k0.trans (kp.trans (Kp.new hn))
  exact⟨L,S',M,hL.kp k2,zs.new hn,z.2,r.kp k2⟩
end
inductive Mn (K:Fg) (n:Str) (st:Stmt) (f:Addr) (cd:Value):Prop where
 | mk {oc kV doc pm ct:Value} {od an:Option Addr} {osl:Array (Option Value)} (l:K.lookup f=some ⟨oc,od,.func (PySem.W.fnOf n n (kX st) (fS st) (am st) .none kV doc pm an cd ct),osl⟩):Mn K n st f cd
structure DI (K:Fg) (n:Str) (st:Stmt) (f:Addr) (cd:Value):Prop where
 a:PySem.W.nsIn K mainGlobals n=some (some (.ref f))
 x:Mn K n st f cd
 e:PySem.W.codeIn K cd n=true
 k:PySem.W.keepIn K (.ref f)=true
def Bd (n:Str) (st:Stmt) (ps:List Str):Prop:=∀ (kV doc pm:Value) (an:Option Addr) (cdv ct:Value) (us:List Value),us.length=ps.length->bindArgs (PySem.W.fnOf n n (kX st) (fS st) (am st) .none kV doc pm an cdv ct) ⟨us,[]⟩=pure (ps.zip us)
theorem bd1 {n a1:Str} {st:Stmt} (h:∀ (kV doc pm:Value) (an:Option Addr) (cdv ct u1:Value),bindArgs (PySem.W.fnOf n n (kX st) (fS st) (am st) .none kV doc pm an cdv ct) ⟨[u1],[]⟩=pure (List.zip [a1] [u1])):Bd n st [a1]:=λ_ _ _ _ _ _ us hl=>match us,hl with | [u1],_=>h _ _ _ _ _ _ _
theorem bd2 {n a1 a2:Str} {st:Stmt} (h:∀ (kV doc pm:Value) (an:Option Addr) (cdv ct u1 u2:Value),bindArgs (PySem.W.fnOf n n (kX st) (fS st) (am st) .none kV doc pm an cdv ct) ⟨[u1,u2],[]⟩=pure (List.zip [a1,a2] [u1,u2])):Bd n st [a1,a2]:=λ_ _ _ _ _ _ us hl=>match us,hl with | [u1,u2],_=>h _ _ _ _ _ _ _ _
theorem bd3 {n a1 a2 a3:Str} {st:Stmt} (h:∀ (kV doc pm:Value) (an:Option Addr) (cdv ct u1 u2 u3:Value),bindArgs (PySem.W.fnOf n n (kX st) (fS st) (am st) .none kV doc pm an cdv ct) ⟨[u1,u2,u3],[]⟩=pure (List.zip [a1,a2,a3] [u1,u2,u3])):Bd n st [a1,a2,a3]:=λ_ _ _ _ _ _ us hl=>match us,hl with | [u1,u2,u3],_=>h _ _ _ _ _ _ _ _ _
theorem bd4 {n a1 a2 a3 a4:Str} {st:Stmt} (h:∀ (kV doc pm:Value) (an:Option Addr) (cdv ct u1 u2 u3 u4:Value),bindArgs (PySem.W.fnOf n n (kX st) (fS st) (am st) .none kV doc pm an cdv ct) ⟨[u1,u2,u3,u4],[]⟩=pure (List.zip [a1,a2,a3,a4] [u1,u2,u3,u4])):Bd n st [a1,a2,a3,a4]:=λ_ _ _ _ _ _ us hl=>match us,hl with | [u1,u2,u3,u4],_=>h _ _ _ _ _ _ _ _ _ _
theorem bd5 {n a1 a2 a3 a4 a5:Str} {st:Stmt} (h:∀ (kV doc pm:Value) (an:Option Addr) (cdv ct u1 u2 u3 u4 u5:Value),bindArgs (PySem.W.fnOf n n (kX st) (fS st) (am st) .none kV doc pm an cdv ct) ⟨[u1,u2,u3,u4,u5],[]⟩=pure (List.zip [a1,a2,a3,a4,a5] [u1,u2,u3,u4,u5])):Bd n st [a1,a2,a3,a4,a5]:=λ_ _ _ _ _ _ us hl=>match us,hl with | [u1,u2,u3,u4,u5],_=>h _ _ _ _ _ _ _ _ _ _ _
section
variable {P:Program} {w:World} {K:Fg} {mg:Str->Option Value} {base h:Heap} {n:Str} {st:Stmt} {f:Addr} {cd:Value} {ps:List Str} {k:Nat}
theorem DI.own {F:bC} (d:DI K n st f cd) (X:K.In h) (G:h.Ns mainGlobals mg) (ok:∀ fd,bL K n n st f fd->fd.code=cd->aI P w K mg base ca k f fd ps (cg K F))
  (hb:Bd n st ps:=by first | exact bd1 λ_ _ _ _ _ _ _=>rfl | exact bd2 λ_ _ _ _ _ _ _ _=>rfl | exact bd3 λ_ _ _ _ _ _ _ _ _=>rfl | exact bd4 λ_ _ _ _ _ _ _ _ _ _=>rfl | exact bd5 λ_ _ _ _ _ _ _ _ _ _ _=>rfl):aE P w K mg base n k F:=by
 obtain⟨lk⟩:=d.x;have Fn:=yJ lk d.e d.k;exact aE.mk' Fn (ok _ Fn rfl) (PySem.W.mg_of X G d.a) (Fn.binds hb)
theorem DI.fn (d:DI K n st f cd) (hb:∀ (kV doc pm:Value) (an:Option Addr) (ct v:Value),bindArgs (PySem.W.fnOf n n (kX st) (fS st) (am st) .none kV doc pm an cd ct) ⟨[v],[]⟩=pure [(("script":Str),v)]:=by exact λ_ _ _ _ _ _=>rfl):∃ fd:FuncData,bL K n n st f fd/\fd.code=cd/\∀ (s:Shared) (v:Value),BindsTo s fd ⟨[v],[]⟩ [("script",v)]:=by
 obtain⟨lk⟩:=d.x;exact⟨_,yJ lk d.e d.k,rfl,λs v=>.of_eq (hb _ _ _ _ _ v)⟩
theorem DI.ownX {F:re} (d:DI K n st f cd) (X:K.In h) (G:h.Ns mainGlobals mg) (ok:∀ fd,bL K n n st f fd->aI P w K mg base (lh P w) k f fd ps (Ht K F))
  (hb:Bd n st ps:=by first | exact bd1 λ_ _ _ _ _ _ _=>rfl | exact bd2 λ_ _ _ _ _ _ _ _=>rfl | exact bd3 λ_ _ _ _ _ _ _ _ _=>rfl | exact bd4 λ_ _ _ _ _ _ _ _ _ _=>rfl | exact bd5 λ_ _ _ _ _ _ _ _ _ _ _=>rfl):ui P w K mg base n k F:=by
 obtain⟨lk⟩:=d.x;have Fn:=yJ lk d.e d.k;exact ui.mk' Fn (ok _ Fn) (PySem.W.mg_of X G d.a) (Fn.binds hb)
end
def H_:D2:=λd e S k=>∃ ys:List D,e=.tup [.non,.tup ys]/\((d=.non/\k (.bl false) S)\/∃ xs b,d=.tup xs/\jQ 7 (.tup ys) (.tup xs)=some b/\k (.bl (!b)) S)
theorem D4 {X:Cx} {n:Nat} (hr:ce n X.A):fW X (compareOp .NotIn) (jL X.K H_):=by
 intro pins s σ H x y v u Q I rx ry h;obtain⟨d,e,S,k,i1,i2,hS,⟨ys,rfl,h⟩,m⟩:=h;obtain⟨a,zs,rfl,t2,j2⟩:=cy.mp i2;cases ry;obtain⟨its,rv,pl,hz⟩:=I.tuple t2;obtain⟨v1,v2,rfl,j3,j4⟩:=uP j2;have e1:=cW.mp j3;subst e1;obtain⟨b,vs,rfl,t3,j5⟩:=cy.mp j4;have hu:=hr.units;have un:X.A.in1.units+7 < cLine:=by
  have:X.A.in1.units<=X.A.units+1:=by first | exact P3 _ | (show X.A.units+1<=X.A.units+1; exact P3 _) | (unfold Around.in1; simp)
  omega
 have un0:X.A.in1.units < cLine:=by omega
 cases rv with
 | cons a1 r1=>
 cases r1 with
 | cons a2 r2=>
 cases r2;cases a1;cases a2;rcases h with ⟨rfl,r⟩ | ⟨xs,bb,rfl,eq,r⟩
 ·have e:=cW.mp i1;subst e;cases rx;obtain⟨its3,_,pl3,_⟩:=I.tuple t3;refine SeqAt.notIn_tupleAt (λw=>match w with | .none=>true | _=>false) pl (λw hw=>?_) ⟨.bl _,H,I,rfl,?_⟩
  ·have hw:w=.none\/w=.ref b:=by simpa using hw
   rcases hw with rfl | rfl
   ·exact SeqAt.EqAt.same _
   ·exact SeqAt.EqAt.tuple_none pl3 un0
  ·have e:(#[Value.none,Value.ref b].any λw=>match w with | .none=>true | _=>false)=true:=by simp
   rw [show [Value.none,Value.ref b].toArray=#[Value.none,Value.ref b] from rfl,e]
   exact og m hS r (ck.mpr rfl)
 ·obtain⟨c,us,rfl,t4,j6⟩:=cy.mp i1;cases rx;obtain⟨its4,_,pl4,_⟩:=I.tuple t4;refine SeqAt.notIn_tupleAt (λw=>match w with | .none=>false | _=>bb) pl (λw hw=>?_) ⟨.bl _,H,I,rfl,?_⟩
  ·have hw:w=.none\/w=.ref b:=by simpa using hw
   rcases hw with rfl | rfl
   ·exact SeqAt.EqAt.none_tuple pl4 un0
   ·exact(qt I 7 X.A.in1 (.tup ys) (.tup xs) (.ref b) (.ref c) (.ref b) (.ref c) bb un eq j4 i1 rfl rfl).1
  ·have e:(#[Value.none,Value.ref b].any λw=>match w with | .none=>false | _=>bb)=bb:=by simp
   rw [show [Value.none,Value.ref b].toArray=#[Value.none,Value.ref b] from rfl,e]
   exact og m hS r (ck.mpr rfl)
end DL
namespace My
variable {P:Program} {w:World} {K:Fg} {mg:Str->Option Value} {base:Heap} {f:Addr} {fd:FuncData}
open PySem PySem.Spec PyProof.Rows L2 DL HM
set_option maxHeartbeats 4000000
def cB (i : Nat) : Stmt := PySem.Challenge.pw_hingedraw_k86_whole_pens_run_on_lines.main.body.getD i (.Pass ⟨0, 0, 0, 0⟩)
abbrev gG:Stmt:=cB 9
abbrev vR:Stmt:=cB 10
abbrev yS:Stmt:=cB 11
abbrev wu:Stmt:=cB 12
abbrev we:Stmt:=cB 13
abbrev zk:Stmt:=cB 14
abbrev oz:Stmt:=cB 15
abbrev i4:Stmt:=cB 16
abbrev kd:Stmt:=cB 17
abbrev dF:Stmt:=cB 18
abbrev qb:Stmt:=cB 19
abbrev nV:Stmt:=cB 21
abbrev iX:Stmt:=cB 22
abbrev ze:Stmt:=cB 23
abbrev ko:Stmt:=cB 25
abbrev vV:Stmt:=cB 26
abbrev rJ:Stmt:=cB 27
abbrev iq:Stmt:=cB 28
abbrev lZ:Stmt:=cB 29
abbrev km:Stmt:=cB 30
abbrev kY:Stmt:=cB 31
abbrev pP:Stmt:=cB 32
abbrev lO:Stmt:=cB 33
abbrev lC:Stmt:=cB 34
abbrev lJ:Stmt:=cB 24
abbrev ib:Stmt:=cB 38
abbrev jx:Stmt:=cB 39
abbrev gZ:Stmt:=cB 40
abbrev iY:Stmt:=cB 41
abbrev jH:Stmt:=cB 36
abbrev n_:Stmt:=cB 37
abbrev lB:Stmt:=cB 42
abbrev fy:Stmt:=cB 43
abbrev vE:Stmt:=cB 44
abbrev il:Stmt:=cB 45
abbrev kF:Stmt:=cB 46
abbrev dw:Stmt:=cB 47
abbrev fL:Stmt:=cB 50
abbrev fV:Stmt:=cB 51
abbrev ii:Stmt:=cB 52
abbrev lD:Stmt:=cB 53
abbrev gD:Stmt:=cB 54
abbrev tj:Stmt:=cB 55
abbrev lA:Stmt:=cB 63
abbrev lV:Stmt:=cB 56
abbrev kE:Stmt:=cB 68
abbrev lT:Stmt:=cB 69
abbrev w6:Stmt:=cB 70
abbrev mP:Stmt:=cB 71
abbrev ku:Stmt:=cB 57
abbrev kf:Stmt:=cB 58
abbrev lL:Stmt:=cB 59
abbrev jE:Stmt:=cB 60
abbrev mw:Stmt:=cB 61
abbrev n6:Stmt:=cB 62
abbrev j_:Stmt:=cB 52
abbrev nE:Stmt:=cB 57
abbrev lU:Stmt:=cB 81
abbrev lP:Stmt:=cB 74
abbrev nY:Stmt:=cB 75
abbrev mT:Stmt:=cB 76
abbrev iQ:Stmt:=cB 77
abbrev ju:Stmt:=cB 73
abbrev rK:Stmt:=cB 85
abbrev oC:Stmt:=cB 59
abbrev jK:Stmt:=cB 78
abbrev gq:Stmt:=cB 79
abbrev eI:Stmt:=cB 80
abbrev zM:Stmt:=cB 86
abbrev oh:Stmt:=cB 82
abbrev EC:Stmt:=cB 87
abbrev iZ:Stmt:=cB 89
abbrev kN:Stmt:=cB 90
abbrev mz:Stmt:=cB 91
abbrev iN:Stmt:=cB 92
abbrev kP:Stmt:=cB 93
abbrev kQ:Stmt:=cB 96
abbrev kI:Stmt:=cB 98
abbrev md:Stmt:=cB 94
abbrev kM:Stmt:=cB 95
abbrev kG:Stmt:=cB 100
abbrev fg:Stmt:=cB 101
abbrev ki:Stmt:=cB 99
abbrev fP:Stmt:=cB 48
abbrev jo:Stmt:=cB 65
abbrev eE:Stmt:=cB 66
abbrev jw:Stmt:=cB 67
abbrev gW:Stmt:=cB 102
abbrev gh:Stmt:=cB 104
abbrev mF:Stmt:=cB 103
abbrev EL:Stmt:=cB 105
theorem wa:bootBuiltins "abs"=some (.builtin "abs"):=by decide +kernel
theorem wC:bootBuiltins "max"=some (.builtin "max"):=by decide +kernel
theorem qe:bootBuiltins "len"=some (.builtin "len"):=by decide +kernel
theorem Bi:bootBuiltins "sorted"=some (.builtin "sorted"):=by decide +kernel
theorem J4:bootBuiltins "set"=some (.type "set"):=by decide +kernel
theorem GQ:bootBuiltins "dict"=some (.type "dict"):=by decide +kernel
theorem Ds:bootBuiltins "range"=some (.type "range"):=by decide +kernel
theorem JB:bootBuiltins "min"=some (.builtin "min"):=by decide +kernel
theorem y6 {y:Int} {A B:Prop} (h1:y≠0->A) (h2:y=0->B):if (!decide (y=0))=true then A else B:=by
 by_cases h:y=0
 ·rw [if_neg (by simp [h])]; exact h2 h
 ·rw [if_pos (by simp [h])]; exact h1 h
theorem aU {p:Prop} [Decidable p] {A B:Prop} (h1:p->A) (h2:¬ p->B):if decide p=true then A else B:=by
 by_cases h:p
 ·rw [if_pos (by simp [h])]; exact h1 h
 ·rw [if_neg (by simp [h])]; exact h2 h
theorem jU {p:Prop} [Decidable p] {A B:Prop} (h1:¬ p->A) (h2:p->B):if (!decide p)=true then A else B:=by
 by_cases h:p
 ·rw [if_neg (by simp [h])]; exact h2 h
 ·rw [if_pos (by simp [h])]; exact h1 h
theorem xy {c:Bool} {A B:Prop} (h1:c=true->A) (h2:c=false->B):if c=true then A else B:=by
 cases c
 ·exact Ej (h2 rfl)
 ·exact LZ (h1 rfl)
theorem mK {c:Bool} {A B:Prop} (h1:c=false->A) (h2:c=true->B):if (!c)=true then A else B:=by
 cases c
 ·exact LZ (h1 rfl)
 ·exact Ej (h2 rfl)
theorem AQ {ds:List D} {i:Int} (h0:0<=i) (h1:i < (ds.length:Int)):∃ d,L2.atI ds i=some d/\d∈ds:=by
 obtain⟨n,rfl⟩:=Int.eq_ofNat_of_zero_le h0;have hn:n < ds.length:=by omega
 exact⟨ds[n],rq (by simp [hn]),Q9 hn⟩
theorem xw {ok:DH->Prop} {g:DG} {b:DS} {M:nH} {P:D->Prop} (Iv:Lo->DH->Prop) (hok:∀ L S,Iv L S->ok S)
  (hs:∀ d L S N,P d->Iv L S->(∀ L' S',Iv L' S'->N L' S')->g d L S λL1 S1=>b {M with nx:=N,ct:=N,bk:=M.nx} L1 S1) (hd:∀ L S,Iv L S->M.nx L S):∀ r,(∀ d∈r,P d)->∀ L S,Iv L S->ja ok g b M r L S
 | [],_,L,S,i=>⟨hok L S i,hd L S i⟩
 | d::r,hp,L,S,i=>⟨hok L S i,hs d L S _ (hp d P_) i λL' S' i'=>xw Iv hok hs hd r (λe he=>hp e (Qa _ he)) L' S' i'⟩
instance {n:Nat} {x:Int}:Decidable (Bt n x):=inferInstanceAs (Decidable (x.natAbs < 2 ^ n))
theorem eS {S:DH} {p a:Addr} {o u:DO} (hp:S p=none) (h:S a=some u):put S p o a=some u:=by rw [cQ (tm h hp)]; exact h
theorem few {ds:List D} (h:Nat.ble ds.length sizeLine=true:=by rfl):ds.length<=sizeLine:=Qi h
def vK (S:DH) (a:Addr):Prop:=∃ n b,S a=some (.lst [.int n,.bl b])/\(b=false->0<=n/\n < 2147483647)
def Dr (a:Addr) (S S':DH):Prop:=vK S' a/\∀ b o,b≠a->S b=some o->S' b=some o
theorem Dr.trans {a:Addr} {S S1 S2:DH} (h1:Dr a S S1) (h2:Dr a S1 S2):Dr a S S2:=⟨h2.1,λb o n e=>h2.2 b o n (h1.2 b o n e)⟩
theorem vK.ne {a p:Addr} {S:DH} (h:vK S a) (hp:S p=none):p≠a:=by
 obtain⟨n,b,e,_⟩:=h;intro z;subst z;rw [e] at hp;cases hp
theorem vK.new {a p:Addr} {S:DH} {o:DO} (h:vK S a) (hp:S p=none):vK (put S p o) a:=by
 have z:=h.ne hp;obtain⟨n,b,e,q⟩:=h;exact⟨n,b,by rw [cQ (Ne.symm z)]; exact e,q⟩
theorem Dr.new {a p:Addr} {S:DH} {o:DO} (h:vK S a) (hp:S p=none):Dr a S (put S p o):=
 ⟨h.new hp,λb u n e=>by rw [cQ (tm e hp)]; exact e⟩
theorem BE {x:Int} (h1:0<=x) (h2:x < 2147483648):Bt 31 x:=by
 unfold Bt;omega
def N (u a b:Rat):D:=.tup [fr a,fr (ss b*u)]
structure Fd (u:Rat):Prop where
 pos:0 < u
 no:lf u
 sz:Sz 2800 u
structure Sm (n:Nat) (a b:Rat):Prop where
 a:Sz n a
 b:Sz n b
theorem Sm.mono {m n:Nat} {a b:Rat} (h:Sm m a b) (hm:m<=n):Sm n a b:=⟨h.a.mono hm,h.b.mono hm⟩
theorem Sm.sub {m n:Nat} {a b c d:Rat} (h:Sm m a b) (h':Sm n c d):Sm (m+n+1) (a - c) (b - d):=⟨h.a.sub h'.a,h.b.sub h'.b⟩
theorem Sm.neg {m:Nat} {a b:Rat} (h:Sm m a b):Sm m (-a) (-b):=⟨h.a.neg,h.b.neg⟩
theorem Sm.mul {m n:Nat} {a b c d u:Rat} (hu:Fd u) (h:Sm m a b) (h':Sm n c d):Sm (2*(m+n)+2810) (a*c+b*d*u) (a*d+b*c):=
 ⟨((h.a.mul h'.a).add ((h.b.mul h'.b).mul hu.sz)).mono (by omega),((h.a.mul h'.b).add (h.b.mul h'.a)).mono (by omega)⟩
theorem JN {q:Rat}:D.tup [.int (-q.num),.int (q.den:Int)]=fr (-q):=by
 show _=D.tup [.int (-q).num,.int ((-q).den:Int)]
 rw [Rat.neg_num,Rat.neg_den]
theorem Mo {q:Rat}:D.tup [.int (if q.num < 0 then -q.num else q.num),.int (q.den:Int)]=fr (ab q):=by
 show _=D.tup [.int (ab q).num,.int ((ab q).den:Int)]
 rw [J2,KI]
theorem DV {n:Nat} {t b:Int} (h:b≠0) (hb:Bt n b):Bt n ((Int.gcd t b:Nat):Int):=by
 refine hb.le ?_;have h1:Int.gcd t b ∣ b.natAbs:=by
  have:=Int.gcd_dvd_right t b;exact(by have:=QU.mpr this; simpa using this)
 have:=Nat.le_of_dvd (by omega) h1
 omega
def bO:bC:=λds S k=>match ds with
 | [.int a,.int b]=>k (.int ((Int.gcd a b:Nat):Int)) S
 | _=>False
theorem dG:ao ["one","other","rest"] ["one","other"] (am gG):=cA
theorem oF (Fn:bL K "common_divisor" "common_divisor" gG f fd) (nM:mg "abs"=none):
  aI P w K mg base ca 1 f fd ["one","other"] (cg K bO):=by
 refine Fn.okJ dG (λds S k h=>?_) (λcdv A outer s H E hr=>⟨_,(af (kK PassesOwn.never (ax Jv (ac 1) ae (aF _)) (af (ai (i:=2) dG.nd (ar pi (ac 0) (ac 1))) (af (ai (i:=0) dG.nd (ac 1)) (aj (ai (i:=1) dG.nd (ac 2)))))) (aj (ak (cI AY rfl nM wa (aa (ac 0) ad))))),λds S k h=>?_⟩)
 ·unfold bO at h
  split at h
  ·rfl
  ·exact h.elim
 ·unfold bO at h
  split at h
  ·rename_i a b
   refine⟨λm L S'=>S'=S/\∃ x y r,L=[some (.int x),some (.int y),r]/\m=y.natAbs/\Int.gcd x y=Int.gcd a b,⟨_,rfl,a,b,_,rfl,rfl,rfl⟩,?_⟩
   rintro m L S' ⟨rfl,x,y,r,rfl,rfl,e⟩;refine y6 (λhy=>⟨λL' S''=>∃ m',m' < y.natAbs/\S''=S'/\∃ x y r,L'=[some (.int x),some (.int y),r]/\m'=y.natAbs/\Int.gcd x y=Int.gcd a b,λ_ _ z=>z,hy,?_⟩) (λhy=>?_)
   ·exact⟨_,Ap x y hy,rfl,y,x.fmod y,_,rfl,rfl,(xU x y).trans e⟩
   ·subst hy;have e2:=xA x;rw [e] at e2
    show k (.int (if x < 0 then -x else x)) S'
    rw [<- e2];exact h
  ·exact h.elim
def gO:bC:=λds S k=>match ds with
 | [.int t,.int b]=>b≠0/\Bt 60000000 b/\k (fr (Rat.divInt t b)) S
 | _=>False
theorem oM {S:DH} {k:DK} {t b:Int} {q:Rat} (e:Rat.divInt t b=q) (h0:b≠0) (hb:Bt 60000000 b) (h:k (fr q) S):gO [.int t,.int b] S k:=by subst e; exact⟨h0,hb,h⟩
theorem tN:ao ["top","bottom","shared"] ["top","bottom"] (am vR):=cA
theorem CZ (Fn:bL K "ratio" "ratio" vR f fd) (bh:aE P w K mg base "common_divisor" 1 bO) (hBl:qL mg base) (hTr:P.given.tree=none):
  aI P w K mg base ca 34 f fd ["top","bottom"] (cg K gO):=by
 refine Fn.okJ tN (λds S k h=>?_) (λcdv A outer s H E hr=>⟨_,(af (aC (ax nA (ac 1) ae (aF _)) (aj dj) aG) (af (ai (i:=2) tN.nd (dq bh hr (aa (ac 0) (aa (ac 1) ad)))) (af (aC (ax uG (ac 1) ae (aF _)) (aj (ai (i:=2) tN.nd (lQ lM (ac 2)))) aG) (aj (ak (au (aa (ar (lR hr hBl hTr rfl rfl rfl (by decide)) (ac 0) (ac 2)) (aa (ar (lR hr hBl hTr rfl rfl rfl (by decide)) (ac 1) (ac 2)) ad)))))))),λds S k h=>?_⟩)
 ·unfold gO at h
  split at h
  ·rfl
  ·exact h.elim
 ·unfold gO at h
  split at h
  ·rename_i t b
   obtain⟨h0,hb,q⟩:=h;have hg:=DV (t:=t) h0 hb;have hs:=Ey (t:=t) h0;have e1:=vH (t:=t) h0;have e2:=vX (t:=t) h0;have qq:k (.tup [.int (t.fdiv (CB t b)),.int (b.fdiv (CB t b))]) S:=by rw [e1,e2]; exact q
   unfold CB at qq hs
   refine aU (λz=>absurd z h0) (λ_=>aU (λhl=>?_) (λhl=>?_))
   ·rw [if_pos hl] at qq hs
    exact⟨hs,hs,few,qq⟩
   ·rw [if_neg hl] at qq hs
    exact⟨hs,hs,few,qq⟩
  ·exact h.elim
def fR:bC:=λds S k=>∃ p q:Rat,ds=[fr p,fr q]/\Sz 20000000 p/\Sz 20000000 q/\k (fr (p+q)) S
theorem G9:ao ["one","other"] ["one","other"] (am yS):=cA
theorem HQ (Fn:bL K "plus" "plus" yS f fd) (cZ:aE P w K mg base "ratio" 34 gO):
  aI P w K mg base ca 35 f fd ["one","other"] (cg K fR):=by
 refine Fn.okJ G9 (λds S k h=>?_) (λcdv A outer s H E hr=>⟨_,(aj (ak (dq cZ hr (aa (ar cX (ar aM (ah ag (ac 0) ae (λ_ _=>rfl)) (ah ag (ac 1) ae (λ_ _=>rfl))) (ar aM (ah ag (ac 1) ae (λ_ _=>rfl)) (ah ag (ac 0) ae (λ_ _=>rfl)))) (aa (ar aM (ah ag (ac 0) ae (λ_ _=>rfl)) (ah ag (ac 1) ae (λ_ _=>rfl))) ad))))),λds S k h=>?_⟩)
 ·obtain⟨_,_,rfl,_⟩:=h
  rfl
 ·obtain⟨p,q,rfl,hp,hq,w⟩:=h;exact⟨dy hp.num hq.den,dy hq.num hp.den,dy hp.den hq.den,oM (wZ p q) (bG p q) ((hp.den.mul hq.den).mono (by decide)) w⟩
def gJ:bC:=λds S k=>∃ p q:Rat,ds=[fr p,fr q]/\Sz 20000000 p/\Sz 20000000 q/\k (fr (p - q)) S
theorem EB:ao ["one","other"] ["one","other"] (am wu):=cA
theorem Er (Fn:bL K "minus" "minus" wu f fd) (cZ:aE P w K mg base "ratio" 34 gO):
  aI P w K mg base ca 35 f fd ["one","other"] (cg K gJ):=by
 refine Fn.okJ EB (λds S k h=>?_) (λcdv A outer s H E hr=>⟨_,(aj (ak (dq cZ hr (aa (ar jZ (ar aM (ah ag (ac 0) ae (λ_ _=>rfl)) (ah ag (ac 1) ae (λ_ _=>rfl))) (ar aM (ah ag (ac 1) ae (λ_ _=>rfl)) (ah ag (ac 0) ae (λ_ _=>rfl)))) (aa (ar aM (ah ag (ac 0) ae (λ_ _=>rfl)) (ah ag (ac 1) ae (λ_ _=>rfl))) ad))))),λds S k h=>?_⟩)
 ·obtain⟨_,_,rfl,_⟩:=h
  rfl
 ·obtain⟨p,q,rfl,hp,hq,w⟩:=h;exact⟨dy hp.num hq.den,dy hq.num hp.den,dy hp.den hq.den,oM (zx p q) (bG p q) ((hp.den.mul hq.den).mono (by decide)) w⟩
def dU:bC:=λds S k=>∃ p q:Rat,ds=[fr p,fr q]/\Sz 20000000 p/\Sz 20000000 q/\k (fr (p*q)) S
theorem E3:ao ["one","other"] ["one","other"] (am we):=cA
theorem Ea (Fn:bL K "times" "times" we f fd) (cZ:aE P w K mg base "ratio" 34 gO):
  aI P w K mg base ca 35 f fd ["one","other"] (cg K dU):=by
 refine Fn.okJ E3 (λds S k h=>?_) (λcdv A outer s H E hr=>⟨_,(aj (ak (dq cZ hr (aa (ar aM (ah ag (ac 0) ae (λ_ _=>rfl)) (ah ag (ac 1) ae (λ_ _=>rfl))) (aa (ar aM (ah ag (ac 0) ae (λ_ _=>rfl)) (ah ag (ac 1) ae (λ_ _=>rfl))) ad))))),λds S k h=>?_⟩)
 ·obtain⟨_,_,rfl,_⟩:=h
  rfl
 ·obtain⟨p,q,rfl,hp,hq,w⟩:=h;exact⟨dy hp.num hq.num,dy hp.den hq.den,oM (w_ p q) (bG p q) ((hp.den.mul hq.den).mono (by decide)) w⟩
def fB:bC:=λds S k=>∃ p q:Rat,ds=[fr p,fr q]/\q≠0/\Sz 20000000 p/\Sz 20000000 q/\k (fr (p / q)) S
theorem Gs:ao ["one","other"] ["one","other"] (am zk):=cA
theorem GG (Fn:bL K "over" "over" zk f fd) (cZ:aE P w K mg base "ratio" 34 gO):
  aI P w K mg base ca 35 f fd ["one","other"] (cg K fB):=by
 refine Fn.okJ Gs (λds S k h=>?_) (λcdv A outer s H E hr=>⟨_,(aj (ak (dq cZ hr (aa (ar aM (ah ag (ac 0) ae (λ_ _=>rfl)) (ah ag (ac 1) ae (λ_ _=>rfl))) (aa (ar aM (ah ag (ac 0) ae (λ_ _=>rfl)) (ah ag (ac 1) ae (λ_ _=>rfl))) ad))))),λds S k h=>?_⟩)
 ·obtain⟨_,_,rfl,_⟩:=h
  rfl
 ·obtain⟨p,q,rfl,h0,hp,hq,w⟩:=h;exact⟨dy hp.num hq.den,dy hp.den hq.num,oM (Dv p q) (Int.mul_ne_zero (gu p) (sH h0)) ((hp.den.mul hq.num).mono (by decide)) w⟩
def cV:bC:=λds S k=>∃ q:Rat,ds=[fr q]/\k (fr (-q)) S
theorem yq:ao ["one"] ["one"] (am oz):=cA
theorem yw (Fn:bL K "negative" "negative" oz f fd):
  aI P w K mg base ca 1 f fd ["one"] (cg K cV):=by
 refine Fn.okJ yq (λds S k h=>?_) (λcdv A outer s H E hr=>⟨_,(aj (ak (au (aa (lQ lM (ah ag (ac 0) ae (λ_ _=>rfl))) (aa (ah ag (ac 0) ae (λ_ _=>rfl)) ad))))),λds S k h=>?_⟩)
 ·obtain⟨_,rfl,_⟩:=h
  rfl
 ·obtain⟨q,rfl,w⟩:=h;rw [<- JN] at w;exact⟨few,w⟩
def cw:bC:=λds S k=>∃ q:Rat,ds=[fr q]/\k (fr (ab q)) S
theorem qK:ao ["one"] ["one"] (am i4):=cA
theorem qG (Fn:bL K "without_sign" "without_sign" i4 f fd) (nM:mg "abs"=none):
  aI P w K mg base ca 1 f fd ["one"] (cg K cw):=by
 refine Fn.okJ qK (λds S k h=>?_) (λcdv A outer s H E hr=>⟨_,(aj (ak (au (aa (cI AY rfl nM wa (aa (ah ag (ac 0) ae (λ_ _=>rfl)) ad)) (aa (ah ag (ac 0) ae (λ_ _=>rfl)) ad))))),λds S k h=>?_⟩)
 ·obtain⟨_,rfl,_⟩:=h
  rfl
 ·obtain⟨q,rfl,w⟩:=h;rw [<- Mo] at w;exact⟨few,w⟩
set_option maxHeartbeats 4000000
structure Gu (n g:Int):Prop where
 pos:0 < g
 ge:jP n<=g
theorem Gu.next {n g:Int} (h0:1<=n) (h:Gu n g) (hl:(g+n.fdiv g).fdiv 2 < g):Gu n ((g+n.fdiv g).fdiv 2):=by
 have rt:=lv (n:=n) (by omega)
 have r1:1<=jP n:=rt.le_of (by omega)
 rw [oP _ (by decide),oP _ h.pos] at hl ⊢
 have h1:=Bf h.pos rt.nn rt.le;exact⟨by omega,h1⟩
theorem Gu.last {n g:Int} (h0:1<=n) (h:Gu n g) (hl:¬ (g+n.fdiv g).fdiv 2 < g):g=jP n:=by
 have rt:=lv (n:=n) (by omega)
 rw [oP _ (by decide),oP _ h.pos] at hl
 have h1:=h.ge;rcases Int.lt_or_le (jP n) g with h2 | h2
 ·exact absurd (BO (by omega) rt h2) hl
 ·omega
theorem Gu.first {n:Int} {b:Nat} (h0:1<=n) (hn:n.natAbs < 2 ^ b):Gu n ((1:Int)*2 ^ ((((b:Nat):Int)+1).fdiv 2).toNat):=by
 have e:((((b:Nat):Int)+1).fdiv 2).toNat=(b+1) / 2:=by rw [oP _ (by decide)]; omega
 rw [e,Int.one_mul];have hp:(0:Int) < 2 ^ ((b+1) / 2):=Int.pow_pos (by decide)
 have rt:=lv (n:=n) (by omega)
 refine⟨hp,?_⟩;apply Int.not_lt.mp;intro hl;have h1:=pk (Int.le_of_lt hp) (Int.le_of_lt hl);have h2:=rt.le;have h3:(2:Int) ^ ((b+1) / 2)*2 ^ ((b+1) / 2)=2 ^ ((b+1) / 2+(b+1) / 2):=(Int.pow_add _ _ _).symm;have h4:2 ^ b<=2 ^ ((b+1) / 2+(b+1) / 2):=sS (by omega)
 have h5:((2 ^ ((b+1) / 2+(b+1) / 2):Nat):Int)=(2:Int) ^ ((b+1) / 2+(b+1) / 2):=by rw [Int.natCast_pow]; rfl
 have h6:((2 ^ b:Nat):Int)<=((2 ^ ((b+1) / 2+(b+1) / 2):Nat):Int):=Int.ofNat_le.mpr h4;have h7:(n.natAbs:Int) < ((2 ^ b:Nat):Int):=Int.ofNat_lt.mpr hn;rw [h3] at h1;rw [h5] at h6;omega
def kr:bC:=λds S k=>∃ n:Int,ds=[.int n]/\0<=n/\Bt 1600000 n/\k (.int (jP n)) S
theorem eO:ao ["number","guess","better"] ["number"] (am kd):=cA
theorem uE (Fn:bL K "whole_root" "whole_root" kd f fd) (hBl:qL mg base) (hTr:P.given.tree=none):
  aI P w K mg base ca 34 f fd ["number"] (cg K kr):=by
 refine Fn.okJ eO (λds S k h=>?_) (λcdv A outer s H E hr=>⟨_,(af (aC (ax nA (ac 0) ae (aF _)) (aj (ak ae)) aG) (af (ai (i:=1) eO.nd (ar LE ae (ar (lR hr hBl hTr rfl rfl rfl (by decide)) (ar cX (Hz (ac 0)) ae) ae))) (af (ai (i:=2) eO.nd (ar (lR hr hBl hTr rfl rfl rfl (by decide)) (ar cX (ac 1) (ar (lR hr hBl hTr rfl rfl rfl (by decide)) (ac 0) (ac 1))) ae)) (af (kK PassesOwn.never (ax uG (ac 2) (ac 1) (aF _)) (af (ai (i:=1) eO.nd (ac 2)) (aj (ai (i:=2) eO.nd (ar (lR hr hBl hTr rfl rfl rfl (by decide)) (ar cX (ac 1) (ar (lR hr hBl hTr rfl rfl rfl (by decide)) (ac 0) (ac 1))) ae))))) (aj (ak (ac 1))))))),λds S k h=>?_⟩)
 ·obtain⟨_,rfl,_⟩:=h
  rfl
 ·obtain⟨n,rfl,h0,hb,q⟩:=h;refine aU (λe=>?_) (λe=>?_)
  ·subst e;rw [EI] at q;exact q
  ·have hbits:Builtin.Int.intBits n<=1600000:=intBits_le_iff.mpr hb;have h1:1<=n:=by omega
   have hn:n.natAbs < 2 ^ Builtin.Int.intBits n:=intBits_le_iff.mp (P3 _);have G:=Gu.first h1 hn;have hc:BB 1 ((((Builtin.Int.intBits n:Nat):Int)+1).fdiv 2):=by
    have e2:=oP (((Builtin.Int.intBits n:Nat):Int)+1) (b:=2) (by decide)
    exact⟨by rw [e2]; omega,by rw [e2]; omega,by decide⟩
   have two:(2:Int)≠0:=by decide
   have dv:∀ g:Int,Gu n g->g≠0:=λg G=>by have:=G.pos; omega
   refine⟨two,hc,dv _ G,two,λm L S'=>S'=S/\∃ g,L=[some (.int n),some (.int g),some (.int ((g+n.fdiv g).fdiv 2))]/\m=g.toNat/\Gu n g,⟨_,rfl,_,rfl,rfl,G⟩,?_⟩
   rintro m L S' ⟨rfl,g,rfl,rfl,G⟩;refine aU (λhl=>⟨λL' S''=>∃ m',m' < g.toNat/\S''=S'/\∃ g,L'=[some (.int n),some (.int g),some (.int ((g+n.fdiv g).fdiv 2))]/\m'=g.toNat/\Gu n g,λ_ _ z=>z,dv _ (G.next h1 hl),two,?_⟩) (λhl=>?_)
   ·have G2:=G.next h1 hl;exact⟨_,by have:=G2.pos; have:=G.pos; omega,rfl,_,rfl,rfl,G2⟩
   ·rw [<- G.last h1 hl] at q;exact q
def Ir (n:Int):D:=if jP n*jP n=n then .int (jP n) else .non
def dE:bC:=λds S k=>∃ n:Int,ds=[.int n]/\0<=n/\Bt 1600000 n/\k (Ir n) S
theorem fM:ao ["number","root"] ["number"] (am dF):=cA
theorem kJ (Fn:bL K "square_root_or_none" "square_root_or_none" dF f fd) (kW:aE P w K mg base "whole_root" 34 kr):
  aI P w K mg base ca 35 f fd ["number"] (cg K dE):=by
 refine Fn.okJ fM (λds S k h=>?_) (λcdv A outer s H E hr=>⟨_,(af (ai (i:=1) fM.nd (dq kW hr (aa (ac 0) ad))) (aj (ak (uV (ax nA (ar aM (ac 1) (ac 1)) (ac 0) (aF _)) (ac 1) g_)))),λds S k h=>?_⟩)
 ·obtain⟨_,rfl,_⟩:=h
  rfl
 ·obtain⟨n,rfl,h0,hb,q⟩:=h;have b2:=JU h0 hb;refine⟨n,rfl,h0,hb,dy b2 b2,aU (λe=>?_) (λe=>?_)⟩
  ·rw [Ir,if_pos e] at q;exact q
  ·rw [Ir,if_neg e] at q;exact q
def j7:bC:=λds S k=>∃ q:Rat,ds=[fr q]/\0<=q/\Sz 1600000 q/\(∀ r,0<=r->r*r=q->k (fr r) S)/\(lf q->k .non S)
theorem ox:ao ["one","top","bottom"] ["one"] (am qb):=cA
theorem zT (Fn:bL K "root_in" "root_in" qb f fd) (cx:aE P w K mg base "square_root_or_none" 35 dE):
  aI P w K mg base ca 36 f fd ["one"] (cg K j7):=by
 refine Fn.okJ ox (λds S k h=>?_) (λcdv A outer s H E hr=>⟨_,(af (ai (i:=1) ox.nd (dq cx hr (aa (ah ag (ac 0) ae (λ_ _=>rfl)) ad))) (af (aC (ax FZ (ac 1) g_ (aF _)) (aj (ak g_)) aG) (af (ai (i:=2) ox.nd (dq cx hr (aa (ah ag (ac 0) ae (λ_ _=>rfl)) ad))) (af (aC (ax FZ (ac 2) g_ (aF _)) (aj (ak g_)) aG) (aj (ak (au (aa (ac 1) (aa (ac 2) ad))))))))),λds S k h=>?_⟩)
 ·obtain⟨_,rfl,_⟩:=h
  rfl
 ·obtain⟨q,rfl,h0,hs,h1,h2⟩:=h;have n0:=rQ h0
  by_cases e:jP q.num*jP q.num=q.num
  ·by_cases e2:jP (q.den:Int)*jP (q.den:Int)=(q.den:Int)
   ·obtain⟨r,r0,rr⟩:=zQ h0 e e2;obtain⟨e3,e4⟩:=nX r0 rr;have w:=h1 r r0 rr;refine⟨q.num,rfl,n0,hs.num,?_⟩;rw [show Ir q.num=.int (jP q.num) from if_pos e]
    refine⟨(q.den:Int),rfl,by omega,hs.den,?_⟩
    rw [show Ir (q.den:Int)=.int (jP (q.den:Int)) from if_pos e2,e3,e4]
    exact⟨few,w⟩
   ·refine⟨q.num,rfl,n0,hs.num,?_⟩;rw [show Ir q.num=.int (jP q.num) from if_pos e]
    refine⟨(q.den:Int),rfl,by omega,hs.den,?_⟩
    rw [show Ir (q.den:Int)=.non from if_neg e2]
    refine h2 λr rr=>e2 ?_
    have:=congrArg (λz:Rat=>(z.den:Int)) rr
    simp only [yA,Int.natCast_mul] at this;exact zV this
  ·refine⟨q.num,rfl,n0,hs.num,?_⟩;rw [show Ir q.num=.non from if_neg e]
   refine h2 λr rr=>e ?_
   have:=congrArg Rat.num rr;rw [rF] at this;exact zV this
def gj:bC:=λds S k=>∃ x q,ds=[.tup [x,fr q]]/\k (.bl (decide (q=0))) S
theorem xQ:ao ["one"] ["one"] (am nV):=cA
theorem yr (Fn:bL K "is_plain" "is_plain" nV f fd):
  aI P w K mg base ca 1 f fd ["one"] (cg K gj):=by
 refine Fn.okJ xQ (λds S k h=>?_) (λcdv A outer s H E hr=>⟨_,(aj (ak (wK nA (ah ag (ah ag (ac 0) ae (λ_ _=>rfl)) ae (λ_ _=>rfl)) ae (aF _)))),λds S k h=>?_⟩)
 ·obtain⟨_,_,rfl,_⟩:=h
  rfl
 ·obtain⟨x,q,rfl,w⟩:=h;have e:decide (q.num=0)=decide (q=0):=by
   by_cases h0:q=0
   ·subst h0; rfl
   ·rw [QV h0,QV (sH h0)]
  rw [<- e] at w;exact w
def da:bC:=λds S k=>∃ p q:Rat,ds=[fr p,fr q]/\k (fr (sg p q)) S
theorem ra:ao ["one","other"] ["one","other"] (am iX):=cA
theorem qT (Fn:bL K "with_sign_of" "with_sign_of" iX f fd) (aL:aE P w K mg base "negative" 1 cV):
  aI P w K mg base ca 2 f fd ["one","other"] (cg K da):=by
 refine Fn.okJ ra (λds S k h=>?_) (λcdv A outer s H E hr=>⟨_,(aj (ak (uV (ax uG (ah ag (ac 1) ae (λ_ _=>rfl)) ae (aF _)) (dq aL hr (aa (ac 0) ad)) (ac 0)))),λds S k h=>?_⟩)
 ·obtain⟨_,_,rfl,_⟩:=h
  rfl
 ·obtain⟨p,q,rfl,w⟩:=h;unfold sg at w;refine aU (λhn=>?_) (λhn=>?_)
  ·rw [if_pos ((de q).mp hn)] at w;exact⟨p,rfl,w⟩
  ·rw [if_neg (λz=>hn ((de q).mpr z))] at w
   exact w
set_option maxHeartbeats 4000000
theorem vo (n:Nat):n<=n*n:=by
 rcases Nat.eq_zero_or_pos n with h | h
 ·subst h; decide
 ·exact Nat.le_mul_of_pos_left n h
theorem _root_.HM.Sz.root {n:Nat} {q r:Rat} (h:Sz n q) (e:r*r=q):Sz n r:=by
 subst e;refine⟨h.num.le ?_,h.den.le ?_⟩
 ·rw [rF,Q1];exact vo _
 ·rw [yA];have:=vo r.den;omega
open Classical in
noncomputable def K2 (p q:Rat):D:=if h:∃ r,0<=r/\r*r=ab q then .tup [fr (p+sg h.choose q),fr 0] else .tup [fr p,fr q]
theorem Bh {r r' q:Rat} (h0:0<=r) (h1:0<=r') (e:r*r=q) (e':r'*r'=q):r=r':=by
 obtain⟨a1,a2⟩:=nX h0 e;obtain⟨b1,b2⟩:=nX h1 e';refine Rat.ext (a1.symm.trans b1) ?_;have:=a2.symm.trans b2;omega
theorem xF {p q r:Rat} (r0:0<=r) (rr:r*r=ab q):K2 p q=.tup [fr (p+sg r q),fr 0]:=by
 have h:∃ r,0<=r/\r*r=ab q:=⟨r,r0,rr⟩;unfold K2;rw [dif_pos h,Bh h.choose_spec.1 r0 h.choose_spec.2 rr]
theorem FR {p q:Rat} (no:lf (ab q)):K2 p q=.tup [fr p,fr q]:=by
 unfold K2;rw [dif_neg λ⟨r,_,e⟩=>no r e]
def wF:bC:=λds S k=>∃ p q:Rat,ds=[fr p,fr q]/\Sz 400000 p/\Sz 400000 q/\k (K2 p q) S
theorem AI:ao ["part","under","root"] ["part","under"] (am ze):=cA
theorem GV (Fn:bL K "made" "made" ze f fd) (dP:aE P w K mg base "root_in" 36 j7) (aN:aE P w K mg base "without_sign" 1 cw) (aT:aE P w K mg base "plus" 35 fR) (a8:aE P w K mg base "with_sign_of" 2 da) (a9:t5 K mg "NOUGHT" [0,1]):
  aI P w K mg base ca 37 f fd ["part","under"] (cg K wF):=by
 refine Fn.okJ AI (λds S k h=>?_) (λcdv A outer s H E hr=>⟨_,(af (ai (i:=2) AI.nd (dq dP hr (aa (dq aN hr (aa (ac 1) ad)) ad))) (af (aC (ax FZ (ac 2) g_ (aF _)) (aj (ak (au (aa (ac 0) (aa (ac 1) ad))))) aG) (aj (ak (au (aa (dq aT hr (aa (ac 0) (aa (dq a8 hr (aa (ac 2) (aa (ac 1) ad))) ad))) (aa (fZ a9 rfl) ad))))))),λds S k h=>?_⟩)
 ·obtain⟨_,_,rfl,_⟩:=h
  rfl
 ·obtain⟨p,q,rfl,hp,hq,w⟩:=h;refine⟨q,rfl,ab q,rfl,qw q,hq.ab.mono (by decide),λr r0 rr=>?_,λno=>⟨few,?_⟩⟩
  ·rw [xF r0 rr] at w;exact⟨r,q,rfl,p,sg r q,rfl,hp.mono (by decide),((hq.ab.root rr).sg).mono (by decide),few,w⟩
  ·rw [FR no] at w;exact w
def ef:bC:=λds S k=>∃ u a b c d:Rat,ds=[N u a b,N u c d]/\0 < u/\k (fr (pick b d*pick b d*u)) S
theorem ur:ao ["one","other"] ["one","other"] (am ko):=cA
theorem uk (Fn:bL K "field_base" "field_base" ko f fd) (aN:aE P w K mg base "without_sign" 1 cw) (bK:aE P w K mg base "is_plain" 1 gj):
  aI P w K mg base ca 2 f fd ["one","other"] (cg K ef):=by
 refine Fn.okJ ur (λds S k h=>?_) (λcdv A outer s H E hr=>⟨_,(aj (ak (dq aN hr (aa (uV (fb (dq bK hr (aa (ac 0) ad))) (ah ag (ac 1) ae (λ_ _=>rfl)) (ah ag (ac 0) ae (λ_ _=>rfl))) ad)))),λds S k h=>?_⟩)
 ·obtain⟨_,_,_,_,_,rfl,_⟩:=h
  rfl
 ·obtain⟨u,a,b,c,d,rfl,u0,w⟩:=h;refine⟨fr a,ss b*u,rfl,aU (λe=>⟨_,rfl,?_⟩) (λe=>⟨_,rfl,?_⟩)⟩
  ·have e2:b=0:=(m5 u0).mp e;rw [show pick b d=d from if_pos e2] at w
   rw [uI u0];exact w
  ·have e2:¬ b=0:=λz=>e ((m5 u0).mpr z)
   rw [show pick b d=b from if_neg e2] at w
   rw [uI u0];exact w
def mX:bC:=λds S k=>∃ u a b e:Rat,ds=[N u a b,fr (e*e*u)]/\0 < u/\(b=0\/e≠0)/\Sm 120000 b e/\Sz 2800 u/\k (fr (b / ab e)) S
theorem yn:ao ["one","base","root"] ["one","base"] (am vV):=cA
theorem Fb (Fn:bL K "share" "share" vV f fd) (bK:aE P w K mg base "is_plain" 1 gj) (dP:aE P w K mg base "root_in" 36 j7) (aY:aE P w K mg base "over" 35 fB) (aN:aE P w K mg base "without_sign" 1 cw) (a8:aE P w K mg base "with_sign_of" 2 da) (a9:t5 K mg "NOUGHT" [0,1]):
  aI P w K mg base ca 37 f fd ["one","base"] (cg K mX):=by
 refine Fn.okJ yn (λds S k h=>?_) (λcdv A outer s H E hr=>⟨_,(af (aC (fb (dq bK hr (aa (ac 0) ad))) (aj (ak (fZ a9 rfl))) aG) (af (ai (i:=2) yn.nd (dq dP hr (aa (dq aY hr (aa (dq aN hr (aa (ah ag (ac 0) ae (λ_ _=>rfl)) ad)) (aa (ac 1) ad))) ad))) (af (aC (ax FZ (ac 2) g_ (aF _)) (aj dj) aG) (aj (ak (dq a8 hr (aa (ac 2) (aa (ah ag (ac 0) ae (λ_ _=>rfl)) ad)))))))),λds S k h=>?_⟩)
 ·obtain⟨_,_,_,_,rfl,_⟩:=h
  rfl
 ·obtain⟨u,a,b,e,rfl,u0,hbe,hs,hu,w⟩:=h;refine⟨fr a,ss b*u,rfl,aU (λz=>?_) (λz=>?_)⟩
  ·have e2:b=0:=(m5 u0).mp z;subst e2;rw [show (0:Rat) / ab e=0 by grind] at w
   exact w
  ·have e2:¬ b=0:=λq=>z ((m5 u0).mpr q)
   have e0:e≠0:=hbe.resolve_left e2;have ne:e*e*u≠0:=by grind
   have ea:ab (ss b*u)=b*b*u:=uI u0;have s1:Sz 242800 (ab (ss b*u)):=(hs.a.ss.mul hu).ab;have s2:Sz 242800 (e*e*u):=(hs.b.mul hs.b).mul hu;have nn:0<=ab (ss b*u) / (e*e*u):=tE (qw _) (Qo (cP e) (Rat.le_of_lt u0));refine⟨_,rfl,ab (ss b*u),e*e*u,rfl,ne,s1.mono (by decide),s2.mono (by decide),_,rfl,nn,(s1.div s2 ne).mono (by decide),λr r0 rr=>?_,λno=>?_⟩
   ·rw [ea] at rr;have er:=zf u0 e0 r0 rr;subst er;refine⟨_,ss b*u,rfl,?_⟩;rw [En u0];exact w
   ·rw [ea] at no;exact absurd (xL u0 e0) (no _)
def l_:bC:=λds S k=>∃ a p c:Rat,ds=[fr a,fr p,fr c]/\Sz 760000 p/\Sz 400000 c/\k (.tup [fr a,fr (ss p*c)]) S
theorem uZ:ao ["part","portion","base","under"] ["part","portion","base"] (am rJ):=cA
theorem Bg (Fn:bL K "joined" "joined" rJ f fd) (aD:aE P w K mg base "times" 35 dU) (a8:aE P w K mg base "with_sign_of" 2 da):
  aI P w K mg base ca 36 f fd ["part","portion","base"] (cg K l_):=by
 refine Fn.okJ uZ (λds S k h=>?_) (λcdv A outer s H E hr=>⟨_,(af (ai (i:=3) uZ.nd (dq aD hr (aa (dq aD hr (aa (ac 1) (aa (ac 1) ad))) (aa (ac 2) ad)))) (aj (ak (au (aa (ac 0) (aa (dq a8 hr (aa (ac 3) (aa (ac 1) ad))) ad)))))),λds S k h=>?_⟩)
 ·obtain⟨_,_,_,rfl,_⟩:=h
  rfl
 ·obtain⟨a,p,c,rfl,hp,hc,w⟩:=h;refine⟨p,p,rfl,hp.mono (by decide),hp.mono (by decide),p*p,c,rfl,(hp.mul hp).mono (by decide),hc.mono (by decide),p*p*c,p,rfl,few,?_⟩
  rw [C5];exact w
def ie:bC:=λds S k=>∃ u a b:Rat,ds=[N u a b]/\k (N u (-a) (-b)) S
theorem pM:ao ["one"] ["one"] (am iq):=cA
theorem p5 (Fn:bL K "root_negative" "root_negative" iq f fd) (aL:aE P w K mg base "negative" 1 cV):
  aI P w K mg base ca 2 f fd ["one"] (cg K ie):=by
 refine Fn.okJ pM (λds S k h=>?_) (λcdv A outer s H E hr=>⟨_,(aj (ak (au (aa (dq aL hr (aa (ah ag (ac 0) ae (λ_ _=>rfl)) ad)) (aa (dq aL hr (aa (ah ag (ac 0) ae (λ_ _=>rfl)) ad)) ad))))),λds S k h=>?_⟩)
 ·obtain⟨_,_,_,rfl,_⟩:=h
  rfl
 ·obtain⟨u,a,b,rfl,w⟩:=h;refine⟨a,rfl,ss b*u,rfl,few,?_⟩;unfold N at w;rw [BV,show -ss b*u=-(ss b*u) by grind] at w
  exact w
def bs (u b d:Rat):Rat:=pick b d*pick b d*u
theorem IF {u b d:Rat} (hu:Fd u) (hb:Sz 120000 b) (hd:Sz 120000 d):Sz 242800 (bs u b d):=((hb.pick hd).mul (hb.pick hd)).mul hu.sz
theorem A1 {b d e:Rat} (hb:Sz 120000 b) (he:Sz 120000 e):Sz 240400 (b / ab e):=(hb.div' he.ab).mono (by decide)
def jf:bC:=λds S k=>∃ u a b c d:Rat,ds=[N u a b,N u c d]/\Fd u/\Sm 120000 a b/\Sm 120000 c d/\k (N u (a+c) (b+d)) S
theorem kl:ao ["one","other","base","portion"] ["one","other"] (am lZ):=cA
theorem xg (Fn:bL K "root_plus" "root_plus" lZ f fd) (bv:aE P w K mg base "field_base" 2 ef) (aT:aE P w K mg base "plus" 35 fR) (dI:aE P w K mg base "share" 37 mX) (fQ:aE P w K mg base "joined" 36 l_):
  aI P w K mg base ca 38 f fd ["one","other"] (cg K jf):=by
 refine Fn.okJ kl (λds S k h=>?_) (λcdv A outer s H E hr=>⟨_,(af (ai (i:=2) kl.nd (dq bv hr (aa (ac 0) (aa (ac 1) ad)))) (af (ai (i:=3) kl.nd (dq aT hr (aa (dq dI hr (aa (ac 0) (aa (ac 2) ad))) (aa (dq dI hr (aa (ac 1) (aa (ac 2) ad))) ad)))) (aj (ak (dq fQ hr (aa (dq aT hr (aa (ah ag (ac 0) ae (λ_ _=>rfl)) (aa (ah ag (ac 1) ae (λ_ _=>rfl)) ad))) (aa (ac 3) (aa (ac 2) ad)))))))),λds S k h=>?_⟩)
 ·obtain⟨_,_,_,_,_,rfl,_⟩:=h
  rfl
 ·obtain⟨u,a,b,c,d,rfl,hu,h1,h2,w⟩:=h;have hp:=h1.b.pick h2.b;have s1:=A1 (d:=d) h1.b hp;have s2:=A1 (d:=d) h2.b hp;refine⟨u,a,b,c,d,rfl,hu.pos,u,a,b,pick b d,rfl,hu.pos,yO,⟨h1.b,hp⟩,hu.sz,u,c,d,pick b d,rfl,hu.pos,yX,⟨h2.b,hp⟩,hu.sz,_,_,rfl,s1.mono (by decide),s2.mono (by decide),?_⟩
  refine⟨a,c,rfl,h1.a.mono (by decide),h2.a.mono (by decide),_,_,_,rfl,(s1.add s2).mono (by decide),(IF hu h1.b h2.b).mono (by decide),?_⟩
  rw [By];exact w
def iG:bC:=λds S k=>∃ u a b c d:Rat,ds=[N u a b,N u c d]/\Fd u/\Sm 120000 a b/\Sm 120000 c d/\k (N u (a - c) (b - d)) S
theorem uj:ao ["one","other"] ["one","other"] (am km):=cA
theorem uC (Fn:bL K "root_minus" "root_minus" km f fd) (fm:aE P w K mg base "root_plus" 38 jf) (gU:aE P w K mg base "root_negative" 2 ie):
  aI P w K mg base ca 39 f fd ["one","other"] (cg K iG):=by
 refine Fn.okJ uj (λds S k h=>?_) (λcdv A outer s H E hr=>⟨_,(aj (ak (dq fm hr (aa (ac 0) (aa (dq gU hr (aa (ac 1) ad)) ad))))),λds S k h=>?_⟩)
 ·obtain⟨_,_,_,_,_,rfl,_⟩:=h
  rfl
 ·obtain⟨u,a,b,c,d,rfl,hu,h1,h2,w⟩:=h;refine⟨u,c,d,rfl,u,a,b,-c,-d,rfl,hu,h1,h2.neg,?_⟩;rw [show a - c=a+-c by grind,show b - d=b+-d by grind] at w
  exact w
def kT:bC:=λds S k=>∃ u a b c d:Rat,ds=[N u a b,N u c d]/\Fd u/\Sm 120000 a b/\Sm 120000 c d/\k (N u (a*c+b*d*u) (a*d+b*c)) S
theorem dD:ao ["one","other","base","mine","theirs","part","portion"] ["one","other"] (am kY):=cA
theorem uq (Fn:bL K "root_times" "root_times" kY f fd) (bv:aE P w K mg base "field_base" 2 ef) (dI:aE P w K mg base "share" 37 mX) (aT:aE P w K mg base "plus" 35 fR) (aD:aE P w K mg base "times" 35 dU) (fQ:aE P w K mg base "joined" 36 l_):
  aI P w K mg base ca 38 f fd ["one","other"] (cg K kT):=by
 refine Fn.okJ dD (λds S k h=>?_) (λcdv A outer s H E hr=>⟨_,(af (ai (i:=2) dD.nd (dq bv hr (aa (ac 0) (aa (ac 1) ad)))) (af (ai (i:=3) dD.nd (dq dI hr (aa (ac 0) (aa (ac 2) ad)))) (af (ai (i:=4) dD.nd (dq dI hr (aa (ac 1) (aa (ac 2) ad)))) (af (ai (i:=5) dD.nd (dq aT hr (aa (dq aD hr (aa (ah ag (ac 0) ae (λ_ _=>rfl)) (aa (ah ag (ac 1) ae (λ_ _=>rfl)) ad))) (aa (dq aD hr (aa (dq aD hr (aa (ac 3) (aa (ac 4) ad))) (aa (ac 2) ad))) ad)))) (af (ai (i:=6) dD.nd (dq aT hr (aa (dq aD hr (aa (ah ag (ac 0) ae (λ_ _=>rfl)) (aa (ac 4) ad))) (aa (dq aD hr (aa (ah ag (ac 1) ae (λ_ _=>rfl)) (aa (ac 3) ad))) ad)))) (aj (ak (dq fQ hr (aa (ac 5) (aa (ac 6) (aa (ac 2) ad))))))))))),λds S k h=>?_⟩)
 ·obtain⟨_,_,_,_,_,rfl,_⟩:=h
  rfl
 ·obtain⟨u,a,b,c,d,rfl,hu,h1,h2,w⟩:=h;have hp:=h1.b.pick h2.b;have s1:=A1 (d:=d) h1.b hp;have s2:=A1 (d:=d) h2.b hp;have s3:=IF hu h1.b h2.b;refine⟨u,a,b,c,d,rfl,hu.pos,u,a,b,pick b d,rfl,hu.pos,yO,⟨h1.b,hp⟩,hu.sz,u,c,d,pick b d,rfl,hu.pos,yX,⟨h2.b,hp⟩,hu.sz,?_⟩;refine⟨a,c,rfl,h1.a.mono (by decide),h2.a.mono (by decide),_,_,rfl,s1.mono (by decide),s2.mono (by decide),_,_,rfl,(s1.mul s2).mono (by decide),s3.mono (by decide),_,_,rfl,(h1.a.mul h2.a).mono (by decide),((s1.mul s2).mul s3).mono (by decide),?_⟩
  refine⟨a,_,rfl,h1.a.mono (by decide),s2.mono (by decide),c,_,rfl,h2.a.mono (by decide),s1.mono (by decide),_,_,rfl,(h1.a.mul s2).mono (by decide),(h2.a.mul s1).mono (by decide),?_⟩
  refine⟨_,_,_,rfl,((h1.a.mul s2).add (h2.a.mul s1)).mono (by decide),s3.mono (by decide),?_⟩
  rw [yU,zU];exact w
set_option maxHeartbeats 4000000
def j8:bC:=λds S k=>match ds with
 | [.int i]=>k (.int (if i=0 then 0 else if i > 0 then 1 else -1)) S
 | _=>False
theorem y_:ao ["number"] ["number"] (am pP):=cA
theorem zK (Fn:bL K "sign_of" "sign_of" pP f fd):
  aI P w K mg base ca 1 f fd ["number"] (cg K j8):=by
 refine Fn.okJ y_ (λds S k h=>?_) (λcdv A outer s H E hr=>⟨_,(af (aC (ax nA (ac 0) ae (aF _)) (aj (ak ae)) aG) (aj (ak (uV (ax EG (ac 0) ae (aF _)) ae (lQ lM ae))))),λds S k h=>?_⟩)
 ·unfold j8 at h
  split at h
  ·rfl
  ·exact h.elim
 ·unfold j8 at h
  split at h
  ·rename_i i
   refine aU (λe=>?_) (λe=>aU (λe2=>?_) (λe2=>?_))
   ·rw [if_pos e] at h; exact h
   ·rw [if_neg e,if_pos e2] at h; exact h
   ·rw [if_neg e,if_neg e2] at h; exact h
  ·exact h.elim
def lS:bC:=λds S k=>∃ u a b:Rat,ds=[N u a b]/\Fd u/\Sm 360000 a b/\k (.int (rm a b u)) S
theorem o9:ao ["one","apart"] ["one"] (am lO):=cA
theorem wg (Fn:bL K "root_sign" "root_sign" lO f fd) (bo:aE P w K mg base "minus" 35 gJ) (aN:aE P w K mg base "without_sign" 1 cw) (aD:aE P w K mg base "times" 35 dU) (mZ:aE P w K mg base "sign_of" 1 j8):
  aI P w K mg base ca 36 f fd ["one"] (cg K lS):=by
 refine Fn.okJ o9 (λds S k h=>?_) (λcdv A outer s H E hr=>⟨_,(af (ai (i:=1) o9.nd (dq bo hr (aa (dq aD hr (aa (ah ag (ac 0) ae (λ_ _=>rfl)) (aa (ah ag (ac 0) ae (λ_ _=>rfl)) ad))) (aa (dq aN hr (aa (ah ag (ac 0) ae (λ_ _=>rfl)) ad)) ad)))) (aj (ak (uV (ax EG (ah ag (ac 1) ae (λ_ _=>rfl)) ae (aF _)) (dq mZ hr (aa (ah ag (ah ag (ac 0) ae (λ_ _=>rfl)) ae (λ_ _=>rfl)) ad)) (dq mZ hr (aa (ah ag (ah ag (ac 0) ae (λ_ _=>rfl)) ae (λ_ _=>rfl)) ad)))))),λds S k h=>?_⟩)
 ·obtain⟨_,_,_,rfl,_⟩:=h
  rfl
 ·obtain⟨u,a,b,rfl,hu,h1,w⟩:=h;have ed:ab (ss b*u)=b*b*u:=uI hu.pos;have sa:Sz 722800 (ab (ss b*u)):=(h1.b.ss.mul hu.sz).ab;refine⟨a,a,rfl,h1.a.mono (by decide),h1.a.mono (by decide),_,rfl,_,_,rfl,(h1.a.mul h1.a).mono (by decide),sa.mono (by decide),aU (λe=>?_) (λe=>?_)⟩
  ·rw [ed] at e;rw [MI ((ji _).mp e),<- zZ] at w;exact w
  ·rw [ed] at e;have e':¬ 0 < a*a - b*b*u:=λz=>e ((ji _).mpr z)
   rw [show rm a b u=BI b from if_neg e',<- Kk (b:=b) hu.pos,<- zZ] at w
   exact w
def lE:bC:=λds S k=>∃ u a b c d:Rat,ds=[N u a b,N u c d]/\Fd u/\Sz 4000 a/\Sz 4000 c/\Sz 1000 b/\Sz 1000 d/\Sz 1900 (a - c)/\Sz 900 (b - d)/\k (.bl (decide (rm (a - c) (b - d) u < 0))) S
theorem wW:ao ["one","other"] ["one","other"] (am lC):=cA
theorem wY (Fn:bL K "root_less" "root_less" lC f fd) (mG:aE P w K mg base "root_sign" 36 lS) (dh:aE P w K mg base "root_minus" 39 iG):
  aI P w K mg base ca 40 f fd ["one","other"] (cg K lE):=by
 refine Fn.okJ wW (λds S k h=>?_) (λcdv A outer s H E hr=>⟨_,(aj (ak (wK uG (dq mG hr (aa (dq dh hr (aa (ac 0) (aa (ac 1) ad))) ad)) ae (aF _)))),λds S k h=>?_⟩)
 ·obtain⟨_,_,_,_,_,rfl,_⟩:=h
  rfl
 ·obtain⟨u,a,b,c,d,rfl,hu,ha,hc,hb,hd,hac,hbd,w⟩:=h;exact⟨u,a,b,c,d,rfl,hu,⟨ha.mono (by decide),hb.mono (by decide)⟩,⟨hc.mono (by decide),hd.mono (by decide)⟩,u,_,_,rfl,hu,⟨hac.mono (by decide),hbd.mono (by decide)⟩,w⟩
set_option maxHeartbeats 4000000
def cC (S S':DH):Prop:=∀ b o,S b=some o->S' b=some o
theorem cC.refl (S:DH):cC S S:=λ_ _ h=>h
theorem cC.trans {S S1 S2:DH} (a:cC S S1) (b:cC S1 S2):cC S S2:=λc o h=>b c o (a c o h)
theorem cC.new {S:DH} {p:Addr} {o:DO} (h:S p=none):cC S (put S p o):=λb u e=>by
 unfold put
 split
 ·rename_i z; subst z; rw [h] at e; cases e
 ·exact e
theorem cC.put {S S1:DH} {p:Addr} {o:DO} (e:cC S S1) (h:S p=none):cC S (put S1 p o):=λb u z=>by
 unfold DL.put
 split
 ·rename_i y; subst y; rw [h] at z; cases z
 ·exact e b u z
theorem cC.none {S S1:DH} {p:Addr} (e:cC S S1) (h:S1 p=none):S p=none:=by
 cases q:S p with
 | none=>rfl
 | some o=>rw [e p o q] at h; cases h
theorem jS {u r:Rat}:D.tup [fr r,fr 0]=N u r 0:=by
 unfold N;rw [show ss 0*u=0 by unfold ss; grind]
abbrev Q:=Rat×Rat
def qa (x y:Q):Q:=(x.1+y.1,x.2+y.2)
def qs (x y:Q):Q:=(x.1 - y.1,x.2 - y.2)
def qm (u:Rat) (x y:Q):Q:=(x.1*y.1+x.2*y.2*u,x.1*y.2+x.2*y.1)
abbrev Sq (n:Nat) (x:Q):Prop:=Sm n x.1 x.2
theorem O1 {m n:Nat} {x y:Q} (h:Sq m x) (h':Sq n y):Sq (m+n+1) (qs x y):=h.sub h'
theorem OU {m n:Nat} {x y:Q} {u:Rat} (hu:Fd u) (h:Sq m x) (h':Sq n y):Sq (2*(m+n)+2810) (qm u x y):=h.mul hu h'
def Pq (u:Rat) (x y:Q):D:=.tup [N u x.1 x.2,N u y.1 y.2]
def qo (p:Rat):Q:=(p,0)
def m8 (u:Rat) (x y:Q):Q:=qa (qm u x x) (qm u y y)
def mE:bC:=λds S k=>∃ u a b c d:Rat,ds=[N u a b,N u c d]/\0 < u/\Sz 2800 u/\Sz 120000 b/\Sz 120000 d/\k (.bl true) S
theorem wJ:ao ["one","other"] ["one","other"] (am lJ):=cA
theorem xl (Fn:bL K "one_field" "one_field" lJ f fd) (bK:aE P w K mg base "is_plain" 1 gj) (dP:aE P w K mg base "root_in" 36 j7) (aY:aE P w K mg base "over" 35 fB) (aN:aE P w K mg base "without_sign" 1 cw):
  aI P w K mg base ca 37 f fd ["one","other"] (cg K mE):=by
 refine Fn.okJ wJ (λds S k h=>?_) (λcdv A outer s H E hr=>⟨_,(af (aC (WJ.pt (rE (fb (dq bK hr (aa (ac 0) ad))) (rj (fb (dq bK hr (aa (ac 1) ad)))))) (aj (ak fA)) aG) (aj (ak (wK AG (dq dP hr (aa (dq aY hr (aa (dq aN hr (aa (ah ag (ac 0) ae (λ_ _=>rfl)) ad)) (aa (dq aN hr (aa (ah ag (ac 1) ae (λ_ _=>rfl)) ad)) ad))) ad)) g_ (aF _))))),λds S k h=>?_⟩)
 ·obtain⟨_,_,_,_,_,rfl,_⟩:=h
  rfl
 ·obtain⟨u,a,b,c,d,rfl,u0,hu,hb,hd,w⟩:=h;refine⟨fr a,ss b*u,rfl,aU (λ_=>w) (λe=>⟨fr c,ss d*u,rfl,aU (λ_=>w) (λe2=>?_)⟩)⟩
  have d0:d≠0:=λz=>e2 ((m5 u0).mpr z)
  have eb:ab (ss b*u)=b*b*u:=uI u0;have ed:ab (ss d*u)=d*d*u:=uI u0;have s1:Sz 242800 (ab (ss b*u)):=(hb.ss.mul hu).ab;have s2:Sz 242800 (ab (ss d*u)):=(hd.ss.mul hu).ab;have ne:ab (ss d*u)≠0:=by rw [ed]; grind
  refine⟨_,rfl,_,rfl,_,_,rfl,ne,s1.mono (by decide),s2.mono (by decide),_,rfl,tE (qw _) (qw _),(s1.div s2 ne).mono (by decide),λr r0 rr=>w,λno=>?_⟩
  rw [eb,ed] at no;exact absurd (xL u0 d0) (no _)
def Lh (u:Rat) (p:D):Prop:=∃ a b c d:Rat,p=.tup [N u a b,N u c d]/\Sm 120000 a b/\Sm 120000 c d
def ME (u:Rat) (x:D):Prop:=∃ a b:Rat,x=N u a b/\b≠0/\Sm 120000 a b
theorem Lh.of {u:Rat} {n:Nat} {x y:Q} (hx:Sq n x) (hy:Sq n y) (h:n<=120000):Lh u (Pq u x y):=⟨_,_,_,_,rfl,hx.mono h,hy.mono h⟩
def ip:bC:=λds S k=>∃ (u:Rat) (pts:List D),ds=[.tup pts]/\Fd u/\(∀ p∈pts,Lh u p)/\pts.length<=100/\∀ S',cC S S'->k .non S'
theorem el:ao ["points","rooted","point","number"] ["points"] (am ib):=cA
theorem ql (Fn:bL K "ask_one_field" "ask_one_field" ib f fd) (bK:aE P w K mg base "is_plain" 1 gj) (mC:aE P w K mg base "one_field" 37 mE):
  aI P w K mg base ca 38 f fd ["points"] (cg K ip):=by
 refine Fn.okJ el (λds S k h=>?_) (λcdv A outer s H E hr=>⟨_,(af (ai (i:=1) el.nd (iV ad)) (af (fh PassesOwn.never rfl (ac 0) (aP (i:=2) el.nd) (aj (mU (Ks (ac 1) (zv rfl (ot (N:=["number"]) (cap:=[none]) rfl rfl rfl rfl trivial rfl rfl trivial) (ac 2) (λ_ _ _ _=>(aP (i:=0) (show List.Nodup (["number"]:List Str) from by decide +kernel))) (λ_ _ _ _=>(po (fb (dq bK hr (aa (ac 0) ad))))) (λ_ _ _ _=>(ac 0))))))) (aj (fh PassesOwn.never rfl (eZ (ac 1) (cf ae) gP) (aP (i:=3) el.nd) (aj (aC (po (fb (dq mC hr (aa (ah ag (ac 1) ae (λ_ _=>rfl)) (aa (ac 3) ad))))) (aj dj) aG)))))),λds S k h=>?_⟩)
 ·obtain⟨_,_,rfl,_⟩:=h
  rfl
 ·obtain⟨u,pts,rfl,hu,hp,hl,w⟩:=h;refine⟨few,λq hq=>?_⟩
  refine⟨(pts,none),rfl,?_⟩;have big:∀ n:Nat,n<=300->n<=sizeLine:=λn h=>QH h (Qi (rfl:Nat.ble 300 sizeLine=true))
  have big':∀ n:Nat,n < 300->n < sizeLine:=λn h=>Qb h (Qi (rfl:Nat.ble 300 sizeLine=true))
  refine dH (λr L S'=>∃ xs l2 l3,L=[some (.tup pts),some (.ref q),l2,l3]/\cC S S'/\S' q=some (.lst xs)/\(∀ x∈xs,ME u x)/\xs.length+2*r.length<=200/\(∀ p∈r,Lh u p)) (λ_ _ _ _=>trivial) ?_ ?_ pts _ _ ⟨[],none,none,rfl,cC.new hq,av,(λ_ z=>by cases z),(by show 0+2*pts.length<=200; omega),hp⟩
  ·rintro d r L S1 Nx ⟨xs,l2,l3,rfl,e,hS1,hx,hl1,hp1⟩ hN;obtain⟨a,b,c,d,rfl,s1,s2⟩:=hp1 _ P_;have hl1:xs.length+2*(r.length+1)<=200:=hl1;refine⟨⟨xs,hS1⟩,([N u a b,N u c d],none),rfl,λp hp2=>?_⟩
   have qp:q≠p:=λz=>by subst z; rw [hS1] at hp2; cases hp2
   have sp:S p=none:=e.none hp2;have fin:∀ (es:List D) (S2:DH),cC S S2->S2 q=some (.lst xs)->S2 p=some (.lst es)->es.length<=2->(∀ x∈es,ME u x)->∃ ds es',S2 q=some (.lst ds)/\S2 p=some (.lst es')/\ds.length+es'.length<=sizeLine/\Nx [some (.tup pts),some (.ref q),some (.tup [N u a b,N u c d]),l3] (put S2 q (.lst (ds++es'))):=λes S2 e2 h1 h2 h3 h4=>
    ⟨xs,es,h1,h2,big _ (by omega),hN _ _ ⟨xs++es,_,_,rfl,e2.put hq,av,λx hx2=>(List.mem_append.mp hx2).elim (hx x) (h4 x),by rw [Ql]; omega,λp hp3=>hp1 p (Qa _ hp3)⟩⟩
   have r1:b≠0->ME u (N u a b):=λh=>⟨a,b,rfl,h,s1⟩
   have r2:d≠0->ME u (N u c d):=λh=>⟨c,d,rfl,h,s2⟩
   have nz:∀ {b:Rat},¬ ss b*u=0->b≠0:=λh z=>h ((m5 hu.pos).mpr z)
   have e0:cC S (put S1 p (.lst [])):=e.put sp;have q0:put S1 p (.lst []) q=some (.lst xs):=by rw [cQ qp]; exact hS1
   refine⟨trivial,_,_,rfl,jU (λh1=>⟨av,big' 0 (by decide),trivial,_,_,rfl,jU (λh2=>⟨av,big' 1 (by decide),trivial,?_⟩) (λh2=>⟨trivial,?_⟩)⟩) (λh1=>⟨trivial,_,_,rfl,jU (λh2=>⟨av,big' 0 (by decide),trivial,?_⟩) (λh2=>⟨trivial,?_⟩)⟩)⟩
   ·exact fin [N u a b,N u c d] _ ((e0.put sp).put sp) (by rw [cQ qp,cQ qp]; exact q0) av (by show 2<=2; decide) (λx hx2=>by
     simp only [P8,Qh,or_false] at hx2;rcases hx2 with rfl | rfl
     ·exact r1 (nz h1)
     ·exact r2 (nz h2))
   ·exact fin [N u a b] _ (e0.put sp) (by rw [cQ qp]; exact q0) av (by show 1<=2; decide) (λx hx2=>by
     simp only [P8,Qh,or_false] at hx2;subst hx2;exact r1 (nz h1))
   ·exact fin [N u c d] _ (e0.put sp) (by rw [cQ qp]; exact q0) av (by show 1<=2; decide) (λx hx2=>by
     simp only [P8,Qh,or_false] at hx2;subst hx2;exact r2 (nz h2))
   ·exact fin [] _ e0 q0 av (by show 0<=2; decide) (λx hx2=>by cases hx2)
  ·rintro L S1 ⟨xs,l2,l3,rfl,e,hS1,hx,_,_⟩;refine⟨xs,hS1,λp hp2=>⟨(xa xs (some 1) none,some p),by simp only [bj,av],?_⟩⟩
   have qp:q≠p:=λz=>by subst z; rw [hS1] at hp2; cases hp2
   refine dH (λr L S2=>∃ l2 l3,L=[some (.tup pts),some (.ref q),l2,l3]/\cC S S2/\S2 q=some (.lst xs)/\S2 p=some (.lst (xa xs (some 1) none))/\(xs=[]->r=[])/\∀ x∈r,ME u x) (λr L S2 ⟨_,_,_,_,_,z,_⟩=>z) ?_ (λL S2 ⟨_,_,_,e2,_⟩=>w S2 e2) _ _ _ ⟨l2,l3,rfl,e.put (e.none hp2),(cQ qp).trans hS1,av,(λz=>by subst z; rfl),λx hx2=>hx x (Fz hx2)⟩
   rintro d r L S2 Nx ⟨l2,l3,rfl,e2,h1,h2,h3,hr⟩ hN;obtain⟨a,b,rfl,b0,sb⟩:=hr _ P_;cases xs with
   | nil=>cases h3 rfl
   | cons x0 xr=>
    obtain⟨a',b',rfl,b0',sb'⟩:=hx _ P_;exact⟨_,_,h1,yb,u,a',b',a,b,rfl,hu.pos,hu.sz,sb'.b,sb.b,mK (λz=>by cases z) (λ_=>hN _ _ ⟨_,_,rfl,e2,h1,h2,(λz=>by cases z),λx hx2=>hr x (Qa _ hx2)⟩)⟩
def jz:bC:=λds S k=>∃ (u:Rat) (x y z v:Q),ds=[Pq u x y,Pq u z v]/\Fd u/\Sq 120000 x/\Sq 120000 y/\Sq 120000 z/\Sq 120000 v/\k (Pq u (qs z x) (qs v y)) S
theorem sR:ao ["one","other"] ["one","other"] (am jx):=cA
theorem rX (Fn:bL K "way_between" "way_between" jx f fd) (dh:aE P w K mg base "root_minus" 39 iG):
  aI P w K mg base ca 40 f fd ["one","other"] (cg K jz):=by
 refine Fn.okJ sR (λds S k h=>?_) (λcdv A outer s H E hr=>⟨_,(aj (ak (au (aa (dq dh hr (aa (ah ag (ac 1) ae (λ_ _=>rfl)) (aa (ah ag (ac 0) ae (λ_ _=>rfl)) ad))) (aa (dq dh hr (aa (ah ag (ac 1) ae (λ_ _=>rfl)) (aa (ah ag (ac 0) ae (λ_ _=>rfl)) ad))) ad))))),λds S k h=>?_⟩)
 ·obtain⟨_,_,_,_,_,rfl,_⟩:=h
  rfl
 ·obtain⟨u,x,y,z,v,rfl,hu,hx,hy,hz,hv,w⟩:=h;exact⟨u,_,_,_,_,rfl,hu,hz,hx,u,_,_,_,_,rfl,hu,hv,hy,few,w⟩
def gY:bC:=λds S k=>∃ (u:Rat) (x y:Q),ds=[Pq u x y]/\Fd u/\Sq 29200 x/\Sq 29200 y/\k (N u (m8 u x y).1 (m8 u x y).2) S
theorem pK:ao ["way"] ["way"] (am gZ):=cA
theorem pZ (Fn:bL K "square_of_way" "square_of_way" gZ f fd) (fm:aE P w K mg base "root_plus" 38 jf) (iI:aE P w K mg base "root_times" 38 kT):
  aI P w K mg base ca 39 f fd ["way"] (cg K gY):=by
 refine Fn.okJ pK (λds S k h=>?_) (λcdv A outer s H E hr=>⟨_,(aj (ak (dq fm hr (aa (dq iI hr (aa (ah ag (ac 0) ae (λ_ _=>rfl)) (aa (ah ag (ac 0) ae (λ_ _=>rfl)) ad))) (aa (dq iI hr (aa (ah ag (ac 0) ae (λ_ _=>rfl)) (aa (ah ag (ac 0) ae (λ_ _=>rfl)) ad))) ad))))),λds S k h=>?_⟩)
 ·obtain⟨_,_,_,rfl,_⟩:=h
  rfl
 ·obtain⟨u,x,y,rfl,hu,hx,hy,w⟩:=h;have hx':Sq 120000 x:=hx.mono (by decide)
  have hy':Sq 120000 y:=hy.mono (by decide)
  exact⟨u,_,_,_,_,rfl,hu,hx',hx',u,_,_,_,_,rfl,hu,hy',hy',u,_,_,_,_,rfl,hu,(OU hu hx hx).mono (by decide),(OU hu hy hy).mono (by decide),w⟩
def i6:bC:=λds S k=>∃ (u:Rat) (x y z v:Q),ds=[Pq u x y,Pq u z v]/\Fd u/\Sq 14400 x/\Sq 14400 y/\Sq 14400 z/\Sq 14400 v/\∀ S',cC S S'->k (N u (m8 u (qs z x) (qs v y)).1 (m8 u (qs z x) (qs v y)).2) S'
theorem q9:ao ["one","other"] ["one","other"] (am iY):=cA
theorem qY (Fn:bL K "square_apart" "square_apart" iY f fd) (im:aE P w K mg base "ask_one_field" 38 ip) (ij:aE P w K mg base "square_of_way" 39 gY) (jF:aE P w K mg base "way_between" 40 jz):
  aI P w K mg base ca 41 f fd ["one","other"] (cg K i6):=by
 refine Fn.okJ q9 (λds S k h=>?_) (λcdv A outer s H E hr=>⟨_,(af (mU (dq im hr (aa (au (aa (ac 0) (aa (ac 1) ad))) ad))) (aj (ak (dq ij hr (aa (dq jF hr (aa (ac 0) (aa (ac 1) ad))) ad))))),λds S k h=>?_⟩)
 ·obtain⟨_,_,_,_,_,rfl,_⟩:=h
  rfl
 ·obtain⟨u,x,y,z,v,rfl,hu,hx,hy,hz,hv,w⟩:=h;refine⟨few,u,[Pq u x y,Pq u z v],rfl,hu,?_,(by show 2<=100; decide),λS' e=>?_⟩
  ·intro p hp;simp only [P8,Qh,or_false] at hp;rcases hp with rfl | rfl
   ·exact Lh.of hx hy (by decide)
   ·exact Lh.of hz hv (by decide)
  ·exact⟨u,x,y,z,v,rfl,hu,hx.mono (by decide),hy.mono (by decide),hz.mono (by decide),hv.mono (by decide),u,_,_,rfl,hu,(O1 hz hx).mono (by decide),(O1 hv hy).mono (by decide),w S' e⟩
def W (x y:Rat):D:=.tup [fr x,fr y]
def PP (x y:Rat):D:=.tup [.tup [fr x,fr 0],.tup [fr y,fr 0]]
noncomputable def MP (x y a b s:Rat):D:=.tup [K2 x (ss a*s),K2 y (ss b*s)]
noncomputable def mM (x y a b s:Rat):List D:=if s < 0 then [] else if s=0 then [PP x y] else [MP x y a b s,MP x y (-a) (-b) s]
def cU:bC:=λds S k=>∃ x y:Rat,ds=[W x y]/\k (PP x y) S
theorem rR:ao ["place"] ["place"] (am jH):=cA
theorem sj (Fn:bL K "plain_point" "plain_point" jH f fd) (a9:t5 K mg "NOUGHT" [0,1]):
  aI P w K mg base ca 1 f fd ["place"] (cg K cU):=by
 refine Fn.okJ rR (λds S k h=>?_) (λcdv A outer s H E hr=>⟨_,(aj (ak (au (aa (au (aa (ah ag (ac 0) ae (λ_ _=>rfl)) (aa (fZ a9 rfl) ad))) (aa (au (aa (ah ag (ac 0) ae (λ_ _=>rfl)) (aa (fZ a9 rfl) ad))) ad))))),λds S k h=>?_⟩)
 ·obtain⟨_,_,rfl,_⟩:=h
  rfl
 ·obtain⟨x,y,rfl,w⟩:=h;exact⟨few,few,few,w⟩
def cS:bC:=λds S k=>∃ x y:Rat,ds=[PP x y]/\k (W x y) S
theorem yu:ao ["point"] ["point"] (am n_):=cA
theorem xX (Fn:bL K "place_of" "place_of" n_ f fd):
  aI P w K mg base ca 1 f fd ["point"] (cg K cS):=by
 refine Fn.okJ yu (λds S k h=>?_) (λcdv A outer s H E hr=>⟨_,(aj (ak (au (aa (ah ag (ah ag (ac 0) ae (λ_ _=>rfl)) ae (λ_ _=>rfl)) (aa (ah ag (ah ag (ac 0) ae (λ_ _=>rfl)) ae (λ_ _=>rfl)) ad))))),λds S k h=>?_⟩)
 ·obtain⟨_,_,rfl,_⟩:=h
  rfl
 ·obtain⟨x,y,rfl,w⟩:=h;exact⟨few,w⟩
def cn:bC:=λds S k=>∃ x y z v:Rat,ds=[W x y,W z v]/\Sz 20000000 x/\Sz 20000000 y/\Sz 20000000 z/\Sz 20000000 v/\k (W (z - x) (v - y)) S
theorem vI:ao ["one","other"] ["one","other"] (am lB):=cA
theorem w5 (Fn:bL K "plain_way" "plain_way" lB f fd) (bo:aE P w K mg base "minus" 35 gJ):
  aI P w K mg base ca 36 f fd ["one","other"] (cg K cn):=by
 refine Fn.okJ vI (λds S k h=>?_) (λcdv A outer s H E hr=>⟨_,(aj (ak (au (aa (dq bo hr (aa (ah ag (ac 1) ae (λ_ _=>rfl)) (aa (ah ag (ac 0) ae (λ_ _=>rfl)) ad))) (aa (dq bo hr (aa (ah ag (ac 1) ae (λ_ _=>rfl)) (aa (ah ag (ac 0) ae (λ_ _=>rfl)) ad))) ad))))),λds S k h=>?_⟩)
 ·obtain⟨_,_,_,_,rfl,_⟩:=h
  rfl
 ·obtain⟨x,y,z,v,rfl,hx,hy,hz,hv,w⟩:=h;exact⟨z,x,rfl,hz,hx,v,y,rfl,hv,hy,few,w⟩
def aQ:bC:=λds S k=>∃ x y z v:Rat,ds=[W x y,W z v]/\Sz 360000 x/\Sz 360000 y/\Sz 360000 z/\Sz 360000 v/\k (fr (x*z+y*v)) S
theorem oq:ao ["one","other"] ["one","other"] (am fy):=cA
theorem nR (Fn:bL K "product_of_ways" "product_of_ways" fy f fd) (aT:aE P w K mg base "plus" 35 fR) (aD:aE P w K mg base "times" 35 dU):
  aI P w K mg base ca 36 f fd ["one","other"] (cg K aQ):=by
 refine Fn.okJ oq (λds S k h=>?_) (λcdv A outer s H E hr=>⟨_,(aj (ak (dq aT hr (aa (dq aD hr (aa (ah ag (ac 0) ae (λ_ _=>rfl)) (aa (ah ag (ac 1) ae (λ_ _=>rfl)) ad))) (aa (dq aD hr (aa (ah ag (ac 0) ae (λ_ _=>rfl)) (aa (ah ag (ac 1) ae (λ_ _=>rfl)) ad))) ad))))),λds S k h=>?_⟩)
 ·obtain⟨_,_,_,_,rfl,_⟩:=h
  rfl
 ·obtain⟨x,y,z,v,rfl,hx,hy,hz,hv,w⟩:=h;exact⟨x,z,rfl,hx.mono (by decide),hz.mono (by decide),y,v,rfl,hy.mono (by decide),hv.mono (by decide),_,_,rfl,(hx.mul hz).mono (by decide),(hy.mul hv).mono (by decide),w⟩
def gL:bC:=λds S k=>∃ x y a b t:Rat,ds=[W x y,W a b,fr t]/\Sz 360000 x/\Sz 360000 y/\Sz 360000 a/\Sz 360000 b/\Sz 360000 t/\k (W (x+a*t) (y+b*t)) S
theorem EY:ao ["place","way","by"] ["place","way","by"] (am vE):=cA
theorem Di (Fn:bL K "moved" "moved" vE f fd) (aT:aE P w K mg base "plus" 35 fR) (aD:aE P w K mg base "times" 35 dU):
  aI P w K mg base ca 36 f fd ["place","way","by"] (cg K gL):=by
 refine Fn.okJ EY (λds S k h=>?_) (λcdv A outer s H E hr=>⟨_,(aj (ak (au (aa (dq aT hr (aa (ah ag (ac 0) ae (λ_ _=>rfl)) (aa (dq aD hr (aa (ah ag (ac 1) ae (λ_ _=>rfl)) (aa (ac 2) ad))) ad))) (aa (dq aT hr (aa (ah ag (ac 0) ae (λ_ _=>rfl)) (aa (dq aD hr (aa (ah ag (ac 1) ae (λ_ _=>rfl)) (aa (ac 2) ad))) ad))) ad))))),λds S k h=>?_⟩)
 ·obtain⟨_,_,_,_,_,rfl,_⟩:=h
  rfl
 ·obtain⟨x,y,a,b,t,rfl,hx,hy,ha,hb,ht,w⟩:=h;exact⟨a,t,rfl,ha.mono (by decide),ht.mono (by decide),_,_,rfl,hx.mono (by decide),(ha.mul ht).mono (by decide),b,t,rfl,hb.mono (by decide),ht.mono (by decide),_,_,rfl,hy.mono (by decide),(hb.mul ht).mono (by decide),few,w⟩
def hJ:bC:=λds S k=>∃ x y a b s:Rat,ds=[W x y,W a b,fr s]/\Sz 160000 x/\Sz 160000 y/\Sz 8000 a/\Sz 8000 b/\Sz 240000 s/\∀ S',cC S S'->k (MP x y a b s) S'
theorem db:ao ["place","way","square","numbers","part","portion","under"] ["place","way","square"] (am il):=cA
theorem pU (Fn:bL K "moved_by_root" "moved_by_root" il f fd) (aD:aE P w K mg base "times" 35 dU) (qj:aE P w K mg base "made" 37 wF) (a8:aE P w K mg base "with_sign_of" 2 da) (FK:mg "zip"=none):
  aI P w K mg base ca 38 f fd ["place","way","square"] (cg K hJ):=by
 refine Fn.okJ db (λds S k h=>?_) (λcdv A outer s H E hr=>⟨_,(af (ai (i:=3) db.nd (iV ad)) (af (B8 PassesOwn.never rfl rfl FK (aa (ac 0) (aa (ac 1) ad)) (nj (n:=2) rfl (cD (aP (i:=4) db.nd) (cD (aP (i:=5) db.nd) jX))) (af (ai (i:=6) db.nd (dq aD hr (aa (dq aD hr (aa (ac 5) (aa (ac 5) ad))) (aa (ac 2) ad)))) (aj (mU (Ec (ac 3) (dq qj hr (aa (ac 4) (aa (dq a8 hr (aa (ac 6) (aa (ac 5) ad))) ad)))))))) (aj (ak (au (aa (ah ag (ac 3) ae (λ_ _=>rfl)) (aa (ah ag (ac 3) ae (λ_ _=>rfl)) ad))))))),λds S k h=>?_⟩)
 ·obtain⟨_,_,_,_,_,rfl,_⟩:=h
  rfl
 ·obtain⟨x,y,a,b,s,rfl,hx,hy,ha,hb,hs,w⟩:=h;have big':∀ n:Nat,n < 300->n < sizeLine:=λn h=>Qb h (Qi (rfl:Nat.ble 300 sizeLine=true))
  refine⟨few,λq hq=>⟨([fr x,fr y],none),([fr a,fr b],none),rfl,rfl,?_⟩⟩
  have m1:=(ha.mul ha).mul hs;have m2:=(hb.mul hb).mul hs;have s1:Sz 400000 (sg (a*a*s) a):=m1.sg.mono (by decide)
  have s2:Sz 400000 (sg (b*b*s) b):=m2.sg.mono (by decide)
  refine⟨⟨trivial,trivial⟩,([fr x,fr a],none),rfl,rfl,rfl,a,a,rfl,ha.mono (by decide),ha.mono (by decide),_,s,rfl,(ha.mul ha).mono (by decide),hs.mono (by decide),?_⟩
  refine⟨⟨_,av⟩,_,a,rfl,x,_,rfl,hx.mono (by decide),s1,[],av,big' 0 (by decide),?_⟩
  refine⟨⟨trivial,trivial⟩,([fr y,fr b],none),rfl,rfl,rfl,b,b,rfl,hb.mono (by decide),hb.mono (by decide),_,s,rfl,(hb.mul hb).mono (by decide),hs.mono (by decide),?_⟩
  refine⟨⟨_,av⟩,_,b,rfl,y,_,rfl,hy.mono (by decide),s2,_,av,big' 1 (by decide),?_⟩
  refine⟨⟨trivial,trivial⟩,_,_,av,yb,_,_,av,LW,few,?_⟩;rw [C5,C5];exact w _ (((cC.new hq).put hq).put hq)
def iw:bC:=λds S k=>∃ x y a b s:Rat,ds=[W x y,W a b,fr s]/\Sz 160000 x/\Sz 160000 y/\Sz 8000 a/\Sz 8000 b/\Sz 240000 s/\∀ S' p,cC S S'->S' p=none->k (.ref p) (put S' p (.lst (mM x y a b s)))
theorem nO:ao ["place","way","square","against"] ["place","way","square"] (am kF):=cA
theorem tV (Fn:bL K "both_moved" "both_moved" kF f fd) (aR:aE P w K mg base "plain_point" 1 cU) (aL:aE P w K mg base "negative" 1 cV) (e_:aE P w K mg base "moved_by_root" 38 hJ):
  aI P w K mg base ca 39 f fd ["place","way","square"] (cg K iw):=by
 refine Fn.okJ nO (λds S k h=>?_) (λcdv A outer s H E hr=>⟨_,(af (aC (ax uG (ah ag (ac 2) ae (λ_ _=>rfl)) ae (aF _)) (aj (ak (iV ad))) aG) (af (aC (ax nA (ah ag (ac 2) ae (λ_ _=>rfl)) ae (aF _)) (aj (ak (iV (aa (dq aR hr (aa (ac 0) ad)) ad)))) aG) (af (ai (i:=3) nO.nd (au (aa (dq aL hr (aa (ah ag (ac 1) ae (λ_ _=>rfl)) ad)) (aa (dq aL hr (aa (ah ag (ac 1) ae (λ_ _=>rfl)) ad)) ad)))) (aj (ak (iV (aa (dq e_ hr (aa (ac 0) (aa (ac 1) (aa (ac 2) ad)))) (aa (dq e_ hr (aa (ac 0) (aa (ac 3) (aa (ac 2) ad)))) ad)))))))),λds S k h=>?_⟩)
 ·obtain⟨_,_,_,_,_,rfl,_⟩:=h
  rfl
 ·obtain⟨x,y,a,b,s,rfl,hx,hy,ha,hb,hs,w⟩:=h;refine aU (λn=>?_) (λn=>aU (λz=>?_) (λz=>?_))
  ·have w':=λp hp=>w S p (cC.refl S) hp
   rw [show mM x y a b s=[] from if_pos ((de s).mp n)] at w'
   exact⟨few,w'⟩
  ·have z:s=0:=Rf.mp z;have w':=λp hp=>w S p (cC.refl S) hp
   rw [show mM x y a b s=[PP x y] by unfold mM; rw [if_neg (by rw [z]; decide),if_pos z]] at w'
   exact⟨x,y,rfl,few,w'⟩
  ·have z:s≠0:=λq=>z (by rw [q]; rfl)
   refine⟨a,rfl,b,rfl,few,x,y,a,b,s,rfl,hx,hy,ha,hb,hs,λS1 e1=>⟨x,y,-a,-b,s,rfl,hx,hy,ha.neg,hb.neg,hs,λS2 e2=>⟨few,λp hp=>?_⟩⟩⟩
   have w':=w S2 p (e1.trans e2) hp;rw [show mM x y a b s=[MP x y a b s,MP x y (-a) (-b) s] by unfold mM; rw [if_neg (λq=>n ((de s).mpr q)),if_neg z]] at w'
   exact w'
def df:bC:=λds S k=>∃ a b:Rat,ds=[W a b]/\Sz 360000 a/\Sz 360000 b/\a*a+b*b≠0/\k (fr (a*a+b*b)) S
theorem cY:ao ["way","square"] ["way"] (am dw):=cA
theorem nD (Fn:bL K "square_of_unlike" "square_of_unlike" dw f fd) (aq:aE P w K mg base "product_of_ways" 36 aQ):
  aI P w K mg base ca 37 f fd ["way"] (cg K df):=by
 refine Fn.okJ cY (λds S k h=>?_) (λcdv A outer s H E hr=>⟨_,(af (ai (i:=1) cY.nd (dq aq hr (aa (ac 0) (aa (ac 0) ad)))) (af (aC (ax nA (ah ag (ac 1) ae (λ_ _=>rfl)) ae (aF _)) (aj dj) aG) (aj (ak (ac 1))))),λds S k h=>?_⟩)
 ·obtain⟨_,_,rfl,_⟩:=h
  rfl
 ·obtain⟨a,b,rfl,ha,hb,h0,w⟩:=h;exact⟨a,b,a,b,rfl,ha,hb,ha,hb,aU (λz=>absurd (Rf.mp z) h0) (λ_=>w)⟩
set_option maxHeartbeats 4000000
structure yH (c:List (List Int×Rat)) (ns:List (List Int×Int)):Prop where
 keys:ns.map (·.1)=c.map (·.1)
 sc:∃ t:Rat,t≠0/\(∀ p∈ns,∃ q,(p.1,q)∈c/\(p.2:Rat)=t*q)/\∀ p∈c,∃ n:Int,(p.1,n)∈ns/\(n:Rat)=t*p.2
 co:∀ d:Int,(∀ p∈ns,d ∣ p.2)->d ∣ 1
 sg:∃ p∈ns,(∀ q∈ns,tT q.1 p.1=false)/\0 < p.2
theorem Lb {k l:List Int} (hk:∃ i j,k=[i,j]) (hl:∃ i j,l=[i,j]) (h1:tT k l=false) (h2:tT l k=false):k=l:=by
 obtain⟨a,b,rfl⟩:=hk;obtain⟨c,d,rfl⟩:=hl;simp only [tT,Bool.or_eq_false_iff,Bool.and_eq_false_iff,decide_eq_false_iff_not] at h1 h2
 have e1:a=c:=by omega
 have e2:b=d:=by omega
 rw [e1,e2]
theorem xT {α:Type}:∀ {l:List (List Int×α)} {k:List Int} {x y:α},(l.map (·.1)).Nodup->(k,x)∈l->(k,y)∈l->x=y
 | [],_,_,_,_,h,_=>nomatch h
 | p::l,k,x,y,nd,h1,h2=>by
  rw [Qd,QM] at nd;rcases P8.mp h1 with e1 | m1
  ·rcases P8.mp h2 with e2 | m2
   ·have:=e1.trans e2.symm;injection this
   ·refine absurd (P4.mpr ⟨_,m2,?_⟩) nd.1;rw [<- e1]
  ·rcases P8.mp h2 with e2 | m2
   ·refine absurd (P4.mpr ⟨_,m1,?_⟩) nd.1;rw [<- e2]
   ·exact xT nd.2 m1 m2
theorem Gr (q:Rat):((q.den:Int):Rat)≠0:=λz=>by
 have:=q.den_nz;have:(q.den:Int)=0:=QN.mp (by rw [z]; rfl)
 omega
theorem oN (q:Rat):((q.den:Int):Rat)*q=(q.num:Rat):=by
 have d0:=Gr q;have e:=Rat.num_divInt_den q;rw [QC] at e;grind
theorem jm {r:Rat} {n m:Int} (h:(m:Rat)=r*n):(r.den:Int)*m=r.num*n:=by
 have z:=oN r;have e2:(((r.den:Int)*m:Int):Rat)=((r.num*n:Int):Rat):=by
  rw [P1,P1,h,<- z];grind
 exact QN.mp e2
theorem AS {a b n:Int} (h:a ∣ b*n) (c:Nat.Coprime a.natAbs b.natAbs):a ∣ n:=by
 have:=QU.mpr h;rw [Q1] at this;exact QU.mp (Nat.Coprime.dvd_of_dvd_mul_left c this)
theorem Dp {c c':List (List Int×Rat)} {ns ns':List (List Int×Int)} {s:Rat} (h:yH c ns) (h':yH c' ns') (s0:s≠0) (two:∀ p∈c,∃ i j,p.1=[i,j]) (two':∀ p∈c',∃ i j,p.1=[i,j])
  (hc:∀ p∈c,(p.1,s*p.2)∈c') (hc':∀ p∈c',∃ q,(p.1,q)∈c/\p.2=s*q) (nd:(c.map (·.1)).Nodup) (nd':(c'.map (·.1)).Nodup):∀ p∈ns',p∈ns:=by
 obtain⟨t,t0,f1,f2⟩:=h.sc;obtain⟨t',t0',f1',f2'⟩:=h'.sc;have ndn:(ns.map (·.1)).Nodup:=by rw [h.keys]; exact nd
 have ndn':(ns'.map (·.1)).Nodup:=by rw [h'.keys]; exact nd'
 have g1:∀ p∈ns',∃ n:Int,(p.1,n)∈ns/\(p.2:Rat)=(t'*s / t)*n:=λp hp=>by
  obtain⟨q',m1,e1⟩:=f1' p hp;obtain⟨q,m2,e2⟩:=hc' _ m1;obtain⟨n,m3,e3⟩:=f2 _ m2;refine⟨n,m3,?_⟩;simp only at e2 e3
  rw [e1,e2,e3];grind
 have g2:∀ p∈ns,∃ n:Int,(p.1,n)∈ns'/\(n:Rat)=(t'*s / t)*p.2:=λp hp=>by
  obtain⟨q,m1,e1⟩:=f1 p hp;obtain⟨n,m3,e3⟩:=f2' _ (hc _ m1);refine⟨n,m3,?_⟩;simp only at e3;rw [e1,e3];grind
 generalize t'*s / t=r at g1 g2
 have d1:(r.den:Int) ∣ 1:=h.co _ λp hp=>by
  obtain⟨n,_,e⟩:=g2 p hp;have z:=jm e;exact AS (b:=r.num) ⟨n,z.symm⟩ (Nat.Coprime.symm r.reduced)
 have d2:r.num ∣ 1:=h'.co _ λp hp=>by
  obtain⟨n,_,e⟩:=g1 p hp;have z:=jm e;exact AS (b:=(r.den:Int)) ⟨n,z⟩ r.reduced
 have den1:r.den=1:=by
  have:=Int.eq_one_of_dvd_one (by omega) d1
  omega
 have num1:r.num=1\/r.num=-1:=by
  have:=QU.mpr d2;have h1:r.num.natAbs=1:=Nat.dvd_one.mp (by simpa using this)
  omega
 have rpos:r.num=1:=by
  rcases num1 with e | e
  ·exact e
  ·exfalso
   obtain⟨p,hp,mx,pos⟩:=h.sg;obtain⟨p',hp',mx',pos'⟩:=h'.sg;obtain⟨n,m1,e1⟩:=g2 p hp;obtain⟨n',m2,e2⟩:=g1 p' hp';obtain⟨q,w1,_⟩:=f1 p hp;obtain⟨q',w1',_⟩:=f1' p' hp';have ek:p.1=p'.1:=Lb (two _ w1) (two' _ w1') (mx' (p.1,n) m1) (mx (p'.1,n') m2);have ep:n'=p.2:=xT ndn (k:=p.1) (by rw [ek]; exact m2) hp
   have z:=jm e2;rw [den1,e,ep] at z;omega
 intro p hp;obtain⟨n,m1,e1⟩:=g1 p hp;have z:=jm e1;rw [den1,rpos] at z;have:p.2=n:=by omega
 rw [<- this] at m1;exact m1
def fv (B:Int) (q:Rat):Int:=q.num*B.fdiv (q.den:Int)
theorem m6 {B:Int} {q:Rat} (h:(q.den:Int) ∣ B):((fv B q:Int):Rat)=B*q:=by
 obtain⟨c,rfl⟩:=h;have d0:(q.den:Int)≠0:=by have:=q.den_nz; omega
 have z:=oN q;unfold fv;rw [Int.mul_fdiv_cancel_left c d0,P1,P1,<- z];grind
theorem Kb {c:List (List Int×Rat)} {B g:Int} (B0:B≠0) (hd:∀ p∈c,(p.2.den:Int) ∣ B) (g0:g≠0) (gd:∀ p∈c,g ∣ fv B p.2) (gm:∀ d:Int,(∀ p∈c,d ∣ fv B p.2)->d ∣ g)
  (hs:∃ p∈c,(∀ q∈c,tT q.1 p.1=false)/\0 < (fv B p.2).fdiv g):yH c (c.map λp=>(p.1,(fv B p.2).fdiv g)):=by
 have ex:∀ p∈c,g*(fv B p.2).fdiv g=fv B p.2:=λp hp=>by
  obtain⟨x,e⟩:=gd p hp;rw [e,Int.mul_fdiv_cancel_left x g0]
 have gr:(g:Rat)≠0:=by
  intro z;exact g0 (QN.mp (by rw [z]; rfl))
 have tr:∀ p∈c,(((fv B p.2).fdiv g:Int):Rat)=((B:Rat) / g)*p.2:=λp hp=>by
  have e:=congrArg (λz:Int=>(z:Rat)) (ex p hp)
  simp only [P1] at e;rw [m6 (hd p hp)] at e;grind
 refine⟨by rw [QJ]; rfl,⟨(B:Rat) / g,?_,λp hp=>?_,λp hp=>⟨_,P4.mpr ⟨p,hp,rfl⟩,tr p hp⟩⟩,λd h=>?_,?_⟩
 ·intro z;have:(B:Rat)=0:=by grind
  exact B0 (QN.mp (by rw [this]; rfl))
 ·obtain⟨x,hx,rfl⟩:=P4.mp hp;exact⟨x.2,hx,tr x hx⟩
 ·have z:d*g ∣ g:=gm _ λp hp=>by
   obtain⟨x,e⟩:=h _ (P4.mpr ⟨p,hp,rfl⟩);simp only at e;refine⟨x,?_⟩;have:=ex p hp;rw [<- this,e];grind
  obtain⟨y,e⟩:=z;refine⟨y,?_⟩
  have : g * (d * y) = g * 1 := by rw [Int.mul_one]; conv => rhs; rw [e]
                                   grind
  exact(Int.eq_of_mul_eq_mul_left g0 this).symm
 ·obtain⟨p,hp,mx,pos⟩:=hs;refine⟨_,P4.mpr ⟨p,hp,rfl⟩,λq hq=>?_,pos⟩
  obtain⟨x,hx,rfl⟩:=P4.mp hq;exact mx x hx
def lm {α:Type} (f:α->D) (l:List (List Int×α)):List (List Int×D):=l.map λp=>(p.1,f p.2)
abbrev ig:=lm fr
abbrev Lg:=lm D.int
abbrev Mb:=lm (λn:Int=>D.tup [.int n,.int 1])
abbrev lp (l:List (List Int×D)) (ep:Nat):DO:=.gen (.dT l ep)
section
variable {α:Type} {f:α->D}
theorem pJ:∀ {l:List (List Int×α)} {k:List Int},k∉l.map (·.1)->fX (lm f l) k=none
 | [],_,_=>rfl
 | p::l,k,h=>by
  rw [Qd,P8,not_or] at h;have e:fX (lm f (p::l)) k=fX (lm f l) k:=by simp [fX,lm,Qg,Ne.symm h.1]
  rw [e];exact pJ h.2
theorem m_:∀ {l:List (List Int×α)} {k:List Int} {x:α},(l.map (·.1)).Nodup->(k,x)∈l->fX (lm f l) k=some (f x)
 | [],_,_,_,h=>nomatch h
 | p::l,k,x,nd,h=>by
  rw [Qd,QM] at nd;rcases P8.mp h with e | m
  ·subst e;simp [fX,lm]
  ·have ne:p.1≠k:=λz=>nd.1 (P4.mpr ⟨_,m,z.symm⟩)
   have e:fX (lm f (p::l)) k=fX (lm f l) k:=by simp [fX,lm,Qg,ne]
   rw [e];exact m_ nd.2 m
theorem pj {l:List (List Int×α)} {k:List Int} {x:α} (h:k∉l.map (·.1)):t_ (lm f l) k (f x)=lm f (l++[(k,x)]):=by
 unfold t_;rw [pJ h,if_neg (by simp)]
 simp [lm]
theorem gM {l:List (List Int×α)}:(lm f l).length=l.length:=P5 _
theorem wm {l r:List (List Int×α)} {p:List Int×α} (h:((l++p::r).map (·.1)).Nodup):p.1∉l.map (·.1):=by
 rw [List.map_append,Qd,List.nodup_append] at h;exact λm=>h.2.2 _ m _ P_ rfl
end
theorem lim {n:Nat} (h:n<=100):n < sizeLine:=Qb (by omega:n < 300) (Qi (rfl:Nat.ble 300 sizeLine=true))
theorem fi {l:List (List Int×Rat)} {g:List Int×Rat->Bool} (h:(l.map (·.1)).Nodup):((l.filter g).map (·.1)).Nodup:=List.Sublist.nodup (List.Sublist.map _ List.filter_sublist) h
theorem FC {l:List (List Int×Rat)} {g:List Int×Rat->Bool} {k:List Int} (h:k∉l.map (·.1)):k∉(l.filter g).map (·.1):=λm=>h (by
 obtain⟨x,hx,e⟩:=P4.mp m;exact P4.mpr ⟨x,(List.mem_filter.mp hx).1,e⟩)
abbrev nz (l:List (List Int×Rat)):List (List Int×Rat):=l.filter λp=>decide (p.2≠0)
def fC:bC:=λds S k=>∃ (a:Addr) (c:List (List Int×Rat)) (ep:Nat),ds=[.ref a]/\S a=some (lp (ig c) ep)/\(c.map (·.1)).Nodup/\c.length<=100/\∀ S' p ep',cC S S'->S p=none->S' p=some (lp (ig (nz c)) ep')->k (.ref p) S'
theorem dk:ao ["sums","told","key","fraction"] ["sums"] (am fL):=cA
theorem n9 (Fn:bL K "without_noughts" "without_noughts" fL f fd):
  aI P w K mg base ca 1 f fd ["sums"] (cg K fC):=by
 refine Fn.okJ dk (λds S k h=>?_) (λcdv A outer s H E hr=>⟨_,(af (ai (i:=1) dk.nd wo) (af (jY PassesOwn.never rfl (oQ (ac 0)) (nj (n:=2) rfl (cD (aP (i:=2) dk.nd) (cD (aP (i:=3) dk.nd) jX))) (aj (aC (ax Jv (ah ag (ac 3) ae (λ_ _=>rfl)) ae (aF _)) (aj (iU (ac 3) (vx hr (ac 1) (ac 2)))) aG))) (aj (ak (ac 1))))),λds S k h=>?_⟩)
 ·obtain⟨_,_,_,rfl,_⟩:=h
  rfl
 ·obtain⟨a,c,ep,rfl,ha,nd,hl,w⟩:=h;refine λp hp e0=>⟨_,_,eS hp ha,?_⟩
  refine dH (λr L S'=>∃ (don aw:List (List Int×Rat)) (e1:Nat) (l2 l3:Option D),c=don++aw/\r=cN (ig aw)/\L=[some (.ref a),some (.ref p),l2,l3]/\cC S S'/\S' a=some (lp (ig c) ep)/\S' p=some (lp (ig (nz don)) e1)) (λr L S' ⟨_,_,_,_,_,_,_,_,_,h,_⟩=>h) ?_ ?_ _ _ _ ⟨[],c,e0,none,none,rfl,rfl,rfl,cC.new hp,eS hp ha,av⟩
  ·rintro d r L S1 N1 ⟨don,aw,e1,l2,l3,ec,er,rfl,x1,a1,p1⟩ hN;cases aw with
   | nil=>cases er
   | cons q aw=>
    cases er;have nq:=wm (p:=q) (ec▸nd);have lz:(nz don).length<=don.length:=List.length_filter_le _ _;have hd:don.length < 100:=by have:=congrArg List.length ec; rw [Ql,Qe] at this; omega
    have nap:a≠p:=tm ha hp;refine⟨([jC q.1,fr q.2],none),rfl,rfl,rfl,y6 (λh0=>⟨_,_,_,p1,rfl,by rw [gM]; exact lim (by omega),λe2=>hN _ _ ⟨don++[q],aw,e2,_,_,by rw [ec]; simp,rfl,rfl,x1.put hp,by rw [cQ nap]; exact a1,?_⟩⟩) (λh0=>hN _ _ ⟨don++[q],aw,e1,_,_,by rw [ec]; simp,rfl,rfl,x1,a1,?_⟩)⟩
    ·have q0:q.2≠0:=λz=>h0 (by rw [z]; rfl)
     rw [av,pj (FC nq)];simp [nz,List.filter_append,q0]
    ·have q0:q.2=0:=Rf.mp h0;rw [p1];simp [nz,List.filter_append,q0]
  ·rintro L S1 ⟨don,aw,e1,l2,l3,ec,er,rfl,x1,a1,p1⟩;cases aw with
   | cons q aw=>cases er
   | nil=>
    rw [Qn] at ec;subst ec;exact w S1 p e1 x1 hp p1
theorem AX {a b:Int} (ha:0 < a) (hb:0 < b):(a.fdiv ((Int.gcd a b:Nat):Int))*b=((Int.lcm a b:Nat):Int):=by
 have h1:((Int.gcd a b:Nat):Int) ∣ a:=Int.gcd_dvd_left a b;have g0:((Int.gcd a b:Nat):Int)≠0:=by
  have:=Int.gcd_pos_of_ne_zero_left (a:=a) b (by omega)
  omega
 have z:((Int.gcd a b:Nat):Int)*((Int.lcm a b:Nat):Int)=a*b:=by
  have e2:=congrArg (λn:Nat=>(n:Int)) (Int.gcd_mul_lcm a b)
  simp only [Int.natCast_mul] at e2;rw [Int.natAbs_of_nonneg (by omega),Int.natAbs_of_nonneg (by omega)] at e2
  exact e2
 generalize ((Int.gcd a b:Nat):Int)=g at h1 g0 z
 generalize ((Int.lcm a b:Nat):Int)=l at z;obtain⟨x,rfl⟩:=h1;rw [Int.mul_fdiv_cancel_left x g0];refine Int.eq_of_mul_eq_mul_left g0 ?_;rw [z,Int.mul_assoc]
def bH:bC:=λds S k=>∃ a b:Int,ds=[.int a,.int b]/\0 < a/\0 < b/\Bt 20000 a/\Bt 20000 b/\k (.int ((Int.lcm a b:Nat):Int)) S
theorem nZ:ao ["one","other"] ["one","other"] (am fV):=cA
theorem n5 (Fn:bL K "common_multiple" "common_multiple" fV f fd) (bh:aE P w K mg base "common_divisor" 1 bO) (hBl:qL mg base) (hTr:P.given.tree=none):
  aI P w K mg base ca 34 f fd ["one","other"] (cg K bH):=by
 refine Fn.okJ nZ (λds S k h=>?_) (λcdv A outer s H E hr=>⟨_,(aj (ak (ar aM (ar (lR hr hBl hTr rfl rfl rfl (by decide)) (ac 0) (dq bh hr (aa (ac 0) (aa (ac 1) ad)))) (ac 1)))),λds S k h=>?_⟩)
 ·obtain⟨_,_,rfl,_⟩:=h
  rfl
 ·obtain⟨a,b,rfl,ha,hb,ba,bb,w⟩:=h;rw [<- AX ha hb] at w;have g0:((Int.gcd a b:Nat):Int)≠0:=by
   have:=Int.gcd_pos_of_ne_zero_left (a:=a) b (by omega)
   omega
  exact⟨g0,dy (ba.le (HM.aH _ _)) bb,w⟩
def wS:Int->List Rat->Int
 | m,[]=>m
 | m,q::qs=>wS ((Int.lcm m (q.den:Int):Nat):Int) qs
theorem oE {a b:Int} (ha:0 < a) (hb:0 < b):0 < ((Int.lcm a b:Nat):Int):=by
 have:=Int.lcm_pos (m:=a) (n:=b) (by omega) (by omega)
 omega
theorem Hq {m n:Nat} {a b:Int} (ha:0 < a) (hb:0 < b) (ba:Bt m a) (bb:Bt n b):Bt (m+n) ((Int.lcm a b:Nat):Int):=by
 rw [<- AX ha hb];exact(ba.le (HM.aH _ _)).mul bb
theorem fo (q:Rat):0 < (q.den:Int):=by have:=q.den_nz; omega
theorem DR {w:Nat}:∀ {qs:List Rat} {m:Int} {n:Nat},0 < m->Bt n m->(∀ q∈qs,Sz w q)->0 < wS m qs/\Bt (n+w*qs.length) (wS m qs)
 | [],_,_,h0,h,_=>⟨h0,h⟩
 | q::qs,m,n,h0,h,hq=>by
  obtain⟨a,b⟩:=DR (qs:=qs) (oE h0 (fo q)) (Hq h0 (fo q) h (hq q P_).den) λp hp=>hq p (Qa _ hp)
  refine⟨a,b.mono ?_⟩;rw [Qe,Nat.mul_add];omega
theorem rA:∀ {qs:List Rat} {m:Int},m ∣ wS m qs/\∀ q∈qs,(q.den:Int) ∣ wS m qs
 | [],m=>⟨Int.dvd_refl m,λq h=>nomatch h⟩
 | q::qs,m=>by
  obtain⟨a,b⟩:=rA (qs:=qs) (m:=((Int.lcm m (q.den:Int):Nat):Int));refine⟨Int.dvd_trans (Int.dvd_lcm_left ..) a,λp hp=>?_⟩
  rcases P8.mp hp with e | m'
  ·rw [e];exact Int.dvd_trans (Int.dvd_lcm_right ..) a
  ·exact b p m'
theorem mD {n:Nat} {g x:Int} (h:g ∣ x) (x0:x≠0) (b:Bt n x):Bt n g:=b.le (Nat.le_of_dvd (by omega) (QU.mpr h))
theorem zh {B:Int}:∀ {qs:List Rat} {m:Int},m ∣ B->(∀ q∈qs,(q.den:Int) ∣ B)->wS m qs ∣ B
 | [],_,h,_=>h
 | q::qs,m,h,hq=>zh (qs:=qs) (Int.coe_lcm_dvd h (hq q P_)) λp hp=>hq p (Qa _ hp)
theorem vS:∀ {qs:List Rat} {m:Int},0 < m->0 < wS m qs
 | [],_,h=>h
 | q::qs,m,h=>vS (qs:=qs) (oE h (fo q))
theorem Jq {q:Rat} {B t:Int} (b0:B≠0) (e:(B:Rat)*q=t):(q.den:Int) ∣ B:=by
 have r0:(B:Rat)≠0:=λz=>b0 (QN.mp (by rw [z]; rfl))
 have:q=Rat.divInt t B:=by
  rw [QC,<- e];grind
 rw [this];rw [Rat.den_divInt,if_neg b0,Int.ofNat_dvd_left];exact Nat.div_dvd_of_dvd (Nat.gcd_dvd_left _ _)
def fc:bC:=λds S k=>∃ (a:Addr) (qs:List Rat) (B:Int),ds=[.ref a]/\S a=some (.lst (qs.map fr))/\0 < B/\Bt 3000 B/\(∀ q∈qs,(q.den:Int) ∣ B)/\k (.int (wS 1 qs)) S
theorem c9:ao ["fractions","bottom","fraction"] ["fractions"] (am ii):=cA
theorem pO (Fn:bL K "common_bottom" "common_bottom" ii f fd) (aB:aE P w K mg base "common_multiple" 34 bH):
  aI P w K mg base ca 35 f fd ["fractions"] (cg K fc):=by
 refine Fn.okJ c9 (λds S k h=>?_) (λcdv A outer s H E hr=>⟨_,(af (ai (i:=1) c9.nd ae) (af (fh PassesOwn.never rfl (ac 0) (aP (i:=2) c9.nd) (aj (ai (i:=1) c9.nd (dq aB hr (aa (ac 1) (aa (ah ag (ac 2) ae (λ_ _=>rfl)) ad)))))) (aj (ak (ac 1))))),λds S k h=>?_⟩)
 ·obtain⟨_,_,_,rfl,_⟩:=h
  rfl
 ·obtain⟨a,qs,B,rfl,ha,B0,bB,hq,w⟩:=h;refine⟨(qs.map fr,some a),by simp only [bj,ha],?_⟩
  refine dH (λr L S'=>S'=S/\∃ (rs:List Rat) (m:Int) (l2:Option D),L=[some (.ref a),some (.int m),l2]/\r=rs.map fr/\wS 1 qs=wS m rs/\0 < m/\m ∣ B/\∀ q∈rs,(q.den:Int) ∣ B) (λr L S' ⟨e,_⟩=>by rw [e]; exact ha) ?_ ?_ _ _ _ ⟨rfl,qs,1,none,rfl,rfl,rfl,by decide,Int.one_dvd B,hq⟩
  ·rintro d r L S1 N1 ⟨rfl,rs,m,l2,rfl,er,hm,m0,bm,hr⟩ hN;cases rs with
   | nil=>cases er
   | cons q rs=>
    cases er;have hq:=hr q P_;exact⟨m,(q.den:Int),rfl,m0,fo q,(mD bm (by omega) bB).mono (by decide),(mD hq (by omega) bB).mono (by decide),hN _ _ ⟨rfl,rs,_,_,rfl,rfl,hm,oE m0 (fo q),Int.coe_lcm_dvd bm hq,λp hp=>hr p (Qa _ hp)⟩⟩
  ·rintro L S1 ⟨rfl,rs,m,l2,rfl,er,hm,_⟩;cases rs with
   | nil=>rw [hm] at w; exact w
   | cons _ _=>cases er
def Dn (B:Int) (T:Nat) (c:List (List Int×Rat)):Prop:=∀ p∈c,∃ t:Int,Bt T t/\(B:Rat)*p.2=t
theorem Dn.dv {B:Int} {T:Nat} {c:List (List Int×Rat)} (h:Dn B T c) (b0:B≠0):∀ q∈c.map (·.2),(q.den:Int) ∣ B:=λq hq=>by
 obtain⟨p,hp,rfl⟩:=P4.mp hq;obtain⟨t,_,e⟩:=h p hp;exact Jq b0 e
theorem Dn.sz {B:Int} {T n:Nat} {c:List (List Int×Rat)} (h:Dn B T c) (B0:0 < B) (bB:Bt n B) (hT:T<=n):∀ p∈c,Sz n p.2:=λp hp=>by
 obtain⟨t,bt,e⟩:=h p hp;have r0:(B:Rat)≠0:=λz=>by
  have:B=0:=QN.mp (by rw [z]; rfl)
  omega
 have:p.2=Rat.divInt t B:=by
  rw [QC,<- e];grind
 rw [this];exact Sz.divInt (bt.mono hT) bB (by omega)
def jg:bC:=λds S k=>∃ (a:Addr) (c:List (List Int×Rat)) (ep:Nat) (B:Int),ds=[.ref a,.int B]/\S a=some (lp (ig c) ep)/\(c.map (·.1)).Nodup/\c.length<=100/\(∀ p∈c,Sz 4000 p.2)/\Bt 4000 B/\∀ S' p ep',cC S S'->S' p=some (lp (Lg (c.map λx=>(x.1,fv B x.2))) ep')->k (.ref p) S'
theorem iH:ao ["curve","bottom","tops","key","fraction"] ["curve","bottom"] (am lD):=cA
theorem vO (Fn:bL K "tops_over" "tops_over" lD f fd):
  aI P w K mg base ca 1 f fd ["curve","bottom"] (cg K jg):=by
 refine Fn.okJ iH (λds S k h=>?_) (λcdv A outer s H E hr=>⟨_,(af (ai (i:=2) iH.nd wo) (af (jY PassesOwn.never rfl (oQ (ac 0)) (nj (n:=2) rfl (cD (aP (i:=3) iH.nd) (cD (aP (i:=4) iH.nd) jX))) (aj (iU (ar aM (ah ag (ac 4) ae (λ_ _=>rfl)) (ar jh (ac 1) (ah ag (ac 4) ae (λ_ _=>rfl)))) (vx hr (ac 2) (ac 3))))) (aj (ak (ac 2))))),λds S k h=>?_⟩)
 ·obtain⟨_,_,_,_,rfl,_⟩:=h
  rfl
 ·obtain⟨a,c,ep,B,rfl,ha,nd,hl,hz,bB,w⟩:=h;refine λp hp e0=>⟨_,_,eS hp ha,?_⟩
  have nap:a≠p:=tm ha hp;refine dH (λr L S'=>∃ (don aw:List (List Int×Rat)) (e1:Nat) (l2 l3:Option D),c=don++aw/\r=cN (ig aw)/\L=[some (.ref a),some (.int B),some (.ref p),l2,l3]/\cC S S'/\S' a=some (lp (ig c) ep)/\S' p=some (lp (Lg (don.map λx=>(x.1,fv B x.2))) e1)) (λr L S' ⟨_,_,_,_,_,_,_,_,_,h,_⟩=>h) ?_ ?_ _ _ _ ⟨[],c,e0,none,none,rfl,rfl,rfl,cC.new hp,eS hp ha,av⟩
  ·rintro d r L S1 N1 ⟨don,aw,e1,l2,l3,ec,er,rfl,x1,a1,p1⟩ hN;cases aw with
   | nil=>cases er
   | cons q aw=>
    cases er;have nq:=wm (p:=q) (ec▸nd);have hd:don.length < 100:=by have:=congrArg List.length ec; rw [Ql,Qe] at this; omega
    have sq:Sz 4000 q.2:=hz q (by rw [ec]; simp)
    have nk:q.1∉(don.map λx=>(x.1,fv B x.2)).map (·.1):=by rw [QJ]; exact nq
    refine⟨([jC q.1,fr q.2],none),rfl,rfl,rfl,y4 (by have:=fo q.2; omega) sq.den,dy sq.num (bB.le (HM.aH _ _)),_,_,_,p1,rfl,by rw [gM,P5]; exact lim (by omega),λe2=>hN _ _ ⟨don++[q],aw,e2,_,_,by rw [ec]; simp,rfl,rfl,x1.put hp,by rw [cQ nap]; exact a1,?_⟩⟩
    refine av.trans ?_;have z:=pj (f:=D.int) (x:=fv B q.2) nk
    show some (DO.gen (IS.dT (t_ _ q.1 (D.int (fv B q.2))) e2))=_
    rw [z];simp
  ·rintro L S1 ⟨don,aw,e1,l2,l3,ec,er,rfl,x1,a1,p1⟩;cases aw with
   | cons q aw=>cases er
   | nil=>
    rw [Qn] at ec;subst ec;exact w S1 p e1 x1 p1
structure Gp (l:List (List Int×Int)) (g:Int):Prop where
 dv:∀ p∈l,g ∣ p.2
 mx:∀ d:Int,(∀ p∈l,d ∣ p.2)->d ∣ g
 nn:0<=g
theorem Gp.nil:Gp [] 0:=⟨(by simp),(λd _=>Int.dvd_zero d),Int.le_refl 0⟩
theorem Gp.snoc {l:List (List Int×Int)} {g:Int} {p:List Int×Int} (h:Gp l g):Gp (l++[p]) ((Int.gcd g p.2:Nat):Int):=by
 refine⟨λq hq=>?_,λd hd=>Int.dvd_coe_gcd (h.mx d λq hq=>hd q (List.mem_append_left _ hq)) (hd p (by simp)),by omega⟩
 rcases List.mem_append.mp hq with m | m
 ·exact Int.dvd_trans (Int.gcd_dvd_left ..) (h.dv q m)
 ·have e:q=p:=by simpa using m
  rw [e];exact Int.gcd_dvd_right ..
theorem DM {g x:Int} (h:g ∣ x) (h0:x≠0) (hs:(x < 0->g < 0)/\(0 < x->0 < g)):0 < x.fdiv g:=by
 obtain⟨y,rfl⟩:=h;have g0:g≠0:=λz=>h0 (by rw [z,Int.zero_mul])
 rw [Int.mul_fdiv_cancel_left y g0];rcases Int.lt_trichotomy (g*y) 0 with c | c | c
 ·have:=hs.1 c;exact Int.pos_of_mul_neg_left (Int.mul_comm g y▸c) (by omega)
 ·exact absurd c h0
 ·have:=hs.2 c;exact Int.pos_of_mul_pos_left (Int.mul_comm g y▸c) (by omega)
def f':bC:=λds S k=>∃ (a:Addr) (ts:List (List Int×Int)) (ep:Nat),ds=[.ref a]/\S a=some (lp (Lg ts) ep)/\(ts.map (·.1)).Nodup/\ts.length<=100/\ts≠[]/\(∀ p∈ts,∃ i j,p.1=[i,j])/\(∀ p∈ts,p.2≠0/\Bt 8000 p.2)/\
 ∀ S' p ep' g,cC S S'->g≠0->(∀ p∈ts,g ∣ p.2)->(∀ d:Int,(∀ p∈ts,d ∣ p.2)->d ∣ g)->(∃ m∈ts,(∀ q∈ts,tT q.1 m.1=false)/\0 < m.2.fdiv g)->S' p=some (lp (Mb (ts.map λx=>(x.1,x.2.fdiv g))) ep')->k (.ref p) S'
theorem bp:ao ["tops","shared","top","told","key"] ["tops"] (am gD):=cA
theorem oW (Fn:bL K "normal_of_tops" "normal_of_tops" gD f fd) (bh:aE P w K mg base "common_divisor" 1 bO) (lc:mg "max"=none):
  aI P w K mg base ca 2 f fd ["tops"] (cg K f'):=by
 refine Fn.okJ bp (λds S k h=>?_) (λcdv A outer s H E hr=>⟨_,(af (ai (i:=1) bp.nd ae) (af (jY PassesOwn.never rfl (HL (ac 0)) (aP (i:=2) bp.nd) (aj (ai (i:=1) bp.nd (dq bh hr (aa (ac 1) (aa (ac 2) ad)))))) (af (aC (ax uG (vp hr (ac 0) (cI (Jg hr) rfl lc wC (aa (ac 0) ad)) (λ_ _=>rfl)) ae (aF _)) (aj (ai (i:=1) bp.nd (lQ lM (ac 1)))) aG) (af (ai (i:=3) bp.nd wo) (af (jY PassesOwn.never rfl (oQ (ac 0)) (nj (n:=2) rfl (cD (aP (i:=4) bp.nd) (cD (aP (i:=2) bp.nd) jX))) (aj (iU (au (aa (ar jh (ac 2) (ac 1)) (aa ae ad))) (vx hr (ac 3) (ac 4))))) (aj (ak (ac 3)))))))),λds S k h=>?_⟩)
 ·obtain⟨_,_,_,rfl,_⟩:=h
  rfl
 ·obtain⟨a,ts,ep,rfl,ha,nd,hl,ne,two,hz,w⟩:=h;refine⟨_,_,ha,?_⟩;refine dH (λr L S'=>S'=S/\∃ (don aw:List (List Int×Int)) (g:Int) (l2:Option D),ts=don++aw/\r=aw.map (λp=>D.int p.2)/\L=[some (.ref a),some (.int g),l2,none,none]/\Gp don g) (λr L S' ⟨e,_⟩=>by rw [e]; exact ha) ?_ ?_ _ _ _ ⟨rfl,[],ts,0,none,rfl,by show List.map _ (List.map _ ts)=_; rw [QJ]; rfl,rfl,Gp.nil⟩
  ·rintro d r L S1 N1 ⟨rfl,don,aw,g,l2,ec,er,rfl,hg⟩ hN;cases aw with
   | nil=>cases er
   | cons q aw=>
    cases er;exact hN _ _ ⟨rfl,don++[q],aw,_,_,by rw [ec]; simp,rfl,rfl,hg.snoc⟩
  ·rintro L S1 ⟨rfl,don,aw,g,l2,ec,er,rfl,hg⟩;cases aw with
   | cons q aw=>cases er
   | nil=>
    rw [Qn] at ec;subst ec;have mk:∀ m∈Lg ts,∃ x∈ts,m=(x.1,D.int x.2):=λm hm=>by
     obtain⟨x,hx,rfl⟩:=P4.mp hm;exact⟨x,hx,rfl⟩
    have aw:∀ g':Int,g'≠0->(∀ p∈ts,g' ∣ p.2)->(∀ d:Int,(∀ p∈ts,d ∣ p.2)->d ∣ g')->(∃ m∈ts,(∀ q∈ts,tT q.1 m.1=false)/\0 < m.2.fdiv g')->
      (zB (EO 3 Iy) (zB (Ij (HV (kD 0) cN) (DZ 2 (wx (mf 4) (wx (mf 2) FU))) (Le (DY (nJ (xM MV (kD 2) (kD 1)) (nJ (dC (D.int 1)) y8))) (Ff (kD 3) (kD 4)))) (Jt (kD 3)))) {nx:=λ_ S'=>k D.non S',rt:=k} [some (D.ref a),some (D.int g'),l2,none,none] S1:=by
     intro g' g0 gd gm gs;have gb:Bt 8000 g':=by
      obtain⟨m,hm,_⟩:=gs;exact mD (gd m hm) (hz m hm).1 (hz m hm).2
     refine λp hp e0=>⟨_,_,eS hp ha,?_⟩
     have nap:a≠p:=tm ha hp;refine dH (λr L S'=>∃ (don aw:List (List Int×Int)) (e1:Nat) (l2 l3:Option D),ts=don++aw/\r=cN (Lg aw)/\L=[some (.ref a),some (.int g'),l2,some (.ref p),l3]/\cC S1 S'/\S' a=some (lp (Lg ts) ep)/\S' p=some (lp (Mb (don.map λx=>(x.1,x.2.fdiv g'))) e1)) (λr L S' ⟨_,_,_,_,_,_,_,_,_,h,_⟩=>h) ?_ ?_ _ _ _ ⟨[],ts,e0,l2,none,rfl,rfl,rfl,cC.new hp,eS hp ha,av⟩
     ·rintro d r L S2 N1 ⟨don,aw,e1,l2,l3,ec,er,rfl,x1,a1,p1⟩ hN;cases aw with
      | nil=>cases er
      | cons q aw=>
       cases er;have nq:=wm (p:=q) (ec▸nd);have hd:don.length < 100:=by have:=congrArg List.length ec; rw [Ql,Qe] at this; omega
       have nk:q.1∉(don.map λx=>(x.1,x.2.fdiv g')).map (·.1):=by rw [QJ]; exact nq
       refine⟨([jC q.1,.int q.2],none),rfl,rfl,rfl,y4 g0 gb,few,_,_,_,p1,rfl,by rw [gM,P5]; exact lim (by omega),λe2=>hN _ _ ⟨don++[q],aw,e2,_,_,by rw [ec]; simp,rfl,rfl,x1.put hp,by rw [cQ nap]; exact a1,?_⟩⟩
       refine av.trans ?_;have z:=pj (f:=λn:Int=>D.tup [.int n,.int 1]) (x:=q.2.fdiv g') nk
       show some (DO.gen (IS.dT (t_ _ q.1 (D.tup [.int (q.2.fdiv g'),.int 1])) e2))=_
       rw [z];simp
     ·rintro L S2 ⟨don,aw,e1,l2,l3,ec,er,rfl,x1,a1,p1⟩;cases aw with
      | cons q aw=>cases er
      | nil=>
       rw [Qn] at ec;subst ec;exact w S2 p e1 g' x1 g0 gd gm gs p1
    refine⟨_,_,ha,λz=>ne (List.map_eq_nil_iff.mp z),λm hm=>?_,λm hm mx=>?_⟩
    ·obtain⟨x,hx,rfl⟩:=mk m hm;exact two x hx
    ·obtain⟨x,hx,rfl⟩:=mk m hm;have g0:g≠0:=λz=>by
      have:=hg.dv x hx;rw [z] at this;exact(hz x hx).1 (Int.zero_dvd.mp this)
     have mx':∀ q∈ts,tT q.1 x.1=false:=λq hq=>mx (q.1,.int q.2) (P4.mpr ⟨q,hq,rfl⟩)
     have gn:=hg.nn;refine⟨_,_,x.1,_,ha,rfl,m_ nd hx,aU (λneg=>aw (-g) (by omega) (λp hp=>Int.neg_dvd.mpr (hg.dv p hp)) (λd hd=>Int.dvd_neg.mpr (hg.mx d hd)) ⟨x,hx,mx',DM (Int.neg_dvd.mpr (hg.dv x hx)) (hz x hx).1 ⟨λ_=>by omega,λz=>by omega⟩⟩) (λpos=>aw g g0 hg.dv hg.mx ⟨x,hx,mx',DM (hg.dv x hx) (hz x hx).1 ⟨λz=>absurd z pos,λ_=>by omega⟩⟩)⟩
def lI:bC:=λds S k=>∃ (a:Addr) (c:List (List Int×Rat)) (ep:Nat) (B0:Int),ds=[.ref a]/\S a=some (lp (ig c) ep)/\(c.map (·.1)).Nodup/\c.length<=100/\c≠[]/\(∀ p∈c,∃ i j,p.1=[i,j])/\(∀ p∈c,p.2≠0)/\0 < B0/\Bt 600 B0/\Dn B0 600 c/\∀ S' p ep' ns,cC S S'->yH c ns->S' p=some (lp (Mb ns) ep')->k (.ref p) S'
theorem Ca:ao ["curve"] ["curve"] (am tj):=cA
theorem BH (Fn:bL K "normal" "normal" tj f fd) (gE:aE P w K mg base "normal_of_tops" 2 f') (fk:aE P w K mg base "tops_over" 1 jg) (cF:aE P w K mg base "common_bottom" 35 fc) (fY:mg "len"=none) (pE:mg "list"=none):
  aI P w K mg base ca 36 f fd ["curve"] (cg K lI):=by
 refine Fn.okJ Ca (λds S k h=>?_) (λcdv A outer s H E hr=>⟨_,(af (aC (ax nA (cI EN rfl fY qe (aa (ac 0) ad)) ae (aF _)) (aj dj) aG) (aj (ak (dq gE hr (aa (dq fk hr (aa (ac 0) (aa (dq cF hr (aa (yg rfl rfl pE (ac 0)) ad)) ad))) ad))))),λds S k h=>?_⟩)
 ·obtain⟨_,_,_,_,rfl,_⟩:=h
  rfl
 ·obtain⟨a,c,ep,B1,rfl,ha,nd,hl,ne,two,n0,B1p,bB1,hD,w⟩:=h;have hz:∀ p∈c,p.2≠0/\Sz 600 p.2:=λp hp=>⟨n0 p hp,hD.sz B1p bB1 (by decide) p hp⟩
  have l0:((ig c).length:Int)≠0:=by rw [gM]; exact λz=>ne (Rg.mp (by omega))
  refine⟨_,_,ha,aU (λz=>absurd z l0) (λ_=>?_)⟩
  refine⟨_,_,ha,λq hq=>?_⟩
  have x1:cC S (put S q (.lst ((lm fr c).map (·.2)))):=cC.new hq;have e1:(lm fr c).map (·.2)=(c.map (·.2)).map fr:=by unfold lm; rw [QJ,QJ]; rfl
  have y1:put S q (.lst ((lm fr c).map (·.2))) q=some (.lst ((c.map (·.2)).map fr)):=by rw [av,e1]
  generalize put S q (.lst ((lm fr c).map (·.2)))=S1 at x1 y1
  have B0:0 < wS 1 (c.map (·.2)):=vS (by decide)
  have dvd1:wS 1 (c.map (·.2)) ∣ B1:=zh (Int.one_dvd _) (hD.dv (by omega))
  have dv:=(rA (qs:=c.map (·.2)) (m:=1)).2;refine⟨q,_,B1,rfl,y1,B1p,bB1.mono (by decide),hD.dv (by omega),?_⟩
  have bB':Bt 600 (wS 1 (c.map (·.2))):=mD dvd1 (by omega) bB1
  clear dvd1;generalize wS 1 (c.map (·.2))=B at B0 bB' dv
  have dv':∀ p∈c,(p.2.den:Int) ∣ B:=λp hp=>dv p.2 (P4.mpr ⟨p,hp,rfl⟩)
  have top0:∀ p∈c,fv B p.2≠0:=λp hp z=>by
   have e:=m6 (dv' p hp);rw [z] at e;have b0:(B:Rat)≠0:=λy=>by
    have:B=0:=QN.mp (by rw [y]; rfl)
    omega
   have p0:=(hz p hp).1;have e2:(B:Rat)*p.2=0:=by rw [<- e]; rfl
   rcases Qf.mp e2 with y | y
   ·exact b0 y
   ·exact p0 y
  refine⟨a,c,ep,B,rfl,x1 _ _ ha,nd,by omega,λp hp=>(hz p hp).2.mono (by decide),bB'.mono (by decide),λS2 p2 e2 x2 h2=>?_⟩
  have tk:(c.map λx=>(x.1,fv B x.2)).map (·.1)=c.map (·.1):=by rw [QJ]; rfl
  refine⟨p2,_,e2,rfl,h2,by rw [tk]; exact nd,by rw [P5]; omega,λz=>ne (List.map_eq_nil_iff.mp z),λp hp=>?_,λp hp=>?_,λS3 p3 e3 g x3 g0 gd gm gs h3=>?_⟩
  ·obtain⟨x,hx,rfl⟩:=P4.mp hp;exact two x hx
  ·obtain⟨x,hx,rfl⟩:=P4.mp hp;exact⟨top0 x hx,(((hz x hx).2.num).mul (bB'.le (HM.aH _ _))).mono (by decide)⟩
  ·have n1:yH c (c.map λp=>(p.1,(fv B p.2).fdiv g)):=Kb (by omega) dv' g0 (λp hp=>gd (p.1,fv B p.2) (P4.mpr ⟨p,hp,rfl⟩)) (λd hd=>gm d λp hp=>by
     obtain⟨x,hx,rfl⟩:=P4.mp hp;exact hd x hx) (by
     obtain⟨m,hm,mx,pos⟩:=gs;obtain⟨x,hx,rfl⟩:=P4.mp hm;exact⟨x,hx,λq hq=>mx (q.1,fv B q.2) (P4.mpr ⟨q,hq,rfl⟩),pos⟩)
   rw [QJ] at h3;exact w S3 p3 e3 _ ((x1.trans x2).trans x3) n1 h3
theorem uJ {α:Type} {f:α->D}:∀ {aw don:List (List Int×α)},((don++aw).map (·.1)).Nodup->jt (lm f don) (lm f aw)=lm f (don++aw)
 | [],don,_=>by rw [Qn]; rfl
 | p::aw,don,nd=>by
  have e:jt (lm f don) (lm f (p::aw))=jt (t_ (lm f don) p.1 (f p.2)) (lm f aw):=rfl;rw [e,pj (wm nd),uJ (by rw [List.append_assoc]; exact nd),List.append_assoc]
  rfl
theorem p_ {α:Type} {f:α->D} {l:List (List Int×α)} (h:(l.map (·.1)).Nodup):jt [] (lm f l)=lm f l:=uJ (f:=f) (don:=[]) h
abbrev lg (a b r:Rat):List (List Int×Rat):=[([1,0],a),([0,1],b),([0,0],r)]
theorem AT {w m:Nat} {c:List (List Int×Rat)} (hz:∀ p∈c,Sz w p.2) (hl:c.length<=m):∃ B,0 < B/\Bt (1+w*m) B/\Dn B (w+(1+w*m)) c:=by
 have z:=DR (w:=w) (qs:=c.map (·.2)) (m:=1) (n:=1) (by decide) (by decide) (λq hq=>by
  obtain⟨p,hp,rfl⟩:=P4.mp hq;exact hz p hp)
 have bB:=z.2.mono (show 1+w*(c.map (·.2)).length<=1+w*m by rw [P5]; exact Nat.add_le_add_left (Nat.mul_le_mul_left _ hl) _)
 exact⟨_,z.1,bB,λp hp=>⟨fv (wS 1 (c.map (·.2))) p.2,(hz p hp).num.mul (bB.le (HM.aH _ _)),(m6 ((rA (m:=1)).2 _ (Q7 hp))).symm⟩⟩
theorem Dn.up {B:Int} {T T':Nat} {c:List (List Int×Rat)} (h:Dn B T c) (hT:T<=T'):Dn B T' c:=λp hp=>by
 obtain⟨t,bt,e⟩:=h p hp;exact⟨t,bt.mono hT,e⟩
def mL:bC:=λds S k=>∃ x y a b:Rat,ds=[W x y,W a b]/\Sz 400 x/\Sz 400 y/\Sz 40 a/\Sz 40 b/\∀ S' p ep',cC S S'->S' p=some (lp (ig (nz (lg a b (-(x*a+y*b))))) ep')->k (.ref p) S'
theorem wT:ao ["place","across"] ["place","across"] (am lA):=cA
theorem xj (Fn:bL K "line_from" "line_from" lA f fd) (fw:aE P w K mg base "without_noughts" 1 fC) (aL:aE P w K mg base "negative" 1 cV) (aq:aE P w K mg base "product_of_ways" 36 aQ):
  aI P w K mg base ca 37 f fd ["place","across"] (cg K mL):=by
 refine Fn.okJ wT (λds S k h=>?_) (λcdv A outer s H E hr=>⟨_,(aj (ak (dq fw hr (aa (Ab hr (ni (au (aa ae (aa ae ad))) (ah ag (ac 1) ae (λ_ _=>rfl)) (ni (au (aa ae (aa ae ad))) (ah ag (ac 1) ae (λ_ _=>rfl)) (ni (au (aa ae (aa ae ad))) (dq aL hr (aa (dq aq hr (aa (ac 0) (aa (ac 1) ad))) ad)) C8)))) ad)))),λds S k h=>?_⟩)
 ·obtain⟨_,_,_,_,rfl,_⟩:=h
  rfl
 ·obtain⟨x,y,a,b,rfl,hx,hy,ha,hb,w⟩:=h;refine λp hp e0=>⟨few,few,few,x,y,a,b,rfl,hx.mono (by decide),hy.mono (by decide),ha.mono (by decide),hb.mono (by decide),_,rfl,e0,ig (lg a b (-(x*a+y*b))),av,rfl,by show 3<=15; decide,λe1=>?_⟩
  refine⟨p,lg a b (-(x*a+y*b)),e1,rfl,by rw [av,p_ (f:=fr) (l:=lg a b (-(x*a+y*b))) (by show(([[1,0],[0,1],[0,0]]:List (List Int))).Nodup; decide)],(by show(([[1,0],[0,1],[0,0]]:List (List Int))).Nodup; decide),by show 3<=100; decide,λS' q e' xx _ hh=>w S' q e' (((cC.new hp).put hp).trans xx) hh⟩
theorem jv {a b r:Rat}:((lg a b r).map (·.1)).Nodup:=by show(([[1,0],[0,1],[0,0]]:List (List Int))).Nodup; decide
theorem eG {l:List (List Int×Rat)} {p:List Int×Rat}:p∈nz l↔p∈l/\p.2≠0:=by
 rw [List.mem_filter];simp
theorem zF {l:List (List Int×Rat)}:(nz l).length<=l.length:=List.length_filter_le _ _
theorem HJ {a b r:Rat}:∀ p∈lg a b r,∃ i j,p.1=[i,j]:=by
 intro p hp;simp only [P8,Qh,or_false] at hp;rcases hp with rfl | rfl | rfl <;> exact⟨_,_,rfl⟩
theorem Kx {a b r:Rat} {P:Rat->Prop} (ha:P a) (hb:P b) (hr:P r):∀ p∈lg a b r,P p.2:=by
 intro p hp;simp only [P8,Qh,or_false] at hp;rcases hp with rfl | rfl | rfl <;> assumption
theorem MM {a b:Rat} (h:a*a+b*b≠0):a≠0\/b≠0:=by
 by_cases z:a=0
 ·refine .inr λy=>h ?_
  rw [z,y];grind
 ·exact .inl z
theorem Js {a b r:Rat} (h:a*a+b*b≠0):nz (lg a b r)≠[]:=by
 rcases MM h with z | z
 ·exact List.ne_nil_of_mem (eG.mpr ⟨P_,z⟩)
 ·exact List.ne_nil_of_mem (eG.mpr ⟨Qa _ P_,z⟩)
set_option maxHeartbeats 4000000
section
variable {α:Type} {f:α->D}
def gA (z:α) (c:List (List Int×α)) (k:List Int):α:=((c.find? λp=>decide (p.1=k)).map (·.2)).getD z
theorem dQ {z:α}:∀ {c:List (List Int×α)} {k:List Int},k∉c.map (·.1)->gA z c k=z
 | [],_,_=>rfl
 | p::l,k,h=>by
  rw [Qd,P8,not_or] at h;have e:gA z (p::l) k=gA z l k:=by simp [gA,Qg,Ne.symm h.1]
  rw [e];exact dQ h.2
theorem gH {z:α}:∀ {c:List (List Int×α)} {k:List Int} {x:α},(c.map (·.1)).Nodup->(k,x)∈c->gA z c k=x
 | [],_,_,_,h=>nomatch h
 | p::l,k,x,nd,h=>by
  rw [Qd,QM] at nd;rcases P8.mp h with e | m
  ·subst e;simp [gA]
  ·have ne:p.1≠k:=λz=>nd.1 (P4.mpr ⟨_,m,z.symm⟩)
   have e:gA z (p::l) k=gA z l k:=by simp [gA,Qg,ne]
   rw [e];exact gH nd.2 m
theorem F2 {z:α} {c:List (List Int×α)} {k:List Int}:(fX (lm f c) k).getD (f z)=f (gA z c k):=by
 induction c with
 | nil=>rfl
 | cons p l ih=>
  by_cases h:p.1=k
  ·simp [fX,lm,gA,h]
  ·have e1:fX (lm f (p::l)) k=fX (lm f l) k:=by simp [fX,lm,Qg,h]
   have e2:gA z (p::l) k=gA z l k:=by simp [gA,Qg,h]
   rw [e1,e2,ih]
theorem ou {z:α} {c:List (List Int×α)} (k:List Int) (nd:(c.map (·.1)).Nodup):k∉c.map (·.1)\/(k,gA z c k)∈c:=by
 by_cases h:k∈c.map (·.1)
 ·obtain⟨p,hp,rfl⟩:=P4.mp h;exact .inr (by rw [gH (x:=p.2) nd hp]; exact hp)
 ·exact .inl h
end
abbrev gR:=gA (0:Rat)
theorem pI {α:Type} [BEq α] [LawfulBEq α]:∀ {l l':List α},l.Nodup->(∀ x∈l,x∈l')->l.length<=l'.length
 | [],_,_,_=>QW _
 | a::l,l',nd,h=>by
  rw [QM] at nd;have ma:=h a P_;have z:=pI (l:=l) (l':=l'.erase a) nd.2 λx hx=>(List.mem_erase_of_ne λe=>nd.1 (by rw [<- e]; exact hx)).mpr (h x (Qa _ hx))
  rw [List.length_erase_of_mem ma] at z;have:0 < l'.length:=List.length_pos_of_mem ma;rw [Qe];omega
structure Cv (n m:Nat) (b:Int) (c:List (List Int×Rat)):Prop where
 nd:(c.map (·.1)).Nodup
 hl:c.length<=n
 sm:∀ p∈c,∃ i j:Int,p.1=[i,j]/\0<=i/\0<=j/\i<=b/\j<=b
 hz:∀ p∈c,Sz m p.2
theorem Cv.two {n m:Nat} {b:Int} {c:List (List Int×Rat)} (h:Cv n m b c):∀ p∈c,∃ i j,p.1=[i,j]:=λp hp=>by
 obtain⟨i,j,e,_⟩:=h.sm p hp;exact⟨i,j,e⟩
theorem Cv.sz {n m:Nat} {b:Int} {c:List (List Int×Rat)} (h:Cv n m b c) (m0:1<=m) (k:List Int):Sz m (gR c k):=by
 rcases ou (z:=(0:Rat)) k h.nd with x | x
 ·rw [show gR c k=0 from dQ x]
  exact Sz.mono (m:=1) ⟨by decide,by decide⟩ m0
 ·exact h.hz _ x
theorem Cv.mono {n m n' m':Nat} {b b':Int} {c:List (List Int×Rat)} (h:Cv n m b c) (hn:n<=n') (hm:m<=m') (hb:b<=b'):Cv n' m' b' c:=⟨h.nd,QH h.hl hn,λp hp=>by
 obtain⟨i,j,e,a1,a2,a3,a4⟩:=h.sm p hp;exact⟨i,j,e,a1,a2,by omega,by omega⟩,λp hp=>(h.hz p hp).mono hm⟩
theorem FD {c:List (List Int×Rat)} (nd:(c.map (·.1)).Nodup) (k:List Int):gR (nz c) k=gR c k:=by
 rcases ou (z:=(0:Rat)) k nd with q | q
 ·rw [show gR c k=0 from dQ q]
  exact dQ (FC q)
 ·by_cases z:gR c k=0
  ·rw [z];refine dQ λy=>?_
   obtain⟨p,hp,rfl⟩:=P4.mp y;obtain⟨hp,p0⟩:=eG.mp hp;exact p0 ((gH nd hp).symm.trans z)
  ·exact gH (fi nd) (eG.mpr ⟨q,z⟩)
structure OI (φ:List Int->Rat) (g:List (List Int×Rat)):Prop where
 nd:(g.map (·.1)).Nodup
 two:∀ p∈g,∃ i j,p.1=[i,j]
 n0:∀ p∈g,p.2≠0
 at_:∀ k,gR g k=φ k
theorem OI.mem {φ:List Int->Rat} {g:List (List Int×Rat)} (h:OI φ g) {p:List Int×Rat}:p∈g↔p.2≠0/\φ p.1=p.2:=by
 refine⟨λhp=>⟨h.n0 p hp,by rw [<- h.at_ p.1]; exact gH h.nd hp⟩,λ⟨n,e⟩=>?_⟩
 rcases ou (z:=(0:Rat)) p.1 h.nd with q | q
 ·exact absurd (by rw [<- e,<- h.at_ p.1]; exact dQ q) n
 ·have:gR g p.1=p.2:=by rw [h.at_ p.1,e]
  rw [show gA 0 g p.1=p.2 from this] at q
  exact q
def oY (s o i:Rat):Prop:=o+i - 4*s < 0\/(o+i - 4*s)*(o+i - 4*s) < 4*(o*i)
instance (s o i:Rat):Decidable (oY s o i):=inferInstanceAs (Decidable (_\/_))
theorem E5 {q:Rat}:BI q < 0↔q < 0:=by
 unfold BI
 split
 ·constructor
  ·intro z; omega
  ·intro z; grind
 ·split
  ·exact⟨λ_=>by assumption,λ_=>by decide⟩
  ·exact⟨λz=>by omega,λz=>by contradiction⟩
theorem B_ {a u:Rat}:rm a 0 u < 0↔a < 0:=by
 unfold rm
 split
 ·exact E5
 ·rename_i h
  have:¬ a < 0:=λz=>h (by have:=Qu (show 0 < -a by grind) (show 0 < -a by grind); grind)
  exact⟨λz=>by rw [DX] at z; omega,λz=>absurd z this⟩
theorem Gg {l r q:Rat} (r0:0<=r) (rr:r*r=q):l < r↔l < 0\/l*l < q:=by
 subst rr
 constructor
 ·intro h;rcases(Rat.le_total:(0:Rat)<=l\/l<=0) with p | p
  ·refine .inr ?_;have h1:=Qu (show 0 < r - l by grind) (show 0 < r by grind)
   have h2:=Qo p (show 0<=r - l by grind)
   grind
  ·by_cases z:l=0
   ·refine .inr ?_;subst z;have:=Qu h h;grind
   ·exact .inl (by grind)
 ·rintro(h | h)
  ·grind
  ·rcases(Rat.le_total:r<=l\/l<=r) with p | p
   ·have h1:=Qo (show 0<=l - r by grind) (show 0<=l by grind)
    have h2:=Qo r0 (show 0<=l - r by grind)
    grind
   ·by_cases z:l=r
    ·subst z; grind
    ·grind
theorem FM {s o i r u:Rat} (o0:0 < o) (i0:0 < i) (r0:0<=r) (rr:r*r=4*(o*i)):(rm (o+i+sg r (-(4*(o*i))) - 4*s) (0 - 0) u < 0)↔oY s o i:=by
 have p:=Qu o0 i0;rw [show sg r (-(4*(o*i)))=-r by unfold sg; rw [if_pos (by grind)],show(0:Rat) - 0=0 by grind,B_]
 unfold oY;rw [<- Gg r0 rr]
 constructor <;> intro h <;> grind
theorem DD {s o i:Rat} (o0:0 < o) (i0:0 < i) (no:lf (4*(o*i))):(rm (o+i - 4*s) (-1 - 0) (4*(o*i)) < 0)↔oY s o i:=by
 have p:=Qu o0 i0;have ne:(o+i - 4*s)*(o+i - 4*s)≠4*(o*i):=no _;rw [show (-1:Rat) - 0=-1 by grind]
 unfold oY rm
 split
 ·rename_i h
  rw [E5]
  constructor
  ·exact .inl
  ·rintro(z | z)
   ·exact z
   ·exfalso; grind
 ·rename_i h
  refine⟨λ_=>.inr ?_,λ_=>by decide⟩
  grind
theorem AK {a b V m:Rat} (e:m*(a*a+b*b)=V):a*-m*(a*-m)+b*-m*(b*-m)=m*V:=by grind
theorem Eh {a b V m:Rat} (e:m*(a*a+b*b)=V) (v0:V≠0):m≠0:=λz=>v0 (by rw [<- e,z]; grind)
theorem JV {a b r x y m:Rat} (e:m*(a*a+b*b)=a*x+b*y+r):0 - ((x+a*-m*(1 / 2) - x)*x+(y+b*-m*(1 / 2) - y)*y+1 / 2*(m*(a*x+b*y+r)+m*(a*x+b*y+r) - m*(a*x+b*y+r)))=r*(-m*(1 / 2)):=by grind
theorem fx {x t:Rat}:x+t - x=t:=by grind
theorem yk {a b V m:Rat} (e:m*(a*a+b*b)=V) (h0:a*a+b*b≠0) (v0:V≠0):0 < m*V:=by
 have m0:=Eh e v0;have h1:0<=a*a:=by
  rcases(Rat.le_total:(0:Rat)<=a\/a<=0) with h | h
  ·exact Qo h h
  ·have:=Qo (show 0<=-a by grind) (show 0<=-a by grind); grind
 have h2:0<=b*b:=by
  rcases(Rat.le_total:(0:Rat)<=b\/b<=0) with h | h
  ·exact Qo h h
  ·have:=Qo (show 0<=-b by grind) (show 0<=-b by grind); grind
 have h3:0 < a*a+b*b:=by grind
 have h4:0 < m*m:=by
  rcases(Rat.le_total:(0:Rat)<=m\/m<=0) with h | h
  ·exact Qu (by grind) (by grind)
  ·have:=Qu (show 0 < -m by grind) (show 0 < -m by grind); grind
 have q:=Qu h4 h3;have e3:m*m*(a*a+b*b)=m*V:=by rw [<- e]; grind
 rw [e3] at q;exact q
theorem yY {a b V m x y:Rat} (e:m*(a*a+b*b)=V) (h0:a*a+b*b≠0) (v0:V≠0):oY ((x+a*-m*(1 / 2) - x)*(x+a*-m*(1 / 2) - x)+(y+b*-m*(1 / 2) - y)*(y+b*-m*(1 / 2) - y)) (m*V+m*V) (m*V):=by
 have p:=yk e h0 v0;have q:=Qu p p;have e2:4*((x+a*-m*(1 / 2) - x)*(x+a*-m*(1 / 2) - x)+(y+b*-m*(1 / 2) - y)*(y+b*-m*(1 / 2) - y))=m*V:=by
  rw [fx,fx,<- AK e];grind
 unfold oY;rw [e2];refine .inr ?_;generalize m*V=s at p q
 grind
theorem HY {a b m x y:Rat} (m0:m≠0) (h0:a*a+b*b≠0) (h:x+a*-m*(1 / 2)=x/\y+b*-m*(1 / 2)=y):False:=by
 have e1:a*m=0:=by have:=h.1; grind
 have e2:b*m=0:=by have:=h.2; grind
 have a0:a=0:=(Qf.mp e1).resolve_right m0;have b0:b=0:=(Qf.mp e2).resolve_right m0;exact h0 (by rw [a0,b0]; grind)
theorem eq_int {n:Nat} {i j:Int}:jQ n (.int i) (.int j)=some (i == j):=by cases n <;> rfl
theorem lF {n:Nat} {p q:Rat}:jQ (n+1) (fr p) (fr q)=some (decide (p=q)):=by
 show jM (jQ n) [.int p.num,.int (p.den:Int)] [.int q.num,.int (q.den:Int)]=_
 show(match jQ n (.int p.num) (.int q.num),(match jQ n (.int (p.den:Int)) (.int (q.den:Int)),some true with | some a,some b=>some (a && b) | _,_=>none) with | some a,some b=>some (a && b) | _,_=>none)=_
 rw [eq_int,eq_int]
 show some ((p.num == q.num) && (((p.den:Int) == (q.den:Int)) && true))=_
 congr 1
 rw [Bool.and_true,Bool.eq_iff_iff];simp only [QI,beq_iff_eq,Q5];exact⟨λ⟨a,b⟩=>Rat.ext a (by exact_mod_cast b),λh=>by subst h; exact⟨rfl,rfl⟩⟩
theorem l5 {n:Nat} {a b c d:D} {p q:Bool} (h1:jQ n a c=some p) (h2:jQ n b d=some q):jQ (n+1) (.tup [a,b]) (.tup [c,d])=some (p && q):=by
 show(match jQ n a c,(match jQ n b d,some true with | some a,some b=>some (a && b) | _,_=>none) with | some a,some b=>some (a && b) | _,_=>none)=_
 rw [h1,h2]
 show some (p && (q && true))=_
 rw [Bool.and_true]
theorem E4 {n:Nat} {q:Rat}:jQ (n+1) (fr q) (fr q)=some true:=by rw [lF,decide_eq_true rfl]
theorem Fx {x y z v:Rat}:jQ 8 (PP x y) (PP z v)=some (decide (x=z/\y=v)):=by
 have h:=l5 (n:=7) (l5 (n:=6) (lF (n:=5) (p:=x) (q:=z)) (E4 (n:=5) (q:=0))) (l5 (n:=6) (lF (n:=5) (p:=y) (q:=v)) (E4 (n:=5) (q:=0)));rw [show decide (x=z/\y=v)=((decide (x=z) && true) && (decide (y=v) && true)) by simp]
 exact h
def OR {α:Type} (c c':List α):Prop:=(∀ p∈c,p∈c')/\∀ p∈c',p∈c
theorem sW {α:Type} {c c':List (List Int×α)} (nd:(c.map (·.1)).Nodup) (h:∀ p∈c,p∈c'):c.length<=c'.length:=by
 have:=pI nd (l':=c'.map (·.1)) λx hx=>by
  obtain⟨p,hp,rfl⟩:=P4.mp hx;exact P4.mpr ⟨p,h p hp,rfl⟩
 rw [P5,P5] at this;exact this
theorem Ji {c c':List (List Int×Rat)} (nd:(c.map (·.1)).Nodup) (nd':(c'.map (·.1)).Nodup) (hl:c.length=c'.length) (h:∀ p∈c,p∈c'):∀ p∈c',p∈c:=λp hp=>by
 refine Classical.byContradiction λn=>?_
 have n2:p.1∉c.map (·.1):=λz=>by
  obtain⟨q,hq,e⟩:=P4.mp z;have e1:gR c' p.1=p.2:=gH nd' hp;have e2:gR c' p.1=q.2:=by rw [<- e]; exact gH nd' (h q hq)
  exact n (by rw [show p=q from Qk e.symm (e1.symm.trans e2)]; exact hq)
 have:=sW (c:=p::c) (c':=c') (by rw [Qd,QM]; exact⟨n2,nd⟩) λx hx=>by
  rcases P8.mp hx with rfl | m
  ·exact hp
  ·exact h x m
 rw [Qe] at this;omega
theorem Nh {c':List (List Int×Rat)} (nd':(c'.map (·.1)).Nodup):∀ (c:List (List Int×Rat)),∃ r,HH (ig c') (ig c) r/\(r=true↔∀ p∈c,p∈c')
 | []=>⟨true,rfl,⟨λ_ p h=>(nomatch h),λ_=>rfl⟩⟩
 | p::c=>by
  obtain⟨r,h,e⟩:=Nh nd' c;rcases ou (z:=(0:Rat)) p.1 nd' with q | q
  ·exact⟨false,.inl ⟨pJ q,rfl⟩,⟨λz=>(nomatch z),λz=>absurd (P4.mpr ⟨p,z p P_,rfl⟩) q⟩⟩
  ·refine⟨_,.inr ⟨_,decide (p.2=gR c' p.1),r,m_ nd' q,lF (n:=5),h,rfl⟩,?_⟩;rw [QI,Q5,e];refine⟨λ⟨a,b⟩ x hx=>?_,λz=>⟨?_,λx hx=>z x (Qa _ hx)⟩⟩
   ·rcases P8.mp hx with rfl | m
    ·have q:(x.1,gR c' x.1)∈c':=q;rw [<- a] at q;exact q
    ·exact b x m
   ·exact(gH nd' (z p P_)).symm
theorem O0 {c c':List (List Int×Rat)} (nd:(c.map (·.1)).Nodup) (nd':(c'.map (·.1)).Nodup):∃ r,NM (ig c) (ig c') r/\(r=true↔OR c c'):=by
 by_cases hl:c.length=c'.length
 ·obtain⟨r,h,e⟩:=Nh nd' c;refine⟨r,.inr ⟨by rw [gM,gM,hl],h⟩,?_⟩
  rw [e];exact⟨λz=>⟨z,Ji nd nd' hl z⟩,λz=>z.1⟩
 ·refine⟨false,.inl ⟨by rw [gM,gM]; exact hl,rfl⟩,⟨λz=>(nomatch z),λz=>?_⟩⟩
  have a:=sW nd z.1;have b:=sW nd' z.2;omega
def rT (ns:List (List Int×Int)):List (List Int×Rat):=ns.map λp=>(p.1,(p.2:Rat))
theorem C9 {ns:List (List Int×Int)}:Mb ns=ig (rT ns):=by
 show _=List.map _ (List.map _ ns)
 rw [QJ]
 rfl
theorem j9 {ns:List (List Int×Int)}:(rT ns).map (·.1)=ns.map (·.1):=by
 unfold rT;rw [QJ]
 rfl
theorem wB {ns:List (List Int×Int)} {k:List Int} {n:Int} (h:(k,n)∈ns):(k,(n:Rat))∈rT ns:=P4.mpr ⟨_,h,rfl⟩
theorem Aw {ns ns':List (List Int×Int)} (h:∀ p∈ns,p∈ns'):∀ p∈rT ns,p∈rT ns':=λp hp=>by
 obtain⟨q,hq,rfl⟩:=P4.mp hp;exact P4.mpr ⟨q,h q hq,rfl⟩
def Dc (φ ψ:List Int->Rat):Prop:=∃ s:Rat,s≠0/\∀ k,ψ k=s*φ k
theorem Dc.symm {φ ψ:List Int->Rat} (h:Dc φ ψ):Dc ψ φ:=by
 obtain⟨s,s0,e⟩:=h;refine⟨s⁻¹,λz=>s0 ?_,λk=>?_⟩
 ·have:=Rat.mul_inv_cancel s s0;rw [z] at this;grind
 ·rw [e k,<- Rat.mul_assoc,Rat.inv_mul_cancel s s0,Rat.one_mul]
theorem AC {c c':List (List Int×Rat)} {s:Rat} (nd:(c.map (·.1)).Nodup) (nd':(c'.map (·.1)).Nodup) (n0:∀ p∈c,p.2≠0) (s0:s≠0) (e:∀ k,gR c' k=s*gR c k):∀ p∈c,(p.1,s*p.2)∈c':=λp hp=>by
 have e1:gR c p.1=p.2:=gH nd hp;have e2:gR c' p.1=s*p.2:=by rw [e,e1]
 rcases ou (z:=(0:Rat)) p.1 nd' with q | q
 ·have e3:gR c' p.1=0:=dQ q;rw [e2] at e3;rcases Qf.mp e3 with y | y
  ·exact absurd y s0
  ·exact absurd y (n0 p hp)
 ·rw [<- e2];exact q
theorem An {c c':List (List Int×Rat)} {ns ns':List (List Int×Int)} (h:yH c ns) (h':yH c' ns') (nd:(c.map (·.1)).Nodup) (nd':(c'.map (·.1)).Nodup) (two:∀ p∈c,∃ i j,p.1=[i,j]) (two':∀ p∈c',∃ i j,p.1=[i,j]) (n0:∀ p∈c,p.2≠0) (n0':∀ p∈c',p.2≠0) (hp:Dc (gR c) (gR c')):∀ p∈ns',p∈ns:=by
 obtain⟨s,s0,e⟩:=hp;obtain⟨t,t0,e'⟩:Dc (gR c') (gR c):=Dc.symm ⟨s,s0,e⟩;refine Dp h h' s0 two two' (AC nd nd' n0 s0 e) (λp hp=>⟨t*p.2,AC nd' nd n0' t0 e' p hp,?_⟩) nd nd'
 have a1:gR c' p.1=p.2:=gH nd' hp;have a2:=e p.1;rw [e' p.1,a1] at a2;exact a2
theorem Aq {c c':List (List Int×Rat)} {ns ns':List (List Int×Int)} (h:yH c ns) (h':yH c' ns') (nd:(c.map (·.1)).Nodup) (nd':(c'.map (·.1)).Nodup) (two:∀ p∈c,∃ i j,p.1=[i,j]) (two':∀ p∈c',∃ i j,p.1=[i,j]) (n0:∀ p∈c,p.2≠0) (n0':∀ p∈c',p.2≠0):OR (rT ns) (rT ns')↔Dc (gR c) (gR c'):=by
 refine⟨λ⟨m1,m2⟩=>?_,λhp=>⟨Aw (An h' h nd' nd two' two n0' n0 hp.symm),Aw (An h h' nd nd' two two' n0 n0' hp)⟩⟩
 obtain⟨t,t0,f1,f2⟩:=h.sc;obtain⟨t',t0',f1',f2'⟩:=h'.sc;refine⟨t / t',λz=>?_,λk=>?_⟩
 ·rw [Rat.div_def] at z;rcases Qf.mp z with y | y
  ·exact t0 y
  ·have:=Rat.mul_inv_cancel t' t0';rw [y] at this;grind
 rcases ou (z:=(0:Rat)) k nd with q | q
 ·rw [show gR c k=0 from dQ q,Rat.mul_zero]
  rcases ou (z:=(0:Rat)) k nd' with q' | q'
  ·exact dQ q'
  ·exfalso
   obtain⟨n,mn,_⟩:=f2' _ q';obtain⟨x,hx,ex⟩:=P4.mp (m2 _ (wB mn));have k1:x.1=k:=congrArg Prod.fst ex;refine q ?_;rw [<- h.keys,<- k1];exact P4.mpr ⟨x,hx,rfl⟩
 ·obtain⟨n,mn,en⟩:=f2 _ q;obtain⟨x,hx,ex⟩:=P4.mp (m1 _ (wB mn));have k1:x.1=k:=congrArg Prod.fst ex;have k2:(x.2:Rat)=(n:Rat):=congrArg Prod.snd ex;obtain⟨q',mq',eq'⟩:=f1' x hx;have e1:gR c' x.1=q':=gH nd' mq';rw [<- k1,e1];have en:(n:Rat)=t*gR c k:=en;rw [k2,en,<- k1] at eq';rw [Rat.div_def];have:=Rat.mul_inv_cancel t' t0';grind
set_option maxHeartbeats 4000000
def dg:List Int->Int
 | [i,j]=>i+j
 | _=>0
def IN (c:List (List Int×Rat)) (m:Int):Prop:=(∃ p∈c,dg p.1=m)/\∀ p∈c,dg p.1<=m
theorem IN.uniq {c:List (List Int×Rat)} {m n:Int} (h:IN c m) (h':IN c n):m=n:=by
 obtain⟨⟨p,hp,e⟩,h2⟩:=h;obtain⟨⟨p',hp',e'⟩,h2'⟩:=h';have:=h2 p' hp';have:=h2' p hp;omega
def Fh (c:List (List Int×Rat)):Prop:=∀ p∈c,∃ i j:Int,p.1=[i,j]/\0<=i/\0<=j/\i<=20/\j<=20
theorem A2 {S:DH} {p f:Addr} {c:List (List Int×Rat)} {e1:Nat} {k:DK} (hp:S p=none) (hf:S f=some (lp (ig c) e1)) (sm:Fh c) (kk:∀ S2,cC S S2->S2 p=some (.lst ((c.map λx=>dg x.1).map D.int))->k (.ref p) S2):
  ∀ (aw don:List (List Int×Rat)) (l0:Option D) (S1:DH),c=don++aw->cC S S1->S1 p=some (.lst ((don.map λx=>dg x.1).map D.int))->c.length<=100->
   cz (λS=>S f=some (lp (ig c) e1)) p (mf 0) (jR (xM Ms (xM Cu (kD 0) (dC (D.int 0))) (xM Cu (kD 0) (dC (D.int 1))))) k (aw.map λx=>jC x.1) ((don.map λx=>dg x.1).map D.int) [l0] S1
 | [],don,l0,S1,ec,x1,h1,_=>by
  rw [Qn] at ec;subst ec;exact⟨x1 _ _ hf,kk S1 x1 h1⟩
 | q::aw,don,l0,S1,ec,x1,h1,hl=>by
  have f1:=x1 _ _ hf;have hd:don.length < 100:=by have:=congrArg List.length ec; rw [Ql,Qe] at this; omega
  have ec':c=(don++[q])++aw:=by rw [ec]; simp
  obtain⟨i,j,e,_⟩:=sm q (by rw [ec]; simp)
  have ea:(don.map λx=>dg x.1).map D.int++[D.int (i+j)]=((don++[q]).map λx=>dg x.1).map D.int:=by simp [dg,e]
  rw [Qd,e];refine⟨f1,h1,by rw [P5,P5]; exact lim (by omega),?_⟩
  show cz _ _ _ _ _ _ ((don.map λx=>dg x.1).map D.int++[D.int (i+j)]) _ (put S1 p (.lst ((don.map λx=>dg x.1).map D.int++[D.int (i+j)])))
  rw [ea];exact A2 hp hf sm kk aw (don++[q]) _ _ ec' (x1.put hp) av hl
theorem Kz {c:List (List Int×Rat)} {m:Int} (h1:m∈c.map λx=>dg x.1) (h2:∀ x∈c.map λx=>dg x.1,x<=m):IN c m:=by
 obtain⟨p,hp,e⟩:=P4.mp h1;exact⟨⟨p,hp,e⟩,λq hq=>h2 _ (P4.mpr ⟨q,hq,rfl⟩)⟩
theorem GU {c:List (List Int×Rat)}:BZ uz.k (ig c)=c.map λx=>jC x.1:=by show List.map _ (List.map _ c)=_; rw [QJ]; rfl
theorem Cv.small {n m:Nat} {b:Int} {c:List (List Int×Rat)} (h:Cv n m b c) (hb:b<=20):Fh c:=λp hp=>by
 obtain⟨i,j,e,a1,a2,a3,a4⟩:=h.sm p hp;exact⟨i,j,e,a1,a2,by omega,by omega⟩
def jb:bC:=λds S k=>∃ (a:Addr) (c:List (List Int×Rat)) (ep:Nat),ds=[.ref a]/\S a=some (lp (ig c) ep)/\c.length<=100/\Fh c/\(c=[]->∀ S',cC S S'->k .non S')/\∀ S' m,cC S S'->IN c m->k (.int m) S'
theorem wf:ao ["curve"] ["curve"] (am lV):=cA
theorem wN (Fn:bL K "degree_of" "degree_of" lV f fd) (lc:mg "max"=none):
  aI P w K mg base ca 1 f fd ["curve"] (cg K jb):=by
 refine Fn.okJ wf (λds S k h=>?_) (λcdv A outer s H E hr=>⟨_,(aj (ak (GI rfl lc wC (aa (sT rfl (ot (N:=["key"]) (cap:=[none]) rfl rfl rfl rfl trivial rfl rfl trivial) (rn (ac 0)) (λ_ _ _ _=>(aP (i:=0) (show List.Nodup (["key"]:List Str) from by decide +kernel))) (λ_ _ _ _=>(ar cX (ah ag (ac 0) ae (λ_ _=>rfl)) (ah ag (ac 0) ae (λ_ _=>rfl))))) ad) g_))),λds S k h=>?_⟩)
 ·obtain⟨_,_,_,rfl,_⟩:=h
  rfl
 ·obtain⟨a,c,ep,rfl,ha,hl,sm,w0,w⟩:=h;refine⟨_,_,ha,λp hp=>?_⟩
  rw [GU];refine A2 (S:=S) hp ha sm (λS2 x2 h2=>⟨_,h2,λe=>w0 (List.map_eq_nil_iff.mp e) S2 x2,λm h1 h2=>w S2 m x2 (Kz h1 h2)⟩) c [] none _ rfl (cC.new hp) av hl
theorem AZ:Sz 3 (1 / 2:Rat):=Sz.div (m:=1) (n:=2) ⟨by decide,by decide⟩ ⟨by decide,by decide⟩ (by decide)
theorem Ow {x y a b t:Rat} (h:a*a+b*b≠0):-((x+a*(t / (a*a+b*b+(a*a+b*b))))*a+(y+b*(t / (a*a+b*b+(a*a+b*b))))*b)=0 - (a*x+b*y+1 / 2*t):=by
 have h2:a*a+b*b+(a*a+b*b)≠0:=by grind
 have q:(a*a+b*b+(a*a+b*b))*(t / (a*a+b*b+(a*a+b*b)))=t:=by
  rw [Rat.div_def,Rat.mul_comm t,<- Rat.mul_assoc,Rat.mul_inv_cancel _ h2,Rat.one_mul]
 generalize t / (a*a+b*b+(a*a+b*b))=r at q;grind
abbrev Ob (x y z v t:Rat):List (List Int×Rat):=lg (z - x) (v - y) (0 - ((z - x)*x+(v - y)*y+1 / 2*t))
def iJ:bC:=λds S k=>∃ x y z v t:Rat,ds=[PP x y,PP z v,fr t]/\Sz 4 x/\Sz 4 y/\Sz 40 z/\Sz 40 v/\Sz 30 (z - x)/\Sz 30 (v - y)/\Sz 30 t/\(z - x)*(z - x)+(v - y)*(v - y)≠0/\∀ S' p ep' ns,cC S S'->yH (nz (Ob x y z v t)) ns->S' p=some (lp (Mb ns) ep')->k (.ref p) S'
theorem eR:ao ["middle","about","power","start","way","square","nearest"] ["middle","about","power"] (am kE):=cA
theorem uF (Fn:bL K "drawn_line" "drawn_line" kE f fd) (az:aE P w K mg base "place_of" 1 cS) (aJ:aE P w K mg base "plain_way" 36 cn) (bJ:aE P w K mg base "square_of_unlike" 37 df) (bq:aE P w K mg base "moved" 36 gL) (aY:aE P w K mg base "over" 35 fB) (aT:aE P w K mg base "plus" 35 fR) (fG:aE P w K mg base "normal" 36 lI) (mO:aE P w K mg base "line_from" 37 mL):
  aI P w K mg base ca 38 f fd ["middle","about","power"] (cg K iJ):=by
 refine Fn.okJ eR (λds S k h=>?_) (λcdv A outer s H E hr=>⟨_,(af (ai (i:=3) eR.nd (dq az hr (aa (ac 0) ad))) (af (ai (i:=4) eR.nd (dq aJ hr (aa (ac 3) (aa (dq az hr (aa (ac 1) ad)) ad)))) (af (ai (i:=5) eR.nd (dq bJ hr (aa (ac 4) ad))) (af (ai (i:=6) eR.nd (dq bq hr (aa (ac 3) (aa (ac 4) (aa (dq aY hr (aa (ac 2) (aa (dq aT hr (aa (ac 5) (aa (ac 5) ad))) ad))) ad))))) (aj (ak (dq fG hr (aa (dq mO hr (aa (ac 6) (aa (ac 4) ad))) ad)))))))),λds S k h=>?_⟩)
 ·obtain⟨_,_,_,_,_,rfl,_⟩:=h
  rfl
 ·obtain⟨x,y,z,v,t,rfl,hx,hy,hz,hv,sa,sb,ht,h0,w⟩:=h;have s2:=(sa.mul sa).add (sb.mul sb);have h2:(z - x)*(z - x)+(v - y)*(v - y)+((z - x)*(z - x)+(v - y)*(v - y))≠0:=by grind
  have s3:=ht.div (s2.add s2) h2;have s1:=AZ;have s00:Sz 1 (0:Rat):=⟨by decide,by decide⟩
  have sr:=s00.sub ((((sa.mul hx).add (sb.mul hy))).add (s1.mul ht));refine⟨x,y,rfl,z,v,rfl,x,y,z,v,rfl,hx.mono (by decide),hy.mono (by decide),hz.mono (by decide),hv.mono (by decide),_,_,rfl,sa.mono (by decide),sb.mono (by decide),h0,_,_,rfl,s2.mono (by decide),s2.mono (by decide),t,_,rfl,h2,ht.mono (by decide),(s2.add s2).mono (by decide),x,y,_,_,_,rfl,hx.mono (by decide),hy.mono (by decide),sa.mono (by decide),sb.mono (by decide),s3.mono (by decide),_,_,_,_,rfl,(hx.add (sa.mul s3)).mono (by decide),(hy.add (sb.mul s3)).mono (by decide),sa.mono (by decide),sb.mono (by decide),λS1 p1 e1 x1 h1=>?_⟩
  rw [Ow h0] at h1;obtain⟨B,b0,bB,dn⟩:=AT (w:=110) (m:=3) (c:=nz (Ob x y z v t)) (λp hp=>Kx (P:=Sz 110) (sa.mono (by decide)) (sb.mono (by decide)) (sr.mono (by decide)) p (eG.mp hp).1) zF
  exact⟨p1,_,e1,B,rfl,h1,fi jv,QH zF (by show 3<=100; decide),Js h0,λp hp=>HJ p (eG.mp hp).1,λp hp=>(eG.mp hp).2,b0,bB.mono (by decide),dn.up (by decide),λS2 p2 e2 ns x2 hn h2=>w S2 p2 e2 ns (x1.trans x2) hn h2⟩
theorem MC {m n:Nat} (h1:m*m < n) (h2:n < (m+1)*(m+1)) (k:Nat):k*k≠n:=λe=>by
 subst e;rcases Nat.lt_or_ge m k with h | h
 ·have:=Nat.mul_le_mul (show m+1<=k from h) (show m+1<=k from h)
  omega
 ·have:=Nat.mul_le_mul h h;omega
theorem Ju {q:Rat} {m n:Nat} (h:q.num=(n:Int)) (h1:m*m < n) (h2:n < (m+1)*(m+1)):lf q:=λr e=>by
 have e1:=congrArg Rat.num e;rw [rF,h] at e1;have:=congrArg Int.natAbs e1;rw [Q1] at this;exact MC h1 h2 _ this
theorem Hc:lf 2:=Ju (q:=2) (m:=1) (n:=2) rfl (by decide) (by decide)
theorem Ha {u p q:Rat}:[D.tup [fr p,fr 0],D.tup [fr q,fr 0]]=[N u p 0,N u q 0]:=by rw [<- jS (u:=u),<- jS (u:=u)]
theorem Ku:Fd 2:=⟨by decide,Hc,(show Sz 2 2 from⟨by decide,by decide⟩).mono (by decide)⟩
def mJ:bC:=λds S k=>∃ s o i:Rat,ds=[fr s,fr o,fr i]/\0 < o/\0 < i/\Sz 130 s/\Sz 60 o/\Sz 60 i/\k (.bl (decide (oY s o i))) S
theorem pq:ao ["apart","outer","inner","square"] ["apart","outer","inner"] (am lT):=cA
theorem wt (Fn:bL K "can_reach" "can_reach" lT f fd) (qj:aE P w K mg base "made" 37 wF) (aL:aE P w K mg base "negative" 1 cV) (aD:aE P w K mg base "times" 35 dU) (aT:aE P w K mg base "plus" 35 fR) (lw:aE P w K mg base "root_less" 40 lE) (a9:t5 K mg "NOUGHT" [0,1]):
  aI P w K mg base ca 41 f fd ["apart","outer","inner"] (cg K mJ):=by
 refine Fn.okJ pq (λds S k h=>?_) (λcdv A outer s H E hr=>⟨_,(af (ai (i:=3) pq.nd (dq qj hr (aa (dq aT hr (aa (ac 1) (aa (ac 2) ad))) (aa (dq aL hr (aa (dq aD hr (aa (au (aa ae (aa ae ad))) (aa (dq aD hr (aa (ac 1) (aa (ac 2) ad))) ad))) ad)) ad)))) (aj (ak (dq lw hr (aa (ac 3) (aa (au (aa (dq aD hr (aa (au (aa ae (aa ae ad))) (aa (ac 0) ad))) (aa (fZ a9 rfl) ad))) ad)))))),λds S k h=>?_⟩)
 ·obtain⟨_,_,_,rfl,_⟩:=h
  rfl
 ·obtain⟨s,o,i,rfl,o0,i0,hs,ho,hi,w⟩:=h;have s4:Sz 3 (4:Rat):=⟨by decide,by decide⟩
  have p0:=Qu o0 i0;have hab:ab (-(4*(o*i)))=4*(o*i):=by unfold ab; rw [if_pos (by grind)]; grind
  have sm:=s4.mul (ho.mul hi);have ss4:=s4.mul hs;refine⟨o,i,rfl,ho.mono (by decide),hi.mono (by decide),few,o,i,rfl,ho.mono (by decide),hi.mono (by decide),4,o*i,rfl,s4.mono (by decide),(ho.mul hi).mono (by decide),_,rfl,_,_,rfl,(ho.add hi).mono (by decide),sm.neg.mono (by decide),?_⟩
  by_cases hr:∃ r,0<=r/\r*r=4*(o*i)
  ·obtain⟨r,r0,rr⟩:=hr;have sr:Sz 124 (sg r (-(4*(o*i)))):=((sm.root rr).sg).mono (by decide)
   rw [xF r0 (by rw [hab]; exact rr)]
   refine⟨few,4,s,rfl,s4.mono (by decide),hs.mono (by decide),few,2,o+i+sg r (-(4*(o*i))),0,4*s,0,Ha,Ku,((ho.add hi).add sr).mono (by decide),ss4.mono (by decide),⟨by decide,by decide⟩,⟨by decide,by decide⟩,(((ho.add hi).add sr).sub ss4).mono (by decide),(show Sz 3 ((0:Rat) - 0) from Sz.sub (m:=1) (n:=1) ⟨by decide,by decide⟩ ⟨by decide,by decide⟩).mono (by decide),?_⟩
   rw [decide_eq_decide.mpr (FM (s:=s) (u:=2) o0 i0 r0 rr)];exact w
  ·have no:lf (4*(o*i)):=λr e=>by
    rcases(Rat.le_total:(0:Rat)<=r\/r<=0) with z | z
    ·exact hr ⟨r,z,e⟩
    ·exact hr ⟨-r,by grind,by grind⟩
   have s1:Sz 1 (-1:Rat):=⟨by decide,by decide⟩
   have e1:D.tup [fr (o+i),fr (-(4*(o*i)))]=N (4*(o*i)) (o+i) (-1):=by
    unfold N;rw [show ss (-1)*(4*(o*i))=-(4*(o*i)) by unfold ss ab; rw [if_pos (by decide)]; grind]
   rw [FR (by rw [hab]; exact no),e1]
   refine⟨few,4,s,rfl,s4.mono (by decide),hs.mono (by decide),few,4*(o*i),o+i,-1,4*s,0,congrArg (λa=>[N (4*(o*i)) (o+i) (-1),a]) jS,⟨by grind,no,sm.mono (by decide)⟩,(ho.add hi).mono (by decide),ss4.mono (by decide),s1.mono (by decide),⟨by decide,by decide⟩,((ho.add hi).sub ss4).mono (by decide),(show Sz 3 ((-1:Rat) - 0) from s1.sub (n:=1) ⟨by decide,by decide⟩).mono (by decide),?_⟩
   rw [decide_eq_decide.mpr (DD (s:=s) o0 i0 no)];exact w
structure Nv (c:List (List Int×Rat)):Prop where
 cv:Cv 3 100 4 c
 n0:∀ p∈c,p.2≠0
 dg:IN c 1
def Pc (x y z v o i:Rat) (c:List (List Int×Rat)):Prop:=o≠i/\Dc (gR c) (gR (Ob x y z v (o - i)))/\oY ((z - x)*(z - x)+(v - y)*(v - y)) o i
theorem Nv.ne {c:List (List Int×Rat)} (h:Nv c):c≠[]:=λe=>by
 obtain⟨⟨p,hp,_⟩,_⟩:=h.dg;rw [e] at hp;cases hp
theorem F7 {c:List (List Int×Rat)} {ns ns':List (List Int×Int)} {a b r:Rat} (hc:Nv c) (h:yH c ns) (h':yH (nz (lg a b r)) ns'):OR (rT ns') (rT ns)↔Dc (gR c) (gR (lg a b r)):=by
 have e:∀ k,gR (nz (lg a b r)) k=gR (lg a b r) k:=FD jv;rw [Aq h' h (fi jv) hc.cv.nd (λp hp=>HJ p (eG.mp hp).1) hc.cv.two (λp hp=>(eG.mp hp).2) hc.n0]
 rw [show gR (nz (lg a b r))=gR (lg a b r) from funext e]
 exact⟨Dc.symm,Dc.symm⟩
def wb:bC:=λds S k=>∃ (a:Addr) (c:List (List Int×Rat)) (ep:Nat) (x y z v o i:Rat),ds=[.ref a,PP x y,PP z v,fr o,fr i]/\S a=some (lp (ig c) ep)/\Nv c/\Sz 4 x/\Sz 4 y/\Sz 40 z/\Sz 40 v/\Sz 30 (z - x)/\Sz 30 (v - y)/\Sz 60 o/\Sz 60 i/\Sz 30 (o - i)/\0 < o/\0 < i/\(z - x)*(z - x)+(v - y)*(v - y)≠0/\∀ S' r,cC S S'->(r=true↔Pc x y z v o i c)->k (.bl r) S'
theorem xz:ao ["line","middle","about","outer","inner","way"] ["line","middle","about","outer","inner"] (am w6):=cA
theorem CO (Fn:bL K "draws" "draws" w6 f fd) (fq:aE P w K mg base "degree_of" 1 jb) (dZ:aE P w K mg base "drawn_line" 38 iJ) (bo:aE P w K mg base "minus" 35 gJ) (fG:aE P w K mg base "normal" 36 lI) (aJ:aE P w K mg base "plain_way" 36 cn) (az:aE P w K mg base "place_of" 1 cS) (lY:aE P w K mg base "can_reach" 41 mJ) (aq:aE P w K mg base "product_of_ways" 36 aQ):
  aI P w K mg base ca 42 f fd ["line","middle","about","outer","inner"] (cg K wb):=by
 refine Fn.okJ xz (λds S k h=>?_) (λcdv A outer s H E hr=>⟨_,(af (aC (WJ.pt (rE (ax (x5 hr) (dq fq hr (aa (ac 0) ad)) ae (aF _)) (rj (ax (IK hr) (ac 1) (ac 2) (aF _))))) (aj (ak fA)) aG) (af (aC (WJ.pt (rE (ax (IK hr) (ac 3) (ac 4) (aF _)) (rE (ax LV (ah ag (ac 3) ae (λ_ _=>rfl)) ae (aF _)) (rj (ax LV (ah ag (ac 4) ae (λ_ _=>rfl)) ae (aF _)))))) (aj (ak fA)) aG) (af (aC (ax (x5 hr) (dq dZ hr (aa (ac 1) (aa (ac 2) (aa (dq bo hr (aa (ac 3) (aa (ac 4) ad))) ad)))) (dq fG hr (aa (ac 0) ad)) (aF _)) (aj (ak fA)) aG) (af (ai (i:=5) xz.nd (dq aJ hr (aa (dq az hr (aa (ac 1) ad)) (aa (dq az hr (aa (ac 2) ad)) ad)))) (aj (ak (dq lY hr (aa (dq aq hr (aa (ac 5) (aa (ac 5) ad))) (aa (ac 3) (aa (ac 4) ad)))))))))),λds S k h=>?_⟩)
 ·obtain⟨_,_,_,_,_,_,_,_,_,rfl,_⟩:=h
  rfl
 ·obtain⟨a,c,ep,x,y,z,v,o,i,rfl,ha,hc,hx,hy,hz,hv,sa,sb,ho,hi,hoi,o0,i0,h0,w⟩:=h;have s2:=(sa.mul sa).add (sb.mul sb);have ne0:=hc.ne;have hl:=hc.cv.hl;have o1:=(ji o).mpr o0;have i1:=(ji i).mpr i0;refine⟨a,c,ep,rfl,ha,by omega,hc.cv.small (by decide),λe=>absurd e ne0,λS1 m x1 hm=>?_⟩
  have em:=hm.uniq hc.dg;subst em;refine⟨true,rfl,Ej ⟨_,Fx,aU (λe=>absurd ?_ h0) (λ_=>?_)⟩⟩
  ·rw [e.1,e.2]; grind
  refine⟨_,lF,aU (λe=>w S1 false x1 ⟨λt=>(nomatch t),λt=>absurd e t.1⟩) (λne=>aU (λt=>absurd t (by omega)) (λ_=>aU (λt=>absurd t (by omega)) (λ_=>?_)))⟩
  refine⟨o,i,rfl,ho.mono (by decide),hi.mono (by decide),x,y,z,v,o - i,rfl,hx,hy,hz,hv,sa,sb,hoi,h0,λS2 p2 e2 ns2 x2 hn2 h2=>?_⟩
  obtain⟨B,b0,bB,dn⟩:=AT (w:=100) (m:=3) (c:=c) hc.cv.hz hl;refine⟨a,c,ep,B,rfl,x2 _ _ (x1 _ _ ha),hc.cv.nd,by omega,ne0,hc.cv.two,hc.n0,b0,bB.mono (by decide),dn.up (by decide),λS3 p3 e3 ns3 x3 hn3 h3=>?_⟩
  rw [C9] at h2 h3
  obtain⟨r,hr,er⟩:=O0 (c:=rT ns2) (c':=rT ns3) (by rw [j9,hn2.keys]; exact fi jv) (by rw [j9,hn3.keys]; exact hc.cv.nd)
  have er:=er.trans (F7 hc hn3 hn2);have X3:=(x1.trans x2).trans x3;refine .inl ⟨_,_,_,_,r,x3 _ _ h2,h3,hr,mK (λz=>w S3 false X3 ⟨λt=>(nomatch t),λt=>?_⟩) (λz=>?_)⟩
  ·rw [er.mpr t.2.1] at z;cases z
  refine⟨x,y,rfl,_,_,rfl,x,y,_,_,rfl,hx.mono (by decide),hy.mono (by decide),hz.mono (by decide),hv.mono (by decide),_,_,_,_,rfl,sa.mono (by decide),sb.mono (by decide),sa.mono (by decide),sb.mono (by decide),_,o,i,rfl,o0,i0,s2.mono (by decide),ho,hi,w S3 _ X3 ⟨λt=>⟨ne,er.mp z,of_decide_eq_true t⟩,λt=>decide_eq_true t.2.2⟩⟩
def hf:Rat:=⟨1,2,by decide,by decide⟩
theorem MO:hf=1 / 2:=by
 have h:=Rat.num_divInt_den hf;rw [<- h,QC]
 rfl
def mS:bC:=λds S k=>∃ (a:Addr) (c:List (List Int×Rat)) (ep:Nat) (x y:Rat),ds=[.ref a,PP x y]/\S a=some (lp (ig c) ep)/\Cv 3 30 4 c/\IN c 1/\Sz 4 x/\Sz 4 y/\gR c [1,0]*gR c [1,0]+gR c [0,1]*gR c [0,1]≠0/\gR c [1,0]*x+gR c [0,1]*y+gR c [0,0]≠0/\∀ S' m,cC S S'->m=(gR c [1,0]*x+gR c [0,1]*y+gR c [0,0]) / (gR c [1,0]*gR c [1,0]+gR c [0,1]*gR c [0,1])->k (.tup [PP (x+gR c [1,0]*-m*hf) (y+gR c [0,1]*-m*hf),fr (((gR c [1,0]*-m)*(gR c [1,0]*-m)+(gR c [0,1]*-m)*(gR c [0,1]*-m))+((gR c [1,0]*-m)*(gR c [1,0]*-m)+(gR c [0,1]*-m)*(gR c [0,1]*-m))),fr ((gR c [1,0]*-m)*(gR c [1,0]*-m)+(gR c [0,1]*-m)*(gR c [0,1]*-m))]) S'
theorem ez:ao ["line","middle","start","across","value","way","square"] ["line","middle"] (am mP):=cA
theorem wR (Fn:bL K "line_cell" "line_cell" mP f fd) (fq:aE P w K mg base "degree_of" 1 jb) (az:aE P w K mg base "place_of" 1 cS) (aT:aE P w K mg base "plus" 35 fR) (aq:aE P w K mg base "product_of_ways" 36 aQ) (bq:aE P w K mg base "moved" 36 gL) (aL:aE P w K mg base "negative" 1 cV) (aY:aE P w K mg base "over" 35 fB) (aR:aE P w K mg base "plain_point" 1 cU) (a9:t5 K mg "NOUGHT" [0,1]):
  aI P w K mg base ca 37 f fd ["line","middle"] (cg K mS):=by
 refine Fn.okJ ez (λds S k h=>?_) (λcdv A outer s H E hr=>⟨_,(af (aC (ax (AB hr) (dq fq hr (aa (ac 0) ad)) ae (aF _)) (aj dj) aG) (af (ai (i:=2) ez.nd (dq az hr (aa (ac 1) ad))) (af (ai (i:=3) ez.nd (au (aa (xf hr (ac 0) (au (aa ae (aa ae ad))) (fZ a9 rfl)) (aa (xf hr (ac 0) (au (aa ae (aa ae ad))) (fZ a9 rfl)) ad)))) (af (ai (i:=4) ez.nd (dq aT hr (aa (dq aq hr (aa (ac 3) (aa (ac 2) ad))) (aa (xf hr (ac 0) (au (aa ae (aa ae ad))) (fZ a9 rfl)) ad)))) (af (aC (ax (vn hr) (ah ag (ac 4) ae (λ_ _=>rfl)) ae (aF _)) (aj dj) aG) (af (ai (i:=5) ez.nd (dq bq hr (aa (au (aa (fZ a9 rfl) (aa (fZ a9 rfl) ad))) (aa (ac 3) (aa (dq aL hr (aa (dq aY hr (aa (ac 4) (aa (dq aq hr (aa (ac 3) (aa (ac 3) ad))) ad))) ad)) ad))))) (af (ai (i:=6) ez.nd (dq aq hr (aa (ac 5) (aa (ac 5) ad)))) (aj (ak (au (aa (dq aR hr (aa (dq bq hr (aa (ac 2) (aa (ac 5) (aa (au (aa ae (aa ae ad))) ad)))) ad)) (aa (dq aT hr (aa (ac 6) (aa (ac 6) ad))) (aa (ac 6) ad))))))))))))),λds S k h=>?_⟩)
 ·obtain⟨_,_,_,_,_,rfl,_⟩:=h
  rfl
 ·obtain⟨a,c,ep,x,y,rfl,ha,hc,hd,hx,hy,h0,v0,w⟩:=h;have G:∀ k,(fX (ig c) k).getD (.tup (List.map D.int [0,1]))=fr (gR c k):=λk=>F2 (f:=fr) (z:=0)
  have ne0:c≠[]:=λe=>by
   obtain⟨⟨p,hp,_⟩,_⟩:=hd;rw [e] at hp;cases hp
  have hl:=hc.hl;have zc:=λk=>hc.sz (by decide) k
  have sv:=(((zc [1,0]).mul hx).add ((zc [0,1]).mul hy)).add (zc [0,0]);have sn:=((zc [1,0]).mul (zc [1,0])).add ((zc [0,1]).mul (zc [0,1]));have sm:=(sv.div sn h0).neg;have sx:=(zc [1,0]).mul sm;have sy:=(zc [0,1]).mul sm;have sq:=(sx.mul sx).add (sy.mul sy);have z1:Sz 1 (0:Rat):=⟨by decide,by decide⟩
  have sh:Sz 2 hf:=⟨by decide,by decide⟩
  refine⟨a,c,ep,rfl,ha,by omega,hc.small (by decide),λe=>absurd e ne0,λS1 m x1 hm=>?_⟩
  have em:=hm.uniq hd;subst em;have ha1:=x1 _ _ ha;refine⟨true,rfl,Ej ⟨x,y,rfl,⟨_,_,ha1⟩,few,_,_,[1,0],ha1,rfl,⟨_,_,ha1⟩,few,_,_,[0,1],ha1,rfl,few,?_⟩⟩;rw [G,G];refine⟨_,_,_,_,rfl,(zc _).mono (by decide),(zc _).mono (by decide),hx.mono (by decide),hy.mono (by decide),⟨_,_,ha1⟩,few,_,_,[0,0],ha1,rfl,?_⟩
  rw [G];refine⟨_,_,rfl,(((zc [1,0]).mul hx).add ((zc [0,1]).mul hy)).mono (by decide),(zc _).mono (by decide),_,eq_int,xy (λt=>absurd (Rf.mp (by simpa using t)) v0) (λ_=>?_)⟩
  refine⟨few,_,_,_,_,rfl,(zc _).mono (by decide),(zc _).mono (by decide),(zc _).mono (by decide),(zc _).mono (by decide),_,_,rfl,h0,sv.mono (by decide),sn.mono (by decide),_,rfl,0,0,_,_,_,rfl,z1.mono (by decide),z1.mono (by decide),(zc _).mono (by decide),(zc _).mono (by decide),sm.mono (by decide),?_⟩
  rw [Rat.zero_add,Rat.zero_add];refine⟨_,_,_,_,rfl,sx.mono (by decide),sy.mono (by decide),sx.mono (by decide),sy.mono (by decide),few,x,y,_,_,hf,rfl,hx.mono (by decide),hy.mono (by decide),sx.mono (by decide),sy.mono (by decide),sh.mono (by decide),_,_,rfl,_,_,rfl,sq.mono (by decide),sq.mono (by decide),few,?_⟩
  exact w S1 _ x1 rfl
set_option maxHeartbeats 4000000
def ft (U:Int) (x y:Int×Int):Int×Int:=(x.1*y.1+x.2*y.2*U,x.1*y.2+x.2*y.1)
def jd (U:Int) (x:Int×Int):Nat->Int×Int
 | 0=>(1,0)
 | n+1=>ft U (jd U x n) x
def iD (x:Int×Int):D:=.tup [.int x.1,.int x.2]
structure B2 (n:Nat) (x:Int×Int):Prop where
 a:Bt n x.1
 b:Bt n x.2
theorem zS (U:Int) (x y z:Int×Int):ft U (ft U x y) z=ft U x (ft U y z):=by
 unfold ft;apply Qk <;> dsimp only <;> grind
theorem EM (U:Int) (x:Int×Int):ft U x (1,0)=x:=by
 unfold ft;apply Qk <;> dsimp only <;> grind
theorem FT (U:Int) (x:Int×Int):ft U (1,0) x=x:=by
 unfold ft;apply Qk <;> dsimp only <;> grind
theorem HC (U:Int) (x:Int×Int):jd U x 1=x:=FT U x
theorem vw (U:Int) (x:Int×Int) (m:Nat):∀ n,jd U x (m+n)=ft U (jd U x m) (jd U x n)
 | 0=>(EM U _).symm
 | n+1=>by
  show ft U (jd U x (m+n)) x=ft U (jd U x m) (ft U (jd U x n) x)
  rw [vw U x m n,zS]
theorem qd (U b:Int):∀ n,jd U (b,0) n=(b ^ n,0)
 | 0=>by show((1:Int),(0:Int))=_; rw [Int.pow_zero]
 | n+1=>by
  show ft U (jd U (b,0) n) (b,0)=_
  rw [qd U b n,Int.pow_succ];unfold ft;apply Qk <;> dsimp only <;> grind
theorem B2.mono {m n:Nat} {x:Int×Int} (h:B2 m x) (hm:m<=n):B2 n x:=⟨h.a.mono hm,h.b.mono hm⟩
theorem B2.mul {m n k:Nat} {U:Int} {x y:Int×Int} (hx:B2 m x) (hy:B2 n y) (hU:Bt k U):B2 (m+n+k+1) (ft U x y):=
 ⟨((hx.a.mul hy.a).add ((hx.b.mul hy.b).mul hU)).mono (by omega),((hx.a.mul hy.b).add (hx.b.mul hy.a)).mono (by omega)⟩
theorem Kr:B2 1 ((1:Int),(0:Int)):=⟨by decide,by decide⟩
theorem B2.pw {n k:Nat} {U:Int} {x:Int×Int} (hx:B2 n x) (hU:Bt k U):∀ p,B2 (p*(n+k+1)+1) (jd U x p)
 | 0=>Kr.mono (by omega)
 | p+1=>((B2.pw hx hU p).mul hx hU).mono (by rw [Nat.add_mul]; omega)
def CI (u:Rat) (x:Q):Nat->Q
 | 0=>(1,0)
 | n+1=>qm u (CI u x n) x
def mon (u:Rat) (x y:Q) (k:List Int):Q:=qm u (CI u x (k.getD 0 0).toNat) (CI u y (k.getD 1 0).toNat)
def qk (t:Rat) (x:Q):Q:=(t*x.1,t*x.2)
def i_ (u:Rat) (x y:Q) (c:List (List Int×Rat)) (s:Q):Q:=c.foldl (λs p=>qa s (qk p.2 (mon u x y p.1))) s
def qc (x:Int×Int):Q:=((x.1:Rat),(x.2:Rat))
theorem yR (U:Int) (x y:Int×Int):qc (ft U x y)=qm (U:Rat) (qc x) (qc y):=by
 unfold qc ft qm;apply Qk <;> dsimp only <;> simp only [Qj,P1]
theorem Jn (u s t:Rat) (x y:Q):qm u (qk s x) (qk t y)=qk (s*t) (qm u x y):=by
 unfold qm qk;apply Qk <;> dsimp only <;> grind
theorem OA (s t:Rat) (x:Q):qk s (qk t x)=qk (s*t) x:=by
 unfold qk;apply Qk <;> dsimp only <;> grind
theorem M8 (t:Rat) (x y:Q):qk t (qa x y)=qa (qk t x) (qk t y):=by
 unfold qk qa;apply Qk <;> dsimp only <;> grind
theorem Ib {U M:Int} {X:Int×Int} {x:Q} (h:qc X=qk (M:Rat) x):∀ n,qc (jd U X n)=qk ((M:Rat) ^ n) (CI (U:Rat) x n)
 | 0=>by
  show(((1:Int):Rat),((0:Int):Rat))=qk ((M:Rat) ^ 0) (1,0)
  rw [Rat.pow_zero];unfold qk;apply Qk <;> dsimp only <;> grind
 | n+1=>by
  show qc (ft U (jd U X n) X)=qk _ (qm (U:Rat) (CI (U:Rat) x n) x)
  rw [yR,Ib h n,h,Jn,Rat.pow_succ]
theorem yv (x:Rat) (m:Nat):∀ n,x ^ (m+n)=x ^ m*x ^ n
 | 0=>by rw [Nat.add_zero,Rat.pow_zero,Rat.mul_one]
 | n+1=>by rw [<- Nat.add_assoc,Rat.pow_succ,Rat.pow_succ,yv x m n,Rat.mul_assoc]
theorem z9 {U M:Int} {X:Int×Int} {x:Q} (h:qc X=qk (M:Rat) x) {m n:Nat} (hn:n<=m):qc (ft U (jd U X n) (jd U (M,0) (m - n)))=qk ((M:Rat) ^ m) (CI (U:Rat) x n):=by
 have e:qc (jd U (M,0) (m - n))=qk ((M:Rat) ^ (m - n)) (1,0):=by
  rw [qd];unfold qc qk;apply Qk <;> dsimp only
  ·rw [Rat.intCast_pow]; grind
  ·grind
 have e1:qm (U:Rat) (CI (U:Rat) x n) (1,0)=CI (U:Rat) x n:=by
  unfold qm;apply Qk <;> dsimp only <;> grind
 rw [yR,Ib h n,e,Jn,e1,<- yv,show n+(m - n)=m by omega]
structure Rl (κ:Rat) (x x':Q):Prop where
 a:x'.1=x.1
 b:x.2=κ*x'.2
 z:κ=0->x'.2=0
theorem Rl.mul {κ u U:Rat} {x x' y y':Q} (hU:κ*κ*u=U) (h:Rl κ x x') (h':Rl κ y y'):Rl κ (qm u x y) (qm U x' y'):=by
 obtain⟨a1,b1,z1⟩:=h;obtain⟨a2,b2,z2⟩:=h';unfold qm;refine⟨?_,?_,λk0=>?_⟩
 ·show x'.1*y'.1+x'.2*y'.2*U=x.1*y.1+x.2*y.2*u
  rw [a1,a2,b1,b2,<- hU];grind
 ·show x.1*y.2+x.2*y.1=κ*(x'.1*y'.2+x'.2*y'.1)
  rw [a1,a2,b1,b2];grind
 ·show x'.1*y'.2+x'.2*y'.1=0
  rw [z1 k0,z2 k0];grind
theorem Rl.one {κ:Rat}:Rl κ (1,0) (1,0):=⟨rfl,(Rat.mul_zero κ).symm,λ_=>rfl⟩
theorem Rl.zero {κ:Rat}:Rl κ (0,0) (0,0):=⟨rfl,(Rat.mul_zero κ).symm,λ_=>rfl⟩
theorem Rl.pw {κ u U:Rat} {x x':Q} (hU:κ*κ*u=U) (h:Rl κ x x'):∀ n,Rl κ (CI u x n) (CI U x' n)
 | 0=>Rl.one
 | n+1=>(Rl.pw hU h n).mul hU h
theorem Rl.add {κ:Rat} {x x' y y':Q} (h:Rl κ x x') (h':Rl κ y y'):Rl κ (qa x y) (qa x' y'):=by
 obtain⟨a1,b1,z1⟩:=h;obtain⟨a2,b2,z2⟩:=h';unfold qa;refine⟨?_,?_,λk0=>?_⟩
 ·show x'.1+y'.1=x.1+y.1
  rw [a1,a2]
 ·show x.2+y.2=κ*(x'.2+y'.2)
  rw [b1,b2];grind
 ·show x'.2+y'.2=0
  rw [z1 k0,z2 k0];grind
theorem Rl.k {κ t:Rat} {x x':Q} (h:Rl κ x x'):Rl κ (qk t x) (qk t x'):=by
 obtain⟨a1,b1,z1⟩:=h;unfold qk;refine⟨?_,?_,λk0=>?_⟩
 ·show t*x'.1=t*x.1
  rw [a1]
 ·show t*x.2=κ*(t*x'.2)
  rw [b1];grind
 ·show t*x'.2=0
  rw [z1 k0];grind
theorem Rl.mon {κ u U:Rat} {x x' y y':Q} (hU:κ*κ*u=U) (h:Rl κ x x') (h':Rl κ y y') (k:List Int):Rl κ (mon u x y k) (mon U x' y' k):=(h.pw hU _).mul hU (h'.pw hU _)
theorem Rl.val {κ u U:Rat} {x x' y y':Q} (hU:κ*κ*u=U) (h:Rl κ x x') (h':Rl κ y y'):∀ (c:List (List Int×Rat)) {s s':Q},Rl κ s s'->Rl κ (i_ u x y c s) (i_ U x' y' c s')
 | [],_,_,hs=>hs
 | p::c,s,s',hs=>Rl.val hU h h' c (hs.add ((h.mon hU h' p.1).k (t:=p.2)))
structure SO (κ:Rat) (n:Nat) (x:Q) (X:Int×Int) (M:Int):Prop where
 M0:0 < M
 bM:Bt n M
 bX:B2 n X
 rel:∃ x',Rl κ x x'/\qc X=qk (M:Rat) x'
theorem HP {β:Rat} {e u:Rat} (h:β=e*e*u):(ab e*(β.den:Int))*(ab e*(β.den:Int))*u=((β.num*(β.den:Int):Int):Rat):=by
 have d:=oN β;have s:=qC e;rw [P1,<- d];have:((β.den:Int):Rat)*β*((β.den:Int):Rat)=ab e*((β.den:Int):Rat)*(ab e*((β.den:Int):Rat))*u:=by
  rw [h];grind
 exact this.symm
set_option maxHeartbeats 4000000
theorem A0 {c:DT} {t e b2:DS} {M:nH} {L:Lo} {S:DH} (P:Lo->DH->Prop) (h2:∀ L S,P L S->b2 M L S) (h1:(∀ L S,P L S->b2 M L S)->BS c t e {M with nx:=b2 M} L S):zB (BS c t e) b2 M L S:=h1 h2
theorem PM (u:Int):D.tup [.int u,.int 1]=fr (u:Rat):=by
 show _=D.tup [.int (u:Rat).num,.int ((u:Rat).den:Int)]
 rw [Rat.num_intCast,Rat.den_intCast]
 rfl
def fT:bC:=λds S k=>∃ (x y:Int×Int) (U:Int) (n:Nat),ds=[iD x,iD y,.int U]/\B2 n x/\B2 n y/\Bt n U/\n<=1000000/\k (iD (ft U x y)) S
theorem ub:ao ["one","other","base"] ["one","other","base"] (am ku):=cA
theorem uh (Fn:bL K "surd_times" "surd_times" ku f fd):
  aI P w K mg base ca 1 f fd ["one","other","base"] (cg K fT):=by
 refine Fn.okJ ub (λds S k h=>?_) (λcdv A outer s H E hr=>⟨_,(aj (ak (au (aa (ar cX (ar aM (ah ag (ac 0) ae (λ_ _=>rfl)) (ah ag (ac 1) ae (λ_ _=>rfl))) (ar aM (ar aM (ah ag (ac 0) ae (λ_ _=>rfl)) (ah ag (ac 1) ae (λ_ _=>rfl))) (ac 2))) (aa (ar cX (ar aM (ah ag (ac 0) ae (λ_ _=>rfl)) (ah ag (ac 1) ae (λ_ _=>rfl))) (ar aM (ah ag (ac 0) ae (λ_ _=>rfl)) (ah ag (ac 1) ae (λ_ _=>rfl)))) ad))))),λds S k h=>?_⟩)
 ·obtain⟨_,_,_,_,rfl,_⟩:=h
  rfl
 ·obtain⟨x,y,U,n,rfl,hx,hy,hU,hn,w⟩:=h;exact⟨dy hx.a hy.a (by omega),dy hx.b hy.b (by omega),dy (hx.b.mul hy.b) hU (by omega),dy hx.a hy.b (by omega),dy hx.b hy.a (by omega),few,w⟩
def kA:bC:=λds S k=>∃ (x:Int×Int) (U:Int) (P:Nat) (n:Nat),ds=[iD x,.int P,.int U]/\B2 n x/\Bt n U/\n<=10000/\P<=12/\k (iD (jd U x P)) S
theorem eQ:ao ["one","power","base","told"] ["one","power","base"] (am kf):=cA
theorem uA (Fn:bL K "surd_power" "surd_power" kf f fd) (bT:aE P w K mg base "surd_times" 1 fT):
  aI P w K mg base ca 2 f fd ["one","power","base"] (cg K kA):=by
 refine Fn.okJ eQ (λds S k h=>?_) (λcdv A outer s H E hr=>⟨_,(af (ai (i:=3) eQ.nd (au (aa ae (aa ae ad)))) (af (kK PassesOwn.never (ax EG (ac 1) ae (aF _)) (af (aC (ax nA (ar pi (ac 1) ae) ae (aF _)) (aj (ai (i:=3) eQ.nd (dq bT hr (aa (ac 3) (aa (ac 0) (aa (ac 2) ad)))))) aG) (af (ai (i:=1) eQ.nd (ar jh (ac 1) ae)) (aj (aC (ax EG (ac 1) ae (aF _)) (aj (ai (i:=0) eQ.nd (dq bT hr (aa (ac 0) (aa (ac 0) (aa (ac 2) ad)))))) aG))))) (aj (ak (ac 3))))),λds S k h=>?_⟩)
 ·obtain⟨_,_,_,_,rfl,_⟩:=h
  rfl
 ·obtain⟨x,U,P,n,rfl,hx,hU,hn,hP,w⟩:=h;refine⟨few,λm L S'=>S'=S/\∃ p q:Nat,L=[some (iD (jd U x q)),some (.int (m:Nat)),some (.int U),some (iD (jd U x p))]/\p+q*m=P/\1<=q,⟨P,rfl,0,1,by rw [HC]; rfl,by omega,by decide⟩,?_⟩
  rintro m L S' ⟨rfl,p,q,rfl,hpq,q1⟩;have bd:∀ t,t<=12->B2 300000 (jd U x t):=λt ht=>(hx.pw hU t).mono (by
   have:t*(n+n+1)<=12*(n+n+1):=Nat.mul_le_mul_right _ ht;omega)
  have bU':Bt 300000 U:=hU.mono (by omega)
  refine aU (λh0=>?_) (λh0=>?_)
  ·have m0:0 < m:=by omega
   have qP:q*1<=q*m:=Nat.mul_le_mul_left _ m0;refine⟨λL' S''=>∃ m',m' < m/\S''=S'/\∃ p q:Nat,L'=[some (iD (jd U x q)),some (.int (m':Nat)),some (.int U),some (iD (jd U x p))]/\p+q*m'=P/\1<=q,λ_ _ z=>z,?_⟩
   have em:(m:Int).fmod 2=((m % 2:Nat):Int):=by
    rw [Int.fmod_eq_emod_of_nonneg _ (by decide)]
    omega
   have ed:(m:Int).fdiv 2=((m / 2:Nat):Int):=by
    rw [Int.fdiv_eq_ediv_of_nonneg _ (by decide)]
    omega
   have hm2:2*(m / 2)+m % 2=m:=Nat.div_add_mod m 2;refine A0 (λL S2=>S2=S'/\∃ p':Nat,L=[some (iD (jd U x q)),some (.int (m:Nat)),some (.int U),some (iD (jd U x p'))]/\p'+q*(2*(m / 2))=P) ?_ (λgo=>?_)
   rotate_left
   ·refine⟨by show(2:Int)≠0; decide,?_⟩
    show(if decide ((m:Int).fmod 2=1)=true then _ else _)
    rw [em];refine aU (λh1=>?_) (λh1=>?_)
    ·have e1:m % 2=1:=by omega
     refine⟨jd U x p,jd U x q,U,300000,rfl,bd p (by omega),bd q (by omega),bU',by decide,go _ _ ⟨rfl,p+q,by rw [vw],?_⟩⟩
     have e2:q*(2*(m / 2)+1)=q*m:=by congr 1; omega
     rw [Nat.mul_add] at e2;omega
    ·have e1:m % 2=0:=by omega
     refine go _ _ ⟨rfl,p,rfl,?_⟩;have e2:q*(2*(m / 2))=q*m:=by congr 1; omega
     omega
   ·rintro L2 S2 ⟨rfl,p',rfl,hp'⟩;refine⟨y4 (m:=2) (by decide) (by decide),?_⟩
    dsimp only;rw [ed];refine aU (λh1=>?_) (λh1=>?_)
    ·have d1:0 < m / 2:=by omega
     have:q*2<=q*(2*(m / 2)):=Nat.mul_le_mul_left _ (by omega)
     refine⟨jd U x q,jd U x q,U,300000,rfl,bd q (by omega),bd q (by omega),bU',by decide,m / 2,by omega,rfl,p',q+q,by rw [vw]; rfl,?_,by omega⟩
     rw [<- hp'];have:(q+q)*(m / 2)=q*(2*(m / 2)):=by rw [<- Nat.mul_assoc]; congr 1; omega
     omega
    ·have d1:m / 2=0:=by omega
     refine⟨m / 2,by omega,rfl,p',q,rfl,?_,q1⟩
     rw [<- hp',d1]
  ·have m0:m=0:=by omega
   subst m0;have e:p=P:=by omega
   subst e;exact w
def mR:bC:=λds S k=>∃ (u a b e:Rat) (s τ:Nat),ds=[N u a b,fr (e*e*u)]/\0 < u/\Sz τ u/\τ<=600/\(b=0\/e≠0)/\Sz s a/\Sz s b/\Sz s e/\1<=s/\s<=830/\∀ X M,SO (ab e*(((e*e*u).den:Int):Rat)) (9*s+2*τ+2) (a,b) X M->k (.tup [iD X,.int M]) S
theorem iy:ao ["number","base","portion","bottom","surd"] ["number","base"] (am lL):=cA
theorem w9 (Fn:bL K "surd_over" "surd_over" lL f fd) (aY:aE P w K mg base "over" 35 fB) (dI:aE P w K mg base "share" 37 mX) (aB:aE P w K mg base "common_multiple" 34 bH):
  aI P w K mg base ca 38 f fd ["number","base"] (cg K mR):=by
 refine Fn.okJ iy (λds S k h=>?_) (λcdv A outer s H E hr=>⟨_,(af (ai (i:=2) iy.nd (dq aY hr (aa (dq dI hr (aa (ac 0) (aa (ac 1) ad))) (aa (au (aa (ah ag (ac 1) ae (λ_ _=>rfl)) (aa ae ad))) ad)))) (af (ai (i:=3) iy.nd (dq aB hr (aa (ah ag (ah ag (ac 0) ae (λ_ _=>rfl)) ae (λ_ _=>rfl)) (aa (ah ag (ac 2) ae (λ_ _=>rfl)) ad)))) (af (ai (i:=4) iy.nd (au (aa (ar aM (ah ag (ah ag (ac 0) ae (λ_ _=>rfl)) ae (λ_ _=>rfl)) (ar jh (ac 3) (ah ag (ah ag (ac 0) ae (λ_ _=>rfl)) ae (λ_ _=>rfl)))) (aa (ar aM (ah ag (ac 2) ae (λ_ _=>rfl)) (ar jh (ac 3) (ah ag (ac 2) ae (λ_ _=>rfl)))) ad)))) (aj (ak (au (aa (ac 4) (aa (ac 3) ad)))))))),λds S k h=>?_⟩)
 ·obtain⟨_,_,_,_,_,_,rfl,_⟩:=h
  rfl
 ·obtain⟨u,a,b,e,s,τ,rfl,u0,su,ht6,be,sa,sb,se,s1,s100,w⟩:=h;have d0:(((e*e*u).den:Int):Rat)≠0:=λz=>by
   have:=QN.mp (show (((e*e*u).den:Int):Rat)=((0:Int):Rat) from z)
   have:=fo (e*e*u);omega
  have sB:=(se.mul se).mul su;have s1':=sb.div' se.ab;have sd:Sz (s+s+τ) (((e*e*u).den:Int):Rat):=⟨by rw [Rat.num_intCast]; exact sB.den,by rw [Rat.den_intCast]; exact(show Bt 1 1 by decide).mono (by omega)⟩
  have sP:=s1'.div sd d0;generalize hP:b / ab e / (((e*e*u).den:Int):Rat)=P at sP;have dv1:(a.den:Int) ∣ ((Int.lcm (a.den:Int) (P.den:Int):Nat):Int):=Int.dvd_lcm_left _ _;have dv2:(P.den:Int) ∣ ((Int.lcm (a.den:Int) (P.den:Int):Nat):Int):=Int.dvd_lcm_right _ _;have M0:=oE (fo a) (fo P);have bM:Bt (5*s+τ+1) ((Int.lcm (a.den:Int) (P.den:Int):Nat):Int):=mD (x:=(a.den:Int)*(P.den:Int)) (Int.coe_lcm_dvd (Int.dvd_mul_right _ _) (Int.dvd_mul_left _ _)) (by have:=Int.mul_pos (fo a) (fo P); omega) ((sa.den.mul sP.den).mono (by omega))
  have bf1:Bt (5*s+τ+1) (((Int.lcm (a.den:Int) (P.den:Int):Nat):Int).fdiv (a.den:Int)):=bM.le (HM.aH _ _);have bf2:Bt (5*s+τ+1) (((Int.lcm (a.den:Int) (P.den:Int):Nat):Int).fdiv (P.den:Int)):=bM.le (HM.aH _ _);refine⟨u,a,b,e,rfl,u0,be,⟨sb.mono (by omega),se.mono (by omega)⟩,su.mono (by omega),few,b / ab e,(((e*e*u).den:Int):Rat),congrArg (λz=>[fr (b / ab e),z]) (PM _),d0,s1'.mono (by omega),sd.mono (by omega),?_⟩
  rw [hP];refine⟨(a.den:Int),(P.den:Int),rfl,fo a,fo P,sa.den.mono (by omega),sP.den.mono (by omega),?_⟩
  refine⟨y4 (by have:=fo a; omega) sa.den (by omega),dy sa.num bf1 (by omega),y4 (by have:=fo P; omega) sP.den (by omega),dy sP.num bf2 (by omega),few,few,?_⟩
  refine w (fv _ a,fv _ P) _ ⟨M0,bM.mono (by omega),⟨(sa.num.mul bf1).mono (by omega),(sP.num.mul bf2).mono (by omega)⟩,(a,P),⟨rfl,?_,λk0=>?_⟩,?_⟩
  ·show b=ab e*_*P
   rw [<- hP];rcases be with b0 | e0
   ·rw [b0];grind
   ·have:=nF e0;grind
  ·show P=0
   rw [<- hP];rcases be with b0 | e0
   ·rw [b0];grind
   ·have:=nF e0;grind
  ·unfold qc qk;apply Qk
   ·exact m6 dv1
   ·exact m6 dv2
abbrev bU (e u:Rat):Int:=(e*e*u).num*((e*e*u).den:Int)
def Gn (U:Int) (X:Int×Int) (M:Int) (mx:Nat) (l:List Int):List (L2.dJ×D):=l.map λn=>(Sum.inl n,iD (ft U (jd U X n.toNat) (jd U (M,0) (mx - n.toNat))))
theorem Et (ns:List Int):(pA ns).length<=7:=by
 unfold pA PySem.subI PySem.subM;rw [P5];exact QH (List.length_filter_le _ _) (by decide)
theorem Gh {U:Int} {X:Int×Int} {M:Int} {mx:Nat} {l:List Int} {n:Int} (h:n∉l):Ef (Gn U X M mx l) (.inl n) (iD (ft U (jd U X n.toNat) (jd U (M,0) (mx - n.toNat))))=Gn U X M mx (l++[n]):=by
 unfold Ef Gn;rw [if_neg,List.map_append]
 ·rfl
 ·intro z;obtain⟨x,hx,e⟩:=List.any_eq_true.mp z;obtain⟨k,hk,rfl⟩:=P4.mp hx;simp only [Q5] at e;cases e;exact h hk
theorem wI {U:Int} {X:Int×Int} {M:Int} {mx:Nat} {n:Int}:∀ {l:List Int},n∈l->xK (Gn U X M mx l) (.inl n)=some (iD (ft U (jd U X n.toNat) (jd U (M,0) (mx - n.toNat))))
 | k::l,h=>by
  by_cases e:k=n
  ·subst e;simp [xK,Gn,Qg]
  ·have h':n∈l:=by
    rcases P8.mp h with q | q
    ·exact absurd q.symm e
    ·exact q
   have:=wI (U:=U) (X:=X) (M:=M) (mx:=mx) h';simp only [xK,Gn,Qd,Qg] at this ⊢;have ne:(decide ((Sum.inl k:L2.dJ)=Sum.inl n))=false:=by
    simp;exact e
   rw [ne];exact this
def jG:bC:=λds S k=>∃ (u a b e:Rat) (s τ:Nat) (q:Addr) (ns:List Int),ds=[N u a b,.ref q,fr (e*e*u)]/\S q=some (.lst (ns.map D.int))/\ns≠[]/\ns.length<=100/\(∀ n∈ns,0<=n/\n < 7)/\0 < u/\Sz τ u/\τ<=600/\(b=0\/e≠0)/\Sz s a/\Sz s b/\Sz s e/\1<=s/\s<=830/\
 ∀ S' p X M mx,cC S S'->SO (ab e*(((e*e*u).den:Int):Rat)) (9*s+2*τ+2) (a,b) X M->(∀ n∈ns,n.toNat<=mx)->mx < 7->S' p=some (.gen (.dK (Gn (bU e u) X M mx (pA ns))))->k (.tup [.ref p,.int (M ^ mx)]) S'
theorem cs:ao ["number","powers","base","found","under","bottom","most","told","power"] ["number","powers","base"] (am jE):=cA
theorem sJ (Fn:bL K "powers_over" "powers_over" jE f fd) (mm:aE P w K mg base "surd_over" 38 mR) (bT:aE P w K mg base "surd_times" 1 fT) (fJ:aE P w K mg base "surd_power" 2 kA) (lc:mg "max"=none) (tK:mg "sorted"=none) (EW:mg "set"=none):
  aI P w K mg base ca 39 f fd ["number","powers","base"] (cg K jG):=by
 refine Fn.okJ cs (λds S k h=>?_) (λcdv A outer s H E hr=>⟨_,(af (ai (i:=3) cs.nd (dq mm hr (aa (ac 0) (aa (ac 2) ad)))) (af (ai (i:=4) cs.nd (ar aM (ah ag (ac 2) ae (λ_ _=>rfl)) (ah ag (ac 2) ae (λ_ _=>rfl)))) (af (ai (i:=5) cs.nd (au (aa (ah ag (ac 3) ae (λ_ _=>rfl)) (aa ae ad)))) (af (ai (i:=6) cs.nd (cI K' rfl lc wC (aa (ac 1) ad))) (af (ai (i:=7) cs.nd Gj) (af (fh PassesOwn.never rfl (yQ rfl rfl tK Bi rfl EW J4 (ac 1)) (aP (i:=8) cs.nd) (aj (iU (dq bT hr (aa (dq fJ hr (aa (ah ag (ac 3) ae (λ_ _=>rfl)) (aa (ac 8) (aa (ac 4) ad)))) (aa (dq fJ hr (aa (ac 5) (aa (ar jZ (ac 6) (ac 8)) (aa (ac 4) ad)))) (aa (ac 4) ad)))) (Hk hr (ac 7) (ac 8))))) (aj (ak (au (aa (ac 7) (aa (ah ag (dq fJ hr (aa (ac 5) (aa (ac 6) (aa (ac 4) ad)))) ae (λ_ _=>rfl)) ad))))))))))),λds S k h=>?_⟩)
 ·obtain⟨_,_,_,_,_,_,_,_,rfl,_⟩:=h
  rfl
 ·obtain⟨u,a,b,e,s,τ,q,ns,rfl,hq,hne,hl,hb,u0,su,ht6,be,sa,sb,se,s1,s100,w⟩:=h;have sB:=(se.mul se).mul su;have bUU:Bt (9*s+2*τ+2) (bU e u):=(sB.num.mul sB.den).mono (by omega)
  refine⟨u,a,b,e,s,τ,rfl,u0,su,ht6,be,sa,sb,se,s1,s100,λX M so=>⟨dy sB.num sB.den (by omega),few,ns,hq,hne,λm hm hx p hp=>⟨ns,eS hp hq,hb,λq2 hq2=>⟨((pA ns).map D.int,some q2),by simp only [bj,av],?_⟩⟩⟩⟩
  have bm:=hb m hm;have sM:B2 (9*s+2*τ+2) (M,(0:Int)):=⟨so.bM,(show Bt 1 0 by decide).mono (by omega)⟩
  have bd:∀ {x:Int×Int} t,B2 (9*s+2*τ+2) x->t<=7->B2 200000 (jd (bU e u) x t):=λt h ht=>(h.pw bUU t).mono (by
   have:t*(9*s+2*τ+2+(9*s+2*τ+2)+1)<=7*(9*s+2*τ+2+(9*s+2*τ+2)+1):=Nat.mul_le_mul_right _ ht;omega)
  have lt:=Gz ns;have npq:p≠q2:=λz=>by rw [<- z,av] at hq2; cases hq2
  refine dH (λr L S'=>∃ (don aw:List Int) (l8:Option D),pA ns=don++aw/\r=aw.map D.int/\L=[some (N u a b),some (.ref q),some (fr (e*e*u)),some (.tup [iD X,.int M]),some (.int (bU e u)),some (.tup [.int M,.int 0]),some (.int m),some (.ref p),l8]/\cC S S'/\S' q2=some (.lst ((pA ns).map D.int))/\S' p=some (.gen (.dK (Gn (bU e u) X M m.toNat don)))) (λr L S' ⟨_,_,_,_,_,_,_,h,_⟩=>h) ?_ ?_ _ _ _ ⟨[],pA ns,none,rfl,rfl,rfl,(cC.new hp).trans (cC.new hq2),av,by rw [cQ npq,av]; rfl⟩
  ·rintro d r L S1 N1 ⟨don,aw,l8,ec,er,rfl,x1,h2,h1⟩ hN;cases aw with
   | nil=>cases er
   | cons n aw=>
    cases er;have mn:n∈ns:=(lN hb).mp (by rw [ec]; simp)
    have bn:=hb n mn;have nm:=hx n mn;have dl:don.length < 100:=by
     have l7:(pA ns).length<=7:=Et ns;have:=congrArg List.length ec;rw [Ql,Qe] at this;omega
    have nin:n∉don:=λz=>by
     rw [ec] at lt;have:=(List.pairwise_append.mp lt).2.2 n z n (by simp)
     omega
    refine⟨X,bU e u,n.toNat,9*s+2*τ+2,congrArg (λz=>[iD X,z,.int (bU e u)]) (congrArg D.int (by omega)),so.bX,bUU,by omega,by omega,(M,0),bU e u,m.toNat - n.toNat,9*s+2*τ+2,congrArg (λz=>[iD (M,0),z,.int (bU e u)]) (congrArg D.int (by omega)),sM,bUU,by omega,by omega,?_⟩
    refine⟨_,_,bU e u,200000,rfl,bd _ so.bX (by omega),bd _ sM (by omega),bUU.mono (by omega),by decide,_,h1,by unfold Gn; rw [P5]; exact lim (by omega),hN _ _ ⟨don++[n],aw,_,by rw [ec]; simp,rfl,rfl,x1.put hp,by rw [cQ (Ne.symm npq)]; exact h2,?_⟩⟩
    rw [av,Gh nin]
  ·rintro L S1 ⟨don,aw,l8,ec,er,rfl,x1,h2,h1⟩;cases aw with
   | cons n aw=>cases er
   | nil=>
    rw [Qn] at ec;subst ec;refine⟨(M,0),bU e u,m.toNat,9*s+2*τ+2,congrArg (λz=>[iD (M,0),z,.int (bU e u)]) (congrArg D.int (by omega)),sM,bUU,by omega,by omega,few,?_⟩
    rw [qd];exact w S1 p X M m.toNat x1 so (λn hn=>by have:=hx n hn; have:=hb n hn; omega) (by omega) h1
theorem EK {S:DH} {f:Addr} {c:List (List Int×Rat)} {e1:Nat} {p:Addr} {k:DK} (j:Int) (g:List Int->Int) (hg:∀ x∈c,L2.atI (x.1.map D.int) j=some (.int (g x.1))) (hp:S p=none) (hf:S f=some (lp (ig c) e1)) (hl:c.length<=100) (kk:∀ S2,cC S S2->S2 p=some (.lst ((c.map λx=>g x.1).map D.int))->k (.ref p) S2):
  ∀ (aw don:List (List Int×Rat)) (l0:Option D) (S1:DH),c=don++aw->cC S S1->S1 p=some (.lst ((don.map λx=>g x.1).map D.int))->
   cz (λS=>S f=some (lp (ig c) e1)) p (mf 0) (jR (xM Cu (kD 0) (dC (.int j)))) k (aw.map λx=>jC x.1) ((don.map λx=>g x.1).map D.int) [l0] S1
 | [],don,l0,S1,ec,x1,h1=>by
  rw [Qn] at ec;subst ec;exact⟨x1 _ _ hf,kk S1 x1 h1⟩
 | q::aw,don,l0,S1,ec,x1,h1=>by
  have e0:=hg q (by rw [ec]; simp)
  refine⟨x1 _ _ hf,?_⟩
  show(match L2.atI (q.1.map D.int) j with | some c=>_ | none=>False)
  rw [e0];refine⟨h1,?_,?_⟩
  ·rw [P5,P5];have:=congrArg List.length ec;rw [Ql,Qe] at this;exact lim (by omega)
  ·have ea:(don.map λx=>g x.1).map D.int++[D.int (g q.1)]=((don++[q]).map λx=>g x.1).map D.int:=by simp
   rw [ea];exact EK j g hg hp hf hl kk aw (don++[q]) _ _ (by rw [ec]; simp) (x1.put hp) av
theorem Cg {u:Rat} {x y:Q} {c:List (List Int×Rat)} {p:List Int×Rat} {s:Q}:i_ u x y (c++[p]) s=qa (i_ u x y c s) (qk p.2 (mon u x y p.1)):=by
 unfold i_;rw [List.foldl_append]
 rfl
theorem Ao (b d:Rat):(b=0\/pick b d≠0)/\(d=0\/pick b d≠0):=by
 unfold pick
 by_cases h:b=0
 ·rw [if_pos h];exact⟨.inl h,Classical.em _⟩
 ·rw [if_neg h];exact⟨.inr h,.inr h⟩
theorem y9 {n:Nat} {M:Int} (h:Bt n M):∀ t,Bt (t*n+1) (M ^ t)
 | 0=>by rw [Int.pow_zero,Nat.zero_mul]; decide
 | t+1=>by rw [Int.pow_succ]; exact((y9 h t).mul h).mono (by rw [Nat.add_mul]; omega)
def mo:bC:=λds S k=>∃ (u e:Rat) (x y:Q) (s τ:Nat) (a:Addr) (c:List (List Int×Rat)) (ep:Nat) (B:Int) (nB:Nat),ds=[.ref a,Pq u x y,fr (e*e*u)]/\S a=some (lp (ig c) ep)/\Cv 28 900 6 c/\c≠[]/\0 < B/\Bt nB B/\nB<=3000/\(∀ p∈c,(p.2.den:Int) ∣ B)/\0 < u/\Sz τ u/\τ<=600/\(x.2=0\/e≠0)/\(y.2=0\/e≠0)/\Sq s x/\Sq s y/\Sz s e/\1<=s/\s<=830/\
 ∀ S' P M v',cC S S'->0 < M->Bt (nB+13*(9*s+2*τ+2)) M->Rl (ab e*(((e*e*u).den:Int):Rat)) (i_ u x y c (0,0)) v'->qc P=qk (M:Rat) v'->k (.tup [iD P,.int M]) S'
theorem bD:ao ["curve","point","base","xs","ys","bottom","part","portion","key","top","surd"] ["curve","point","base"] (am mw):=cA
theorem wU (Fn:bL K "side_over" "side_over" mw f fd) (gN:aE P w K mg base "powers_over" 39 jG) (cF:aE P w K mg base "common_bottom" 35 fc) (fk:aE P w K mg base "tops_over" 1 jg) (bT:aE P w K mg base "surd_times" 1 fT) (pE:mg "list"=none):
  aI P w K mg base ca 40 f fd ["curve","point","base"] (cg K mo):=by
 refine Fn.okJ bD (λds S k h=>?_) (λcdv A outer s H E hr=>⟨_,(af (ai (i:=3) bD.nd (dq gN hr (aa (ah ag (ac 1) ae (λ_ _=>rfl)) (aa (sT rfl (ot (N:=["key"]) (cap:=[none]) rfl rfl rfl rfl trivial rfl rfl trivial) (rn (ac 0)) (λ_ _ _ _=>(aP (i:=0) (show List.Nodup (["key"]:List Str) from by decide +kernel))) (λ_ _ _ _=>(ah ag (ac 0) ae (λ_ _=>rfl)))) (aa (ac 2) ad))))) (af (ai (i:=4) bD.nd (dq gN hr (aa (ah ag (ac 1) ae (λ_ _=>rfl)) (aa (sT rfl (ot (N:=["key"]) (cap:=[none]) rfl rfl rfl rfl trivial rfl rfl trivial) (rn (ac 0)) (λ_ _ _ _=>(aP (i:=0) (show List.Nodup (["key"]:List Str) from by decide +kernel))) (λ_ _ _ _=>(ah ag (ac 0) ae (λ_ _=>rfl)))) (aa (ac 2) ad))))) (af (ai (i:=5) bD.nd (dq cF hr (aa (yg rfl rfl pE (ac 0)) ad))) (af (ai (i:=6) bD.nd ae) (af (ai (i:=7) bD.nd ae) (af (jY PassesOwn.never rfl (oQ (dq fk hr (aa (ac 0) (aa (ac 5) ad)))) (nj (n:=2) rfl (cD (aP (i:=8) bD.nd) (cD (aP (i:=9) bD.nd) jX))) (af (ai (i:=10) bD.nd (dq bT hr (aa (Ag hr (ah ag (ac 3) ae (λ_ _=>rfl)) (ah ag (ac 8) ae (λ_ _=>rfl)) (λ_ _=>rfl)) (aa (Ag hr (ah ag (ac 4) ae (λ_ _=>rfl)) (ah ag (ac 8) ae (λ_ _=>rfl)) (λ_ _=>rfl)) (aa (ar aM (ah ag (ac 2) ae (λ_ _=>rfl)) (ah ag (ac 2) ae (λ_ _=>rfl))) ad))))) (af (ai (i:=6) bD.nd (ar cX (ac 6) (ar aM (ac 9) (ah ag (ac 10) ae (λ_ _=>rfl))))) (aj (ai (i:=7) bD.nd (ar cX (ac 7) (ar aM (ac 9) (ah ag (ac 10) ae (λ_ _=>rfl))))))))) (aj (ak (au (aa (au (aa (ac 6) (aa (ac 7) ad))) (aa (ar aM (ar aM (ac 5) (ah ag (ac 3) ae (λ_ _=>rfl))) (ah ag (ac 4) ae (λ_ _=>rfl))) ad))))))))))),λds S k h=>?_⟩)
 ·obtain⟨_,_,_,_,_,_,_,_,_,_,_,rfl,_⟩:=h
  rfl
 ·obtain⟨u,e,x,y,s,τ,a,c,ep,B,nB,rfl,ha,hc,hne,B0,bB,hnB,hdv,u0,su,ht6,bx,by_,sx,sy,se,s1,s100,w⟩:=h;have key:∀ q∈c,∃ i j:Int,q.1=[i,j]/\(0<=i/\i < 7)/\(0<=j/\j < 7):=λq hq=>by
   obtain⟨i,j,ek,i0,j0,i1,j1⟩:=hc.sm q hq;exact⟨i,j,ek,⟨i0,by omega⟩,⟨j0,by omega⟩⟩
  have hl:=hc.hl;have c0:∀ (g:List Int->Int),(c.map λx=>g x.1)≠[]:=λg z=>hne (by simpa using z)
  have b0:∀ n∈c.map (λx=>x.1.getD 0 0),0<=n/\n < 7:=λn hn=>by
   obtain⟨q,hq,rfl⟩:=P4.mp hn;obtain⟨i,j,ek,hi,hj⟩:=key q hq;rw [ek];exact hi
  have b1:∀ n∈c.map (λx=>x.1.getD 1 0),0<=n/\n < 7:=λn hn=>by
   obtain⟨q,hq,rfl⟩:=P4.mp hn;obtain⟨i,j,ek,hi,hj⟩:=key q hq;rw [ek];exact hj
  refine⟨_,_,ha,λp1 hp1=>?_⟩
  rw [GU];refine EK (S:=S) 0 (λk=>k.getD 0 0) (λq hq=>by obtain⟨i,j,ek,_⟩:=key q hq; rw [ek]; rfl) hp1 ha (by omega) (λS1 x1 h1=>?_) c [] none _ rfl (cC.new hp1) av
  refine⟨u,x.1,x.2,e,s,τ,p1,_,rfl,h1,c0 (λk=>k.getD 0 0),by rw [P5]; omega,b0,u0,su,ht6,bx,sx.a,sx.b,se,s1,s100,λS2 q1 X MX mx x2 soX hmx mx7 hX=>?_⟩
  have ha2:=x2 _ _ (x1 _ _ ha);refine⟨_,_,ha2,λp2 hp2=>?_⟩
  rw [GU];refine EK (S:=S2) 1 (λk=>k.getD 1 0) (λq hq=>by obtain⟨i,j,ek,_⟩:=key q hq; rw [ek]; rfl) hp2 ha2 (by omega) (λS3 x3 h3=>?_) c [] none _ rfl (cC.new hp2) av
  refine⟨u,y.1,y.2,e,s,τ,p2,_,rfl,h3,c0 (λk=>k.getD 1 0),by rw [P5]; omega,b1,u0,su,ht6,by_,sy.a,sy.b,se,s1,s100,λS4 q2 Y MY my x4 soY hmy my7 hY=>?_⟩
  have X4:=(x1.trans x2).trans (x3.trans x4);have ha4:=X4 _ _ ha;have hX4:=x4 _ _ (x3 _ _ hX);refine⟨_,_,ha4,λp3 hp3=>⟨p3,c.map (·.2),B,rfl,?_,B0,bB.mono (by omega),λq hq=>?_,?_⟩⟩
  ·rw [av]
   congr 2
   show List.map _ (List.map _ c)=List.map _ (List.map _ c)
   rw [QJ,QJ]
   rfl
  ·obtain⟨r,hr,rfl⟩:=P4.mp hq;exact hdv r hr
  have X5:cC S (put S4 p3 (.lst ((ig c).map (·.2)))):=X4.trans (cC.new hp3);have ha5:put S4 p3 (.lst ((ig c).map (·.2))) a=_:=eS hp3 ha4;have hX5:put S4 p3 (.lst ((ig c).map (·.2))) q1=_:=eS hp3 hX4;have hY5:put S4 p3 (.lst ((ig c).map (·.2))) q2=_:=eS hp3 hY;generalize put S4 p3 (.lst ((ig c).map (·.2)))=S5 at X5 ha5 hX5 hY5 ⊢
  have Bp:0 < wS 1 (c.map (·.2)):=vS (by decide)
  have Bd:wS 1 (c.map (·.2)) ∣ B:=zh (Int.one_dvd B) λq hq=>by
   obtain⟨r,hr,rfl⟩:=P4.mp hq;exact hdv r hr
  have Bb:=mD Bd (by omega) bB
  have Bq:∀ q∈c,(q.2.den:Int) ∣ wS 1 (c.map (·.2)):=λq hq=>(rA (m:=1)).2 _ (Q7 hq)
  generalize wS 1 (c.map (·.2))=Bc at Bp Bd Bb Bq ⊢
  refine⟨a,c,ep,Bc,rfl,ha5,hc.nd,by omega,λq hq=>(hc.hz q hq).mono (by decide),Bb.mono (by omega),λS6 pt et x6 ht=>⟨_,_,ht,?_⟩⟩
  have hX6:=x6 _ _ hX5;have hY6:=x6 _ _ hY5;have sB:=(se.mul se).mul su;have bUU:Bt (9*s+2*τ+2) (bU e u):=(sB.num.mul sB.den).mono (by omega)
  have hU:=HP (β:=e*e*u) (e:=e) (u:=u) rfl;obtain⟨x',rx,eX⟩:=soX.rel;obtain⟨y',ry,eY⟩:=soY.rel;have bd:∀ {x:Int×Int} {t:Nat},B2 (9*s+2*τ+2) x->t<=7->B2 200000 (jd (bU e u) x t):=λ{x t} h ht=>(h.pw bUU t).mono (by
   have:t*(9*s+2*τ+2+(9*s+2*τ+2)+1)<=7*(9*s+2*τ+2+(9*s+2*τ+2)+1):=Nat.mul_le_mul_right _ ht;omega)
  have sMX:B2 (9*s+2*τ+2) (MX,(0:Int)):=⟨soX.bM,(show Bt 1 0 by decide).mono (by omega)⟩
  have sMY:B2 (9*s+2*τ+2) (MY,(0:Int)):=⟨soY.bM,(show Bt 1 0 by decide).mono (by omega)⟩
  have pX:∀ t,mx - t<=7:=λt=>by omega
  have pY:∀ t,my - t<=7:=λt=>by omega
  have bX:=y9 soX.bM mx;have bY:=y9 soY.bM my;have bX':Bt (6*(9*s+2*τ+2)+1) (MX ^ mx):=bX.mono (by have:mx*(9*s+2*τ+2)<=6*(9*s+2*τ+2):=Nat.mul_le_mul_right _ (by omega); omega)
  have bY':Bt (6*(9*s+2*τ+2)+1) (MY ^ my):=bY.mono (by have:my*(9*s+2*τ+2)<=6*(9*s+2*τ+2):=Nat.mul_le_mul_right _ (by omega); omega)
  refine dH (λr L S'=>S'=S6/\∃ (don aw:List (List Int×Rat)) (l8 l9 l10:Option D) (P:Int×Int),c=don++aw/\r=cN (Lg (aw.map λx=>(x.1,fv Bc x.2)))/\L=[some (.ref a),some (Pq u x y),some (fr (e*e*u)),some (.tup [.ref q1,.int (MX ^ mx)]),some (.tup [.ref q2,.int (MY ^ my)]),some (.int Bc),some (.int P.1),some (.int P.2),l8,l9,l10]/\qc P=qk ((Bc:Rat)*((MX:Rat) ^ mx*(MY:Rat) ^ my)) (i_ ((bU e u:Int):Rat) x' y' don (0,0))) (λr L S' ⟨h,_⟩=>by rw [h]; exact ht) ?_ ?_ _ _ _ ⟨rfl,[],c,none,none,none,(0,0),rfl,rfl,rfl,by show(((0:Int):Rat),((0:Int):Rat))=qk _ ((0:Rat),(0:Rat)); unfold qk; apply Qk <;> dsimp only <;> rw [Rat.mul_zero] <;> rfl⟩
  ·rintro d r L S' N1 ⟨rfl,don,aw,l8,l9,l10,P,ec,er,rfl,eP⟩ hN;cases aw with
   | nil=>cases er
   | cons q aw=>
    cases er;have mq:q∈c:=by rw [ec]; simp
    obtain⟨i,j,ek,hi,hj⟩:=key q mq;obtain⟨k0,t0⟩:=q;have ek:k0=[i,j]:=ek;subst ek;have mi:i∈pA (c.map λx=>x.1.getD 0 0):=(lN b0).mpr (P4.mpr ⟨_,mq,rfl⟩)
    have mj:j∈pA (c.map λx=>x.1.getD 1 0):=(lN b1).mpr (P4.mpr ⟨_,mq,rfl⟩)
    have li:=hmx i ((lN b0).mp mi);have lj:=hmy j ((lN b1).mp mj);have z1:=(bd soX.bX (show i.toNat<=7 by omega)).mul (bd sMX (pX i.toNat)) bUU
    have z2:=(bd soY.bX (show j.toNat<=7 by omega)).mul (bd sMY (pY j.toNat)) bUU
    have z1':=z1.mono (show 200000+200000+(9*s+2*τ+2)+1<=500000 by omega)
    have z2':=z2.mono (show 200000+200000+(9*s+2*τ+2)+1<=500000 by omega)
    have z3:=z1'.mul z2' bUU;have bt:Bt (900+nB) (fv Bc t0):=(hc.hz _ mq).num.mul (Bb.le (HM.aH _ _));refine⟨([jC [i,j],.int (fv Bc t0)],none),rfl,rfl,rfl,_,_,hX6,wI mi,_,_,hY6,wI mj,dy sB.num sB.den (by omega),_,_,bU e u,500000,rfl,z1',z2',bUU.mono (by omega),by decide,dy bt z3.a (by omega),dy bt z3.b (by omega),hN _ _ ⟨rfl,don++[([i,j],t0)],aw,_,_,_,(P.1+fv Bc t0*_,P.2+fv Bc t0*_),by rw [ec]; simp,rfl,rfl,?_⟩⟩
    have e1:=z9 (U:=bU e u) eX li;have e2:=z9 (U:=bU e u) eY lj;have e3:=yR (bU e u) (ft (bU e u) (jd (bU e u) X i.toNat) (jd (bU e u) (MX,0) (mx - i.toNat))) (ft (bU e u) (jd (bU e u) Y j.toNat) (jd (bU e u) (MY,0) (my - j.toNat)));rw [e1,e2,Jn] at e3;have e4:qm ((bU e u:Int):Rat) (CI ((bU e u:Int):Rat) x' i.toNat) (CI ((bU e u:Int):Rat) y' j.toNat)=mon ((bU e u:Int):Rat) x' y' [i,j]:=rfl;rw [e4] at e3;generalize ft (bU e u) (ft (bU e u) (jd (bU e u) X i.toNat) (jd (bU e u) (MX,0) (mx - i.toNat))) (ft (bU e u) (jd (bU e u) Y j.toNat) (jd (bU e u) (MY,0) (my - j.toNat)))=Zp at e3 ⊢;have et:=m6 (Bq _ mq);have et:((fv Bc t0:Int):Rat)=Bc*t0:=et;rw [Cg,M8,<- eP,OA]
    show(((P.1+fv Bc t0*Zp.1:Int):Rat),((P.2+fv Bc t0*Zp.2:Int):Rat))=qa (qc P) (qk _ (mon ((bU e u:Int):Rat) x' y' [i,j]))
    have f1:((Zp.1:Int):Rat)=_:=congrArg Prod.fst e3;have f2:((Zp.2:Int):Rat)=_:=congrArg Prod.snd e3;unfold qk at f1 f2
    dsimp only at f1 f2
    unfold qa qk qc;apply Qk <;> dsimp only <;> rw [Qj,P1,et]
    ·rw [f1];grind
    ·rw [f2];grind
  ·rintro L S' ⟨rfl,don,aw,l8,l9,l10,P,ec,er,rfl,eP⟩;cases aw with
   | cons q aw=>cases er
   | nil=>
    rw [Qn] at ec;subst ec;have M0:0 < Bc*MX ^ mx*MY ^ my:=Int.mul_pos (Int.mul_pos Bp (Int.pow_pos soX.M0)) (Int.pow_pos soY.M0);refine⟨few,dy Bb bX' (by omega),dy (Bb.mul bX') bY' (by omega),few,w S' P _ _ (X5.trans x6) M0 (((Bb.mul bX').mul bY').mono (by omega)) (rx.val hU ry c Rl.zero) ?_⟩
    have eM:((Bc*MX ^ mx*MY ^ my:Int):Rat)=(Bc:Rat)*((MX:Rat) ^ mx*(MY:Rat) ^ my):=by rw [P1,P1,Rat.intCast_pow,Rat.intCast_pow,Rat.mul_assoc]
    rw [eP,eM]
theorem LN {a b:Int}:jQ 8 (.tup [.int a,.int b]) (.tup [.int 0,.int 0])=some (decide (a=0/\b=0)):=by
 rw [l5 (n:=7) eq_int eq_int]
 congr 1
 by_cases h1:a=0 <;> by_cases h2:b=0 <;> simp [h1,h2]
def oy:bC:=λds S k=>∃ (u:Rat) (x y:Q) (s τ:Nat) (a:Addr) (c:List (List Int×Rat)) (ep:Nat) (B:Int) (nB:Nat),ds=[.ref a,Pq u x y]/\S a=some (lp (ig c) ep)/\Cv 28 900 6 c/\0 < B/\Bt nB B/\nB<=3000/\(∀ p∈c,(p.2.den:Int) ∣ B)/\0 < u/\Sz τ u/\τ<=600/\Sq s x/\Sq s y/\1<=s/\s<=830/\∀ S',cC S S'->k (.bl (decide (i_ u x y c (0,0)=(0,0)))) S'
theorem yh:ao ["curve","point"] ["curve","point"] (am n6):=cA
theorem xI (Fn:bL K "on_curve" "on_curve" n6 f fd) (lK:aE P w K mg base "side_over" 40 mo) (bv:aE P w K mg base "field_base" 2 ef) (fY:mg "len"=none):
  aI P w K mg base ca 41 f fd ["curve","point"] (cg K oy):=by
 refine Fn.okJ yh (λds S k h=>?_) (λcdv A outer s H E hr=>⟨_,(af (aC (ax (vn hr) (cI EN rfl fY qe (aa (ac 0) ad)) ae (aF _)) (aj (ak fA)) aG) (aj (ak (wK (vn hr) (ah ag (dq lK hr (aa (ac 0) (aa (ac 1) (aa (dq bv hr (aa (ah ag (ac 1) ae (λ_ _=>rfl)) (aa (ah ag (ac 1) ae (λ_ _=>rfl)) ad))) ad)))) ae (λ_ _=>rfl)) (au (aa ae (aa ae ad))) (aF _))))),λds S k h=>?_⟩)
 ·obtain⟨_,_,_,_,_,_,_,_,_,_,rfl,_⟩:=h
  rfl
 ·obtain⟨u,x,y,s,τ,a,c,ep,B,nB,rfl,ha,hc,B0,bB,hnB,hdv,u0,su,ht6,sx,sy,s1,s100,w⟩:=h
  by_cases hne:c=[]
  ·subst hne;exact⟨_,_,ha,true,rfl,xy (λ_=>w S (cC.refl S)) (λz=>by cases z)⟩
  ·have l0:jQ 8 (.int (((ig c).length:Nat):Int)) (.int 0)=some false:=by
    rw [gM];cases c with
    | nil=>exact absurd rfl hne
    | cons p c=>
     show some (decide (((c.length+1:Nat):Int)=0))=some false
     rw [QV (by omega)]
   refine⟨_,_,ha,false,l0,xy (λz=>by cases z) (λ_=>?_)⟩
   have se:=Sz.pick sx.b sy.b;refine⟨u,x.1,x.2,y.1,y.2,rfl,u0,?_⟩;refine⟨u,pick x.2 y.2,x,y,s,τ,a,c,ep,B,nB,rfl,ha,hc,hne,B0,bB,hnB,hdv,u0,su,ht6,(Ao _ _).1,(Ao _ _).2,sx,sy,se,s1,by omega,λS1 P M v' x1 M0 bM rl eP=>⟨few,decide (i_ u x y c (0,0)=(0,0)),?_,w S1 x1⟩⟩
   have m0:(M:Rat)≠0:=λz=>by
    have:=QN.mp (show (M:Rat)=((0:Int):Rat) from z)
    omega
   have q1:(P.1:Rat)=M*v'.1:=congrArg Prod.fst eP;have q2:(P.2:Rat)=M*v'.2:=congrArg Prod.snd eP;have zz:∀ {t:Int} {q:Rat},(t:Rat)=M*q->(t=0↔q=0):=λ{t q} h=>by
    constructor
    ·intro e;rw [e] at h;have h:(0:Rat)=M*q:=h;grind
    ·intro e;rw [e,Rat.mul_zero] at h;exact QN.mp (by rw [h]; rfl)
   have i1:=zz q1;have i2:=zz q2;have i3:v'.2=0↔(i_ u x y c (0,0)).2=0:=by
    have b:=rl.b;have z:=rl.z
    constructor
    ·intro e;rw [b,e,Rat.mul_zero]
    ·intro e;rw [e] at b;grind
   have fin:(P.1=0/\P.2=0)↔i_ u x y c (0,0)=(0,0):=by
    rw [i1,i2,i3,rl.a];exact⟨λh=>Qk h.1 h.2,λh=>by rw [h]; exact⟨rfl,rfl⟩⟩
   rw [<- decide_eq_decide.mpr fin];exact LN
set_option maxHeartbeats 4000000
structure V4 where
 a:Rat
 b:Rat
 c:Rat
 d:Rat
structure Rp (u h x1 x2 y1 y2:Rat) (t b:V4):Prop where
 e1:t.a=x1*b.a+x2*(b.b*h)*u - (y1*b.c+y2*(b.d*h)*u)
 e2:t.b*h=x1*(b.b*h)+x2*b.a - (y1*(b.d*h)+y2*b.c)
 e3:t.c=x1*b.c+x2*(b.d*h)*u+(y1*b.a+y2*(b.b*h)*u)
 e4:t.d*h=x1*(b.d*h)+x2*b.c+(y1*(b.b*h)+y2*b.a)
def vT (v:V4) (p q:Rat):V4:=⟨p*v.a - q*v.c,p*v.b - q*v.d,q*v.a+p*v.c,q*v.b+p*v.d⟩
def vP (v w:V4):V4:=⟨v.a+w.a,v.b+w.b,v.c+w.c,v.d+w.d⟩
def vM (v w:V4):V4:=⟨v.a - w.a,v.b - w.b,v.c - w.c,v.d - w.d⟩
def vC (v:V4):V4:=⟨v.a,v.b,-v.c,-v.d⟩
def Nz (h:Rat) (v:V4):Prop:=¬ (v.a=0/\v.b*h=0/\v.c=0/\v.d*h=0)
theorem Rp.conj {u h x1 x2 y1 y2:Rat} {t b:V4} (r:Rp u h x1 x2 y1 y2 t b):Rp u h x1 x2 (-y1) (-y2) (vC t) (vC b):=by
 obtain⟨e1,e2,e3,e4⟩:=r;exact⟨by simp only [vC]; grind,by simp only [vC]; grind,by simp only [vC]; grind,by simp only [vC]; grind⟩
theorem Rp.move {u h x1 x2 y1 y2 p q r s m:Rat} {t b:V4} (R:Rp u h x1 x2 y1 y2 t b):Rp u h (p*x1 - q*y1+r) (p*x2 - q*y2) (q*x1+p*y1+s) (q*x2+p*y2) (vP (vT t (p*m) (q*m)) (vT b (r*m) (s*m))) (vT b m 0):=by
 obtain⟨e1,e2,e3,e4⟩:=R;refine⟨?_,?_,?_,?_⟩
 ·simp only [vP,vT]; rw [e1,e3]; grind
 ·simp only [vP,vT]; grind
 ·simp only [vP,vT]; rw [e1,e3]; grind
 ·simp only [vP,vT]; grind
theorem Rp.from {u h x1 x2 y1 y2 p q m:Rat} {t b:V4} (R:Rp u h x1 x2 y1 y2 t b):Rp u h (m*(x1 - p)) (m*x2) (m*(y1 - q)) (m*y2) (vM (vT t m 0) (vT b (p*m) (q*m))) b:=by
 obtain⟨e1,e2,e3,e4⟩:=R;refine⟨?_,?_,?_,?_⟩
 ·simp only [vM,vT]; rw [e1]; grind
 ·simp only [vM,vT]; grind
 ·simp only [vM,vT]; rw [e3]; grind
 ·simp only [vM,vT]; grind
def xo (w:Rat) (b:V4):Rat:=(b.a*b.a+b.b*b.b*w)+(b.c*b.c+b.d*b.d*w)
def sq1 (b:V4):Rat:=(b.a*b.b+b.b*b.a)+(b.c*b.d+b.d*b.c)
def E_ (w:Rat) (b:V4):Rat:=xo w b*xo w b - sq1 b*sq1 b*w
def IQ (w:Rat) (t b:V4):Rat:=(t.a*b.a+t.b*b.b*w)+(t.c*b.c+t.d*b.d*w)
def IV (t b:V4):Rat:=(t.a*b.b+t.b*b.a)+(t.c*b.d+t.d*b.c)
def Iu (w:Rat) (t b:V4):Rat:=(t.a*-b.c+t.b*-b.d*w)+(t.c*b.a+t.d*b.b*w)
def IM (t b:V4):Rat:=(t.a*-b.d+t.b*-b.c)+(t.c*b.b+t.d*b.a)
theorem Rp.px {u h x1 x2 y1 y2:Rat} {t b:V4} (R:Rp u h x1 x2 y1 y2 t b):IQ (h*h*u) t b=x1*xo (h*h*u) b+x2*(sq1 b*h)*u/\IV t b*h=x1*(sq1 b*h)+x2*xo (h*h*u) b:=by
 obtain⟨e1,e2,e3,e4⟩:=R;refine⟨?_,?_⟩
 ·rw [show IQ (h*h*u) t b=(t.a*b.a+(t.b*h)*(b.b*h)*u)+(t.c*b.c+(t.d*h)*(b.d*h)*u) by unfold IQ; grind,e1,e2,e3,e4]
  unfold xo sq1; grind
 ·rw [show IV t b*h=(t.a*(b.b*h)+(t.b*h)*b.a)+(t.c*(b.d*h)+(t.d*h)*b.c) by unfold IV; grind,e1,e2,e3,e4]
  unfold xo sq1; grind
theorem Rp.py {u h x1 x2 y1 y2:Rat} {t b:V4} (R:Rp u h x1 x2 y1 y2 t b):Iu (h*h*u) t b=y1*xo (h*h*u) b+y2*(sq1 b*h)*u/\IM t b*h=y1*(sq1 b*h)+y2*xo (h*h*u) b:=by
 obtain⟨e1,e2,e3,e4⟩:=R;refine⟨?_,?_⟩
 ·rw [show Iu (h*h*u) t b=(t.a*-b.c+(t.b*h)*-(b.d*h)*u)+(t.c*b.a+(t.d*h)*(b.b*h)*u) by unfold Iu; grind,e1,e2,e3,e4]
  unfold xo sq1; grind
 ·rw [show IM t b*h=(t.a*-(b.d*h)+(t.b*h)*-b.c)+(t.c*(b.b*h)+(t.d*h)*b.a) by unfold IM; grind,e1,e2,e3,e4]
  unfold xo sq1; grind
theorem Ar {u h x1 x2 p0 p1 s0 s1:Rat} (e0:p0=x1*s0+x2*(s1*h)*u) (e1:p1*h=x1*(s1*h)+x2*s0):
  p0*s0+p1*-s1*(h*h*u)=x1*(s0*s0 - s1*s1*(h*h*u))/\(p0*-s1+p1*s0)*h=x2*(s0*s0 - s1*s1*(h*h*u)):=by
 refine⟨?_,?_⟩
 ·rw [show p0*s0+p1*-s1*(h*h*u)=p0*s0 - (p1*h)*(s1*h)*u by grind,e1,e0]; grind
 ·rw [show (p0*-s1+p1*s0)*h=(p1*h)*s0 - p0*(s1*h) by grind,e1,e0]; grind
theorem Hi {x:Rat} (h:x*x=0):x=0:=by
 rcases Qf.mp h with z | z <;> exact z
theorem yE {u h:Rat} {b:V4} (u0:0 < u) (hu:lf u) (n:Nz h b):E_ (h*h*u) b≠0:=by
 have e:E_ (h*h*u) b=xo (h*h*u) b*xo (h*h*u) b - (sq1 b*h)*(sq1 b*h)*u:=by unfold E_; grind
 rw [e];refine GZ hu λ⟨z,_⟩=>n ?_
 have z:b.a*b.a+(b.b*h)*(b.b*h)*u+(b.c*b.c+(b.d*h)*(b.d*h)*u)=0:=by rw [<- z]; unfold xo; grind
 have n1:=cP b.a;have n2:=Qo (cP (b.b*h)) (Rat.le_of_lt u0);have n3:=cP b.c;have n4:=Qo (cP (b.d*h)) (Rat.le_of_lt u0);have z1:b.a*b.a=0:=by grind
 have z2:(b.b*h)*(b.b*h)*u=0:=by grind
 have z3:b.c*b.c=0:=by grind
 have z4:(b.d*h)*(b.d*h)*u=0:=by grind
 have un:u≠0:=by grind
 exact⟨Hi z1,Hi ((Qf.mp z2).resolve_right un),Hi z3,Hi ((Qf.mp z4).resolve_right un)⟩
theorem Rp.zero {u h x1 x2 y1 y2:Rat} {t b:V4} (R:Rp u h x1 x2 y1 y2 t b) (u0:0 < u) (hu:lf u) (n:Nz h b) (z:¬ Nz h t):x1=0/\x2=0/\y1=0/\y2=0:=by
 have z:t.a=0/\t.b*h=0/\t.c=0/\t.d*h=0:=Classical.not_not.mp z;obtain⟨z1,z2,z3,z4⟩:=z;have ne:=yE u0 hu n;have e1:IQ (h*h*u) t b=0:=by rw [show IQ (h*h*u) t b=(t.a*b.a+(t.b*h)*(b.b*h)*u)+(t.c*b.c+(t.d*h)*(b.d*h)*u) by unfold IQ; grind,z1,z2,z3,z4]; grind
 have e2:IV t b*h=0:=by rw [show IV t b*h=(t.a*(b.b*h)+(t.b*h)*b.a)+(t.c*(b.d*h)+(t.d*h)*b.c) by unfold IV; grind,z1,z2,z3,z4]; grind
 have e3:Iu (h*h*u) t b=0:=by rw [show Iu (h*h*u) t b=(t.a*-b.c+(t.b*h)*-(b.d*h)*u)+(t.c*b.a+(t.d*h)*(b.b*h)*u) by unfold Iu; grind,z1,z2,z3,z4]; grind
 have e4:IM t b*h=0:=by rw [show IM t b*h=(t.a*-(b.d*h)+(t.b*h)*-b.c)+(t.c*(b.b*h)+(t.d*h)*b.a) by unfold IM; grind,z1,z2,z3,z4]; grind
 obtain⟨a1,a2⟩:=Ar R.px.1 R.px.2;obtain⟨a3,a4⟩:=Ar R.py.1 R.py.2;have f:∀ {x N:Rat},N≠0->0=x*N->x=0:=λhN e=>(Qf.mp e.symm).resolve_right hN
 refine⟨f ne ?_,f ne ?_,f ne ?_,f ne ?_⟩
 ·unfold E_; rw [<- a1,e1]; grind
 ·unfold E_; rw [<- a2,e1]; grind
 ·unfold E_; rw [<- a3,e3]; grind
 ·unfold E_; rw [<- a4,e3]; grind
theorem Rp.inv {u h g1 g2 k1 k2 d1 d2 f1 f2 m:Rat} {W b:V4} (R:Rp u h (m*d1) (m*d2) (m*f1) (m*f2) W b) (G1:g1*d1+g2*d2*u+(k1*f1+k2*f2*u)=1) (G2:g1*d2+g2*d1+(k1*f2+k2*f1)=0)
  (G3:k1*d1+k2*d2*u=g1*f1+g2*f2*u) (G4:k1*d2+k2*d1=g1*f2+g2*f1):Rp u h g1 g2 k1 k2 (vT (vC b) m 0) (vC W):=by
 obtain⟨e1,e2,e3,e4⟩:=R;refine⟨?_,?_,?_,?_⟩
 ·simp only [vT,vC];rw [show g1*W.a+g2*(W.b*h)*u - (k1*-W.c+k2*(-W.d*h)*u)=g1*W.a+g2*(W.b*h)*u+(k1*W.c+k2*(W.d*h)*u) by grind,e1,e2,e3,e4]
  grind
 ·simp only [vT,vC];rw [show g1*(W.b*h)+g2*W.a - (k1*(-W.d*h)+k2*-W.c)=g1*(W.b*h)+g2*W.a+(k1*(W.d*h)+k2*W.c) by grind,e1,e2,e3,e4]
  grind
 ·simp only [vT,vC];rw [show g1*-W.c+g2*(-W.d*h)*u+(k1*W.a+k2*(W.b*h)*u)=-(g1*W.c+g2*(W.d*h)*u)+(k1*W.a+k2*(W.b*h)*u) by grind,e1,e2,e3,e4]
  grind
 ·simp only [vT,vC];rw [show g1*(-W.d*h)+g2*-W.c+(k1*(W.b*h)+k2*W.a)=-(g1*(W.d*h)+g2*W.c)+(k1*(W.b*h)+k2*W.a) by grind,e1,e2,e3,e4]
  grind
inductive Ld where
 | shift (x y:Rat)
 | grow (x y b:Rat)
 | turn (x y p q:Rat)
 | mirror (a b c:Rat)
 | invert (x y p:Rat)
abbrev Z4:=Q×Q
def qN (u:Rat) (x:Q):Rat:=x.1*x.1 - u*(x.2*x.2)
def qI (u:Rat) (x:Q):Q:=(x.1*(1 / qN u x),x.2*-1*(1 / qN u x))
def fe (z:Z4) (x y:Rat):Z4:=(qs z.1 (qo x),qs z.2 (qo y))
def ll (u:Rat) (w:Z4):Q:=qa (qm u w.1 w.1) (qm u w.2 w.2)
noncomputable def Av (u:Rat):Ld->Z4->Option Z4
 | .shift x y,z=>some (qa z.1 (qo x),qa z.2 (qo y))
 | .mirror a b c,z=>
  let v:=qa (qa (qm u (qo a) z.1) (qm u (qo b) z.2)) (qo c)
  let t:=qm u v (qo (-2 / (a*a+b*b)))
  some (qa z.1 (qm u t (qo a)),qa z.2 (qm u t (qo b)))
 | .grow x y b,z=>some (qa (qo x) (qm u (fe z x y).1 (qo b)),qa (qo y) (qm u (fe z x y).2 (qo b)))
 | .turn x y p q,z=>some (qa (qo x) (qs (qm u (fe z x y).1 (qo p)) (qm u (fe z x y).2 (qo q))),qa (qo y) (qa (qm u (fe z x y).2 (qo p)) (qm u (fe z x y).1 (qo q))))
 | .invert x y p,z=>if qN u (ll u (fe z x y))=0 then none else
  let t:=qm u (qo p) (qI u (ll u (fe z x y)))
  some (qa (qo x) (qm u (fe z x y).1 t),qa (qo y) (qm u (fe z x y).2 t))
structure Fl where
 p:Rat
 q:Rat
 r:Rat
 s:Rat
 m:Bool
noncomputable def vj:Ld->Fl
 | .shift x y=>⟨1,0,x,y,false⟩
 | .mirror a b c=>⟨0+(a*a - b*b)*(-1 / (a*a+b*b)),0+(b*a+a*b)*(-1 / (a*a+b*b)),0+a*(-2*c / (a*a+b*b)),0+b*(-2*c / (a*a+b*b)),true⟩
 | .grow x y b=>⟨b,0,x - (b*x - 0*y),y - (0*x+b*y),false⟩
 | .turn x y p q=>⟨p,q,x - (p*x - q*y),y - (q*x+p*y),false⟩
 | .invert _ _ _=>⟨0,0,0,0,false⟩
def uY:Ld->Bool
 | .invert _ _ _=>true
 | _=>false
def tU:Ld->Prop
 | .turn _ _ p q=>p*p+q*q=1
 | .mirror a b _=>a*a+b*b≠0
 | .grow _ _ b=>b≠0
 | .invert _ _ p=>p≠0
 | _=>True
abbrev Rz (u h:Rat) (z:Z4) (t b:V4):Prop:=Rp u h z.1.1 z.1.2 z.2.1 z.2.2 t b
def A9 (z:Z4) (m:Bool):Z4:=if m then(z.1,(-z.2.1,-z.2.2)) else z
def IH (f:Fl) (z:Z4):Z4:=((f.p*(A9 z f.m).1.1 - f.q*(A9 z f.m).2.1+f.r,f.p*(A9 z f.m).1.2 - f.q*(A9 z f.m).2.2),(f.q*(A9 z f.m).1.1+f.p*(A9 z f.m).2.1+f.s,f.q*(A9 z f.m).1.2+f.p*(A9 z f.m).2.2))
theorem Fw {u:Rat} {l:Ld} {z:Z4} (ok:tU l) (hl:uY l=false):Av u l z=some (IH (vj l) z):=by
 obtain⟨⟨x1,x2⟩,⟨y1,y2⟩⟩:=z;cases l with
 | shift x y=>
  simp only [Av,IH,vj,A9,qa,qo,Rb,if_false]
  congr 2 <;> (congr 1 <;> grind)
 | grow x y b=>
  simp only [Av,IH,vj,A9,qa,qs,qm,qo,fe,Rb,if_false]
  congr 2 <;> (congr 1 <;> grind)
 | turn x y p q=>
  simp only [Av,IH,vj,A9,qa,qs,qm,qo,fe,Rb,if_false]
  congr 2 <;> (congr 1 <;> grind)
 | mirror a b c=>
  have n:a*a+b*b≠0:=ok;simp only [Av,IH,vj,A9,qa,qs,qm,qo,fe,if_true];generalize hk:a*a+b*b=k at n;have ka:a*a=k - b*b:=by grind
  congr 2 <;> (congr 1)
  ·have:x1+((a*x1+0*x2*u+(b*y1+0*y2*u)+c)*(-2 / k)+(a*x2+0*x1+(b*y2+0*y1)+0)*0*u)*a+((a*x1+0*x2*u+(b*y1+0*y2*u)+c)*0+(a*x2+0*x1+(b*y2+0*y1)+0)*(-2 / k))*0*u=(x1*k - 2*(a*x1+b*y1+c)*a) / k:=by grind
   grind
  ·grind
  ·grind
  ·grind
 | invert x y p=>cases hl
def IE (v:V4) (m:Bool):V4:=if m then vC v else v
theorem Rz.cj {u h:Rat} {z:Z4} {t b:V4} (R:Rz u h z t b) (m:Bool):Rz u h (A9 z m) (IE t m) (IE b m):=by
 cases m with
 | false=>exact R
 | true=>exact R.conj
theorem Rz.move {u h k:Rat} {z:Z4} {t b:V4} {f:Fl} (R:Rz u h z t b):Rz u h (IH f z) (vP (vT (IE t f.m) (f.p*k) (f.q*k)) (vT (IE b f.m) (f.r*k) (f.s*k))) (vT (IE b f.m) k 0):=Rp.move (Rz.cj R f.m)
theorem Nz.cj {h:Rat} {b:V4} (n:Nz h b) (m:Bool):Nz h (IE b m):=by
 cases m with
 | false=>exact n
 | true=>
  rintro⟨z1,z2,z3,z4⟩;simp only [IE,vC,if_true] at z1 z2 z3 z4
  exact n ⟨z1,z2,by grind,by grind⟩
theorem Nz.times {h k:Rat} {b:V4} (n:Nz h b) (hk:k≠0):Nz h (vT b k 0):=by
 rintro⟨z1,z2,z3,z4⟩;simp only [vT] at z1 z2 z3 z4
 have f:∀ {x:Rat},k*x=0->x=0:=λe=>(Qf.mp e).resolve_left hk
 exact n ⟨f (by grind),f (by grind),f (by grind),f (by grind)⟩
theorem ya {u:Rat} {w:Z4} (u0:0 < u) (hu:lf u):qN u (ll u w)=0↔w.1.1=0/\w.1.2=0/\w.2.1=0/\w.2.2=0:=by
 obtain⟨⟨a,b⟩,⟨c,d⟩⟩:=w
 constructor
 ·intro e;have n:=yE (h:=1) (b:=⟨a,b,c,d⟩) u0 hu;have q:E_ (1*1*u) ⟨a,b,c,d⟩=qN u (ll u ((a,b),(c,d))):=by
   simp only [E_,xo,sq1,qN,ll,qa,qm]; grind
  rw [q,e] at n;have:=Classical.not_not.mp λz=>n z rfl
  simp only at this ⊢;exact⟨this.1,by grind,this.2.2.1,by grind⟩
 ·rintro⟨rfl,rfl,rfl,rfl⟩;simp only [qN,ll,qa,qm]; grind
theorem yt {u h m x y:Rat} {z:Z4} {t b:V4} (R:Rz u h z t b) (u0:0 < u) (hu:lf u) (n:Nz h b) (hm:m≠0):Nz h (vM (vT t m 0) (vT b (x*m) (y*m)))↔qN u (ll u (fe z x y))≠0:=by
 have R':=Rp.from (p:=x) (q:=y) (m:=m) R;obtain⟨⟨x1,x2⟩,⟨y1,y2⟩⟩:=z
 constructor
 ·intro nz e;obtain⟨a,b,c,d⟩:=(ya u0 hu).mp e;simp only [fe,qs,qo] at a b c d
  refine nz ?_;obtain⟨e1,e2,e3,e4⟩:=R';simp only at e1 e2 e3 e4
  have b':x2=0:=by grind
  have d':y2=0:=by grind
  rw [e1,e2,e3,e4,a,c,b',d'];refine⟨?_,?_,?_,?_⟩ <;> grind
 ·intro ne z;refine ne ((ya u0 hu).mpr ?_);obtain⟨a,b,c,d⟩:=R'.zero u0 hu n (λq=>q z)
  have f:∀ {x:Rat},m*x=0->x=0:=λe=>(Qf.mp e).resolve_left hm
  simp only [fe,qs,qo] at a b c d ⊢
  have b':=f b;have d':=f d;exact⟨f a,by grind,f c,by grind⟩
theorem GE {u:Rat} {s:Q} (h:qN u s≠0):s.1*(qI u s).1+s.2*(qI u s).2*u=1/\s.1*(qI u s).2+s.2*(qI u s).1=0:=by
 simp only [qI];have e:s.1*s.1=qN u s+u*(s.2*s.2):=by unfold qN; grind
 generalize qN u s=n at h e ⊢
 refine⟨?_,?_⟩
 ·rw [show s.1*(s.1*(1 / n))=(s.1*s.1)*(1 / n) by grind,e]; grind
 ·grind
theorem Rz.invert {u h m x y p p0 p1:Rat} {z z':Z4} {t b:V4} (R:Rz u h z t b) (ne:qN u (ll u (fe z x y))≠0) (hp:p0=p*p1) (hz:Av u (.invert x y p) z=some z'):
  Rz u h z' (vP (vT (vC (vM (vT t m 0) (vT b (x*m) (y*m)))) (p1*(x*m)) (p1*(y*m))) (vT (vC b) (p0*m*m) 0)) (vT (vC (vM (vT t m 0) (vT b (x*m) (y*m)))) (p1*m) 0):=by
 have R':=Rp.from (p:=x) (q:=y) (m:=m) R;obtain⟨⟨x1,x2⟩,⟨y1,y2⟩⟩:=z;simp only [Av] at hz;rw [if_neg ne] at hz;obtain⟨i1,i2⟩:=GE ne;simp only at R';generalize vM (vT t m 0) (vT b (x*m) (y*m))=W at R' ⊢;generalize qI u (ll u (fe ((x1,x2),(y1,y2)) x y))=i at i1 i2 hz
 have e:=Qx hz;subst e;simp only [ll,fe,qa,qm,qs,qo] at i1 i2
 have key:=Rp.inv (g1:=(x1 - x)*i.1+x2*i.2*u) (g2:=(x1 - x)*i.2+x2*i.1) (k1:=(y1 - y)*i.1+y2*i.2*u) (k2:=(y1 - y)*i.2+y2*i.1) R' (by grind) (by grind) (by grind) (by grind)
 have mv:=Rp.move (p:=p) (q:=0) (r:=x) (s:=y) (m:=p1*m) key;have c1:vP (vT (vT (vC b) m 0) (p*(p1*m)) (0*(p1*m))) (vT (vC W) (x*(p1*m)) (y*(p1*m)))=vP (vT (vC W) (p1*(x*m)) (p1*(y*m))) (vT (vC b) (p0*m*m) 0):=by
  subst hp;simp only [vP,vT,vC]
  congr 1 <;> grind
 rw [c1] at mv;simp only [Rz,fe,qa,qm,qs,qo];have f:∀ {a1 a2 a3 a4 b1 b2 b3 b4:Rat} {T B:V4},Rp u h a1 a2 a3 a4 T B->a1=b1->a2=b2->a3=b3->a4=b4->Rp u h b1 b2 b3 b4 T B:=λr h1 h2 h3 h4=>by subst h1; subst h2; subst h3; subst h4; exact r
 refine f mv ?_ ?_ ?_ ?_ <;> grind
structure I4 where
 a:Int
 b:Int
 c:Int
 d:Int
def I4.v (i:I4):V4:=⟨i.a,i.b,i.c,i.d⟩
def iT (v:I4) (p q:Int):I4:=⟨p*v.a - q*v.c,p*v.b - q*v.d,q*v.a+p*v.c,q*v.b+p*v.d⟩
def iP (v w:I4):I4:=⟨v.a+w.a,v.b+w.b,v.c+w.c,v.d+w.d⟩
def iM (v w:I4):I4:=⟨v.a - w.a,v.b - w.b,v.c - w.c,v.d - w.d⟩
def iC (v:I4):I4:=⟨v.a,v.b,-v.c,-v.d⟩
def zL (v:I4) (m:Bool):I4:=if m then iC v else v
theorem qJ {v:I4} {p q:Int}:(iT v p q).v=vT v.v p q:=by
 simp only [I4.v,iT,vT,QA,P1,Qj]
theorem Mv {v w:I4}:(iP v w).v=vP v.v w.v:=by simp only [I4.v,iP,vP,Qj]
theorem LP {v w:I4}:(iM v w).v=vM v.v w.v:=by simp only [I4.v,iM,vM,QA]
theorem F6 {v:I4}:(iC v).v=vC v.v:=by simp only [I4.v,iC,vC,QG]
theorem CW {v:I4} {m:Bool}:(zL v m).v=IE v.v m:=by
 cases m with
 | false=>rfl
 | true=>exact F6
structure B4 (n:Nat) (i:I4):Prop where
 a:Bt n i.a
 b:Bt n i.b
 c:Bt n i.c
 d:Bt n i.d
theorem B4.mono {m n:Nat} {i:I4} (h:B4 m i) (hm:m<=n):B4 n i:=⟨h.a.mono hm,h.b.mono hm,h.c.mono hm,h.d.mono hm⟩
theorem B4.times {m n:Nat} {i:I4} {p q:Int} (h:B4 n i) (hp:Bt m p) (hq:Bt m q):B4 (n+m+1) (iT i p q):=
 ⟨((hp.mul h.a).sub (hq.mul h.c)).mono (by omega),((hp.mul h.b).sub (hq.mul h.d)).mono (by omega),((hq.mul h.a).add (hp.mul h.c)).mono (by omega),((hq.mul h.b).add (hp.mul h.d)).mono (by omega)⟩
theorem B4.plus {n:Nat} {i j:I4} (h:B4 n i) (h':B4 n j):B4 (n+1) (iP i j):=⟨(h.a.add h'.a).mono (by omega),(h.b.add h'.b).mono (by omega),(h.c.add h'.c).mono (by omega),(h.d.add h'.d).mono (by omega)⟩
theorem B4.minus {n:Nat} {i j:I4} (h:B4 n i) (h':B4 n j):B4 (n+1) (iM i j):=⟨(h.a.sub h'.a).mono (by omega),(h.b.sub h'.b).mono (by omega),(h.c.sub h'.c).mono (by omega),(h.d.sub h'.d).mono (by omega)⟩
theorem B4.conj {n:Nat} {i:I4} (h:B4 n i):B4 n (iC i):=⟨h.a,h.b,h.c.neg,h.d.neg⟩
theorem B4.cj {n:Nat} {i:I4} (h:B4 n i) (m:Bool):B4 n (zL i m):=by
 cases m with
 | false=>exact h
 | true=>exact h.conj
def tS (h:Rat) (i:I4):Prop:=h=0->i.b=0/\i.d=0
theorem tS.times {h:Rat} {i:I4} {p q:Int} (e:tS h i):tS h (iT i p q):=λz=>by
 obtain⟨e1,e2⟩:=e z;simp only [iT]; rw [e1,e2]; simp
theorem tS.plus {h:Rat} {i j:I4} (e:tS h i) (f:tS h j):tS h (iP i j):=λz=>by
 obtain⟨e1,e2⟩:=e z; obtain⟨f1,f2⟩:=f z
 simp only [iP]; rw [e1,e2,f1,f2]; simp
theorem tS.minus {h:Rat} {i j:I4} (e:tS h i) (f:tS h j):tS h (iM i j):=λz=>by
 obtain⟨e1,e2⟩:=e z; obtain⟨f1,f2⟩:=f z
 simp only [iM]; rw [e1,e2,f1,f2]; simp
theorem tS.conj {h:Rat} {i:I4} (e:tS h i):tS h (iC i):=λz=>by
 obtain⟨e1,e2⟩:=e z;simp only [iC]; rw [e1,e2]; simp
theorem tS.cj {h:Rat} {i:I4} (e:tS h i) (m:Bool):tS h (zL i m):=by
 cases m with
 | false=>exact e
 | true=>exact e.conj
theorem KH {h:Rat} {i:I4} (e:tS h i):Nz h i.v↔¬ (i.a=0/\i.b=0/\i.c=0/\i.d=0):=by
 have c:∀ {n:Int},(n:Rat)=0↔n=0:=λ{n}=>by
  constructor
  ·intro z; exact_mod_cast z
  ·intro z; rw [z]; rfl
 unfold Nz;refine not_congr ⟨?_,?_⟩
 ·rintro⟨z1,z2,z3,z4⟩;simp only [I4.v] at z1 z2 z3 z4
  refine⟨c.mp z1,?_,c.mp z3,?_⟩
  ·rcases Qf.mp z2 with q | q
   ·exact c.mp q
   ·exact(e q).1
  ·rcases Qf.mp z4 with q | q
   ·exact c.mp q
   ·exact(e q).2
 ·rintro⟨z1,z2,z3,z4⟩;simp only [I4.v];rw [z1,z2,z3,z4];exact⟨rfl,Rat.zero_mul _,rfl,Rat.zero_mul _⟩
theorem Jc {a b:Int} (ha:0 < a) (hb:0 < b):a.fdiv ((Int.gcd a b:Nat):Int)*b=((Int.lcm a b:Nat):Int):=by
 have g0:0 < ((Int.gcd a b:Nat):Int):=by
  have:=Int.gcd_pos_of_ne_zero_left (a:=a) b (by omega)
  omega
 rw [oP _ g0];have h1:((Int.gcd a b:Nat):Int)*((Int.lcm a b:Nat):Int)=a*b:=by
  have:=Int.gcd_mul_lcm a b;have e:((Int.gcd a b*Int.lcm a b:Nat):Int)=(((a*b).natAbs:Nat):Int):=by rw [this,Q1]
  rw [Int.natCast_mul] at e;rw [e];have:=Int.mul_pos ha hb;omega
 have h2:((Int.gcd a b:Nat):Int) ∣ a:=Int.gcd_dvd_left ..;have h3:((Int.gcd a b:Nat):Int)*(a / ((Int.gcd a b:Nat):Int))=a:=Int.mul_ediv_cancel' h2;have h4:((Int.gcd a b:Nat):Int)*(a / ((Int.gcd a b:Nat):Int)*b)=((Int.gcd a b:Nat):Int)*((Int.lcm a b:Nat):Int):=by
  rw [h1,<- Int.mul_assoc,h3]
 exact Int.eq_of_mul_eq_mul_left (by omega) h4
theorem lcm_pos {a b:Int} (ha:0 < a) (hb:0 < b):0 < ((Int.lcm a b:Nat):Int):=by
 have:=Int.lcm_pos (m:=a) (n:=b) (by omega) (by omega)
 omega
theorem wn {m n:Nat} {a b:Int} (ha:Bt m a) (hb:Bt n b) (pa:0 < a) (pb:0 < b):Bt (m+n) ((Int.lcm a b:Nat):Int):=by
 rw [<- Jc pa pb];exact Bt.mul (ha.le (HM.aH _ _)) hb
def dN (m:Int):List Rat->Int
 | []=>m
 | q::qs=>dN ((Int.lcm m (q.den:Int):Nat):Int) qs
theorem cH (q:Rat):0 < (q.den:Int):=by have:=q.den_pos; omega
theorem sC:∀ {qs:List Rat} {m:Int},0 < m->0 < dN m qs
 | [],_,h=>h
 | q::qs,_,h=>sC (qs:=qs) (lcm_pos h (cH q))
theorem si:∀ {qs:List Rat} {m:Int},m ∣ dN m qs/\∀ q∈qs,(q.den:Int) ∣ dN m qs
 | [],m=>⟨Int.dvd_refl _,λ_ h=>nomatch h⟩
 | p::qs,m=>by
  obtain⟨h1,h2⟩:=si (qs:=qs) (m:=((Int.lcm m (p.den:Int):Nat):Int));refine⟨Int.dvd_trans (Int.dvd_lcm_left ..) h1,λq hq=>?_⟩
  rcases P8.mp hq with rfl | hq
  ·exact Int.dvd_trans (Int.dvd_lcm_right ..) h1
  ·exact h2 q hq
theorem nU:∀ {qs:List Rat} {m k:Int},m ∣ k->(∀ q∈qs,(q.den:Int) ∣ k)->dN m qs ∣ k
 | [],_,_,h,_=>h
 | p::qs,m,k,h,hq=>nU (qs:=qs) (Int.coe_lcm_dvd h (hq p P_)) λq h=>hq q (Qa _ h)
theorem nh {q:Rat} {k P:Int} (e:q*k=P):(q.den:Int) ∣ k:=by
 have h1:(q.num:Rat)=q*(q.den:Rat):=jr q;have h2:((q.num*k:Int):Rat)=((P*(q.den:Int):Int):Rat):=by
  rw [P1,P1,h1,<- e]
  show q*(q.den:Rat)*(k:Rat)=q*(k:Rat)*((q.den:Int):Rat)
  rw [show (((q.den:Nat):Int):Rat)=(q.den:Rat) from rfl]
  grind
 have h3:q.num*k=P*(q.den:Int):=by exact_mod_cast h2
 have h4:(q.den:Int) ∣ q.num*k:=⟨P,by rw [h3,Int.mul_comm]⟩
 have h5:q.den ∣ q.num.natAbs*k.natAbs:=by
  rw [<- Q1];exact Int.ofNat_dvd_left.mp h4
 exact Int.ofNat_dvd_left.mpr (Nat.Coprime.dvd_of_dvd_mul_left q.reduced.symm h5)
def pD (q:Rat) (m:Int):Int:=q.num*m.fdiv (q.den:Int)
theorem mI {q:Rat} {m:Int} (h:(q.den:Int) ∣ m):(pD q m:Rat)=q*(m:Rat):=by
 obtain⟨j,rfl⟩:=h;unfold pD;rw [oP _ (cH q),Int.mul_ediv_cancel_left _ (gu q),P1,P1,jr q]
 show q*(q.den:Rat)*(j:Rat)=q*((((q.den:Nat):Int):Rat)*(j:Rat))
 rw [show (((q.den:Nat):Int):Rat)=(q.den:Rat) from rfl]
 grind
theorem pR {n:Nat} {q:Rat} {m k P:Int} (e:q*k=P) (h:(q.den:Int) ∣ m) (hm:m ∣ k) (k0:k≠0) (hP:Bt n P):Bt n (pD q m):=by
 refine hP.le ?_;have e1:=mI h;have e2:pD q m*k=P*m:=by
  have:((pD q m*k:Int):Rat)=((P*m:Int):Rat):=by
   rw [P1,P1,e1,<- e]; grind
  exact_mod_cast this
 have e3:(pD q m).natAbs*k.natAbs=P.natAbs*m.natAbs:=by rw [<- Q1,<- Q1,e2]
 have h4:m.natAbs<=k.natAbs:=Nat.le_of_dvd (by omega) (QU.mpr hm)
 have h5:=Nat.mul_le_mul_left P.natAbs h4;rw [<- e3] at h5;exact Nat.le_of_mul_le_mul_right h5 (by omega)
theorem nd (q:Rat):((q.num:Int):Rat)=q*(((q.den:Nat):Int):Rat):=jr q
theorem dn (q:Rat):(((q.den:Nat):Int):Rat)≠0:=tF q
def s9:Ld->Prop
 | .shift x y=>Sz 24 x/\Sz 24 y
 | .grow x y b=>Sz 24 x/\Sz 24 y/\Sz 24 b
 | .turn x y p q=>Sz 24 x/\Sz 24 y/\∃ P Q E:Int,E≠0/\Bt 40 P/\Bt 40 Q/\Bt 40 E/\p*E=P/\q*E=Q
 | .mirror a b c=>Sz 24 a/\Sz 24 b/\Sz 24 c
 | .invert x y p=>Sz 24 x/\Sz 24 y/\Sz 26 p
structure BJ (f:Fl) (k P Q R S:Int):Prop where
 k0:k≠0
 bk:Bt 136 k
 bP:Bt 136 P
 bQ:Bt 136 Q
 bR:Bt 136 R
 bS:Bt 136 S
 p:f.p*k=P
 q:f.q*k=Q
 r:f.r*k=R
 s:f.s*k=S
theorem rL {x y p q:Rat} {P Q E:Int} (hx:Sz 24 x) (hy:Sz 24 y) (e0:E≠0) (bP:Bt 40 P) (bQ:Bt 40 Q) (bE:Bt 40 E) (hp:p*E=P) (hq:q*E=Q):
  BJ ⟨p,q,x - (p*x - q*y),y - (q*x+p*y),false⟩ (E*((x.den:Int)*(y.den:Int))) (P*((x.den:Int)*(y.den:Int))) (Q*((x.den:Int)*(y.den:Int)))
   (x.num*E*(y.den:Int) - (P*x.num*(y.den:Int) - Q*y.num*(x.den:Int))) (y.num*E*(x.den:Int) - (Q*x.num*(y.den:Int)+P*y.num*(x.den:Int))) where
 k0:=Int.mul_ne_zero e0 (bG x y)
 bk:=(bE.mul (hx.den.mul hy.den)).mono (by decide)
 bP:=(bP.mul (hx.den.mul hy.den)).mono (by decide)
 bQ:=(bQ.mul (hx.den.mul hy.den)).mono (by decide)
 bR:=(((hx.num.mul bE).mul hy.den).sub (((bP.mul hx.num).mul hy.den).sub ((bQ.mul hy.num).mul hx.den))).mono (by decide)
 bS:=(((hy.num.mul bE).mul hx.den).sub (((bQ.mul hx.num).mul hy.den).add ((bP.mul hy.num).mul hx.den))).mono (by decide)
 p:=by simp only [P1,QA,Qj]; rw [<- hp]; grind
 q:=by simp only [P1,QA,Qj]; rw [<- hq]; grind
 r:=by simp only [P1,QA,Qj]; rw [<- hp,<- hq,nd x,nd y]; grind
 s:=by simp only [P1,QA,Qj]; rw [<- hp,<- hq,nd x,nd y]; grind
theorem zW {a b c:Rat} (ha:Sz 24 a) (hb:Sz 24 b) (hc:Sz 24 c) (n:a*a+b*b≠0):∃ k P Q R S,BJ (vj (.mirror a b c)) k P Q R S:=by
 have dA:=dn a;have dB:=dn b;have dC:=dn c;have bA:Bt 48 (a.num*(b.den:Int)):=ha.num.mul hb.den;have bB:Bt 48 (b.num*(a.den:Int)):=hb.num.mul ha.den;have eA:((a.num*(b.den:Int):Int):Rat)=a*(((a.den:Int):Rat)*((b.den:Int):Rat)):=by rw [P1,nd a]; grind
 have eB:((b.num*(a.den:Int):Int):Rat)=b*(((a.den:Int):Rat)*((b.den:Int):Rat)):=by rw [P1,nd b]; grind
 generalize a.num*(b.den:Int)=A at bA eA
 generalize b.num*(a.den:Int)=B at bB eB
 have eC:=nd c;have dd:(((a.den:Int)*(b.den:Int):Int):Rat)=((a.den:Int):Rat)*((b.den:Int):Rat):=by rw [P1]
 have bd:Bt 48 ((a.den:Int)*(b.den:Int)):=ha.den.mul hb.den;have dne:((a.den:Int):Rat)*((b.den:Int):Rat)≠0:=λz=>by rcases Qf.mp z with q | q; exact dA q; exact dB q
 rw [<- dd] at eA eB dne
 generalize (a.den:Int)*(b.den:Int)=d at bd eA eB dne
 have es:((A*A+B*B:Int):Rat)=(a*a+b*b)*((d:Rat)*(d:Rat)):=by
  rw [Qj,P1,P1,eA,eB]; grind
 have sne:((A*A+B*B:Int):Rat)≠0:=λz=>by
  rw [es] at z;rcases Qf.mp z with q | q
  ·exact n q
  ·rcases Qf.mp q with q | q <;> exact dne q
 have s0:A*A+B*B≠0:=λz=>sne (by rw [z]; rfl)
 refine⟨(A*A+B*B)*(c.den:Int),-(A*A - B*B)*(c.den:Int),-(B*A+A*B)*(c.den:Int),-(A*d*c.num+A*d*c.num),-(B*d*c.num+B*d*c.num),⟨Int.mul_ne_zero s0 (gu c),?_,?_,?_,?_,?_,?_,?_,?_,?_⟩⟩
 ·exact(((bA.mul bA).add (bB.mul bB)).mul hc.den).mono (by decide)
 ·exact(((bA.mul bA).sub (bB.mul bB)).neg.mul hc.den).mono (by decide)
 ·exact(((bB.mul bA).add (bA.mul bB)).neg.mul hc.den).mono (by decide)
 ·exact((((bA.mul bd).mul hc.num).add ((bA.mul bd).mul hc.num)).neg).mono (by decide)
 ·exact((((bB.mul bd).mul hc.num).add ((bB.mul bd).mul hc.num)).neg).mono (by decide)
 all_goals
  simp only [vj];rw [P1] <;> rw [es]
  simp only [P1,QA,Qj,QG]
  try rw [eA]
  try rw [eB]
  try rw [eC]
  generalize a*a+b*b=k at n;grind
theorem CH:Bt 1 0:=by show(0:Int).natAbs < 2 ^ 1; decide
theorem M9:Bt 1 1:=by show(1:Int).natAbs < 2 ^ 1; decide
theorem Do {l:Ld} (ok:tU l) (sz:s9 l) (hl:uY l=false):∃ k P Q R S,BJ (vj l) k P Q R S:=by
 cases l with
 | shift x y=>
  have h:=rL (p:=1) (q:=0) (P:=1) (Q:=0) (E:=1) sz.1 sz.2 (by decide) (M9.mono (by decide)) (CH.mono (by decide)) (M9.mono (by decide)) (by show(1:Rat)*1=1; grind) (by show(0:Rat)*1=0; grind)
  obtain⟨k0,bk,bP,bQ,_,_,p,q,_,_⟩:=h;simp only at p q
  refine⟨_,_,_,x.num*(y.den:Int),y.num*(x.den:Int),⟨k0,bk,bP,bQ,(sz.1.num.mul sz.2.den).mono (by decide),(sz.2.num.mul sz.1.den).mono (by decide),p,q,?_,?_⟩⟩
  ·simp only [vj,P1]; rw [nd x]; show x*(1*_)=_; grind
  ·simp only [vj,P1]; rw [nd y]; show y*(1*_)=_; grind
 | grow x y b=>exact⟨_,_,_,_,_,rL (p:=b) (q:=0) (P:=b.num) (Q:=0) (E:=(b.den:Int)) sz.1 sz.2.1 (gu b) (sz.2.2.num.mono (by decide)) (CH.mono (by decide)) (sz.2.2.den.mono (by decide)) (nd b).symm (by show(0:Rat)*_=0; grind)⟩
 | turn x y p q=>
  obtain⟨hx,hy,P,Q,E,e0,bP,bQ,bE,hp,hq⟩:=sz;exact⟨_,_,_,_,_,rL hx hy e0 bP bQ bE hp hq⟩
 | mirror a b c=>exact zW sz.1 sz.2.1 sz.2.2 ok
 | invert x y p=>cases hl
theorem Cp {u h:Rat} {n:Nat} {z:Z4} {f:Fl} {t b:I4} {k P Q R' S:Int} (F:BJ f k P Q R' S) (bt:B4 n t) (bb:B4 n b) (nz:Nz h b.v) (R:Rz u h z t.v b.v):
  B4 (n+160) (iP (iT (zL t f.m) P Q) (iT (zL b f.m) R' S))/\B4 (n+160) (iT (zL b f.m) k 0)/\Nz h (iT (zL b f.m) k 0).v/\Rz u h (IH f z) (iP (iT (zL t f.m) P Q) (iT (zL b f.m) R' S)).v (iT (zL b f.m) k 0).v:=by
 have k0:(k:Rat)≠0:=λe=>F.k0 (by exact_mod_cast e)
 refine⟨(((bt.cj f.m).times F.bP F.bQ).plus ((bb.cj f.m).times F.bR F.bS)).mono (by omega),((bb.cj f.m).times F.bk (CH.mono (by decide))).mono (by omega),?_,?_⟩
 ·rw [qJ,CW];exact(nz.cj f.m).times k0
 ·have:=Rz.move (f:=f) (k:=(k:Rat)) R;rw [Mv,qJ,qJ,qJ,CW,CW,<- F.p,<- F.q,<- F.r,<- F.s];exact this
def r_ (t b:I4) (m X Y:Int):I4:=iM (iT t m 0) (iT b X Y)
theorem DN {u h x y p:Rat} {n:Nat} {z z':Z4} {t b:I4} {m X Y p0 p1:Int} (u0:0 < u) (hu:lf u) (bt:B4 n t) (bb:B4 n b) (nz:Nz h b.v) (R:Rz u h z t.v b.v) (m0:m≠0) (bm:Bt 48 m) (bX:Bt 48 X) (bY:Bt 48 Y) (b0:Bt 26 p0) (b1:Bt 26 p1)
  (eX:x*m=X) (eY:y*m=Y) (p10:p1≠0) (ep:(p0:Rat)=p*p1) (ne:qN u (ll u (fe z x y))≠0) (hz:Av u (.invert x y p) z=some z'):
  B4 (n+160) (iP (iT (iC (r_ t b m X Y)) (p1*X) (p1*Y)) (iT (iC b) (p0*m*m) 0))/\B4 (n+160) (iT (iC (r_ t b m X Y)) (p1*m) 0)/\Nz h (iT (iC (r_ t b m X Y)) (p1*m) 0).v/\Rz u h z' (iP (iT (iC (r_ t b m X Y)) (p1*X) (p1*Y)) (iT (iC b) (p0*m*m) 0)).v (iT (iC (r_ t b m X Y)) (p1*m) 0).v:=by
 have mr:(m:Rat)≠0:=λe=>m0 (by exact_mod_cast e)
 have pr:(p1:Rat)≠0:=λe=>p10 (by exact_mod_cast e)
 have z0:∀ {j:Nat},1<=j->Bt j 0:=λhj=>CH.mono hj
 have bW:B4 (n+64) (r_ t b m X Y):=((bt.times bm (z0 (by decide))).minus (bb.times bX bY)).mono (by omega)
 have eW:(r_ t b m X Y).v=vM (vT t.v m 0) (vT b.v (x*m) (y*m)):=by unfold r_; rw [LP,qJ,qJ,<- eX,<- eY]; rfl
 refine⟨(((bW.conj.times (m:=74) (b1.mul bX) (b1.mul bY)).mono (n:=n+159) (by omega)).plus ((bb.conj.times (m:=122) ((b0.mul bm).mul bm) (z0 (by decide))).mono (n:=n+159) (by omega))).mono (by omega),(bW.conj.times (m:=74) (b1.mul bm) (z0 (by decide))).mono (by omega),?_,?_⟩
 ·have nW:Nz h (r_ t b m X Y).v:=by rw [eW]; exact(yt R u0 hu nz mr).mpr ne
  rw [qJ,F6];refine Nz.times (nW.cj true) ?_;rw [P1];intro e;rcases Qf.mp e with q | q
  ·exact pr q
  ·exact mr q
 ·have:=Rz.invert (m:=(m:Rat)) R ne ep hz;rw [Mv,qJ,qJ,qJ,F6,F6,eW,P1,P1,P1,P1,P1,<- eX,<- eY];exact this
def qS (w:Int) (b:I4):Int:=(b.a*b.a+b.b*b.b*w)+(b.c*b.c+b.d*b.d*w)
def qW (b:I4):Int:=(b.a*b.b+b.b*b.a)+(b.c*b.d+b.d*b.c)
def jn (w:Int) (b:I4):Int:=qS w b*qS w b - qW b*qW b*w
def CA (w:Int) (t b:I4):Int:=(t.a*b.a+t.b*b.b*w)+(t.c*b.c+t.d*b.d*w)
def CD (t b:I4):Int:=(t.a*b.b+t.b*b.a)+(t.c*b.d+t.d*b.c)
def CF (w:Int) (t b:I4):Int:=(t.a*-b.c+t.b*-b.d*w)+(t.c*b.a+t.d*b.b*w)
def CG (t b:I4):Int:=(t.a*-b.d+t.b*-b.c)+(t.c*b.b+t.d*b.a)
theorem ym {w:Int} {b:I4}:(qS w b:Rat)=xo w b.v:=by unfold qS xo; simp only [P1,QA,Qj,QG,I4.v]
theorem yj {b:I4}:(qW b:Rat)=sq1 b.v:=by unfold qW sq1; simp only [P1,QA,Qj,QG,I4.v]
theorem Nl {w:Int} {b:I4}:(jn w b:Rat)=E_ w b.v:=by unfold jn E_; rw [<- ym,<- yj]; simp only [P1,QA,Qj,QG,I4.v]
theorem IX {w:Int} {t b:I4}:(CA w t b:Rat)=IQ w t.v b.v:=by unfold CA IQ; simp only [P1,QA,Qj,QG,I4.v]
theorem Il {t b:I4}:(CD t b:Rat)=IV t.v b.v:=by unfold CD IV; simp only [P1,QA,Qj,QG,I4.v]
theorem I0 {w:Int} {t b:I4}:(CF w t b:Rat)=Iu w t.v b.v:=by unfold CF Iu; simp only [P1,QA,Qj,QG,I4.v]
theorem Ix {t b:I4}:(CG t b:Rat)=IM t.v b.v:=by unfold CG IM; simp only [P1,QA,Qj,QG,I4.v]
theorem Of {n v:Nat} {w:Int} {b:I4} (h:B4 n b) (hw:Bt v w):Bt (2*n+v+2) (qS w b):=(((h.a.mul h.a).add ((h.b.mul h.b).mul hw)).add ((h.c.mul h.c).add ((h.d.mul h.d).mul hw))).mono (by omega)
theorem Op {n:Nat} {b:I4} (h:B4 n b):Bt (2*n+2) (qW b):=(((h.a.mul h.b).add (h.b.mul h.a)).add ((h.c.mul h.d).add (h.d.mul h.c))).mono (by omega)
theorem bn {n v:Nat} {w:Int} {b:I4} (h:B4 n b) (hw:Bt v w):Bt (4*n+2*v+5) (jn w b):=(((Of h hw).mul (Of h hw)).sub (((Op h).mul (Op h)).mul hw)).mono (by omega)
theorem Pn {n v:Nat} {w:Int} {t b:I4} (g:B4 n t) (h:B4 n b) (hw:Bt v w):Bt (2*n+v+2) (CA w t b):=(((g.a.mul h.a).add ((g.b.mul h.b).mul hw)).add ((g.c.mul h.c).add ((g.d.mul h.d).mul hw))).mono (by omega)
theorem PD {n:Nat} {t b:I4} (g:B4 n t) (h:B4 n b):Bt (2*n+2) (CD t b):=(((g.a.mul h.b).add (g.b.mul h.a)).add ((g.c.mul h.d).add (g.d.mul h.c))).mono (by omega)
theorem O9 {n v:Nat} {w:Int} {t b:I4} (g:B4 n t) (h:B4 n b) (hw:Bt v w):Bt (2*n+v+2) (CF w t b):=(((g.a.mul h.c.neg).add ((g.b.mul h.d.neg).mul hw)).add ((g.c.mul h.a).add ((g.d.mul h.b).mul hw))).mono (by omega)
theorem Pu {n:Nat} {t b:I4} (g:B4 n t) (h:B4 n b):Bt (2*n+2) (CG t b):=(((g.a.mul h.d.neg).add (g.b.mul h.c.neg)).add ((g.c.mul h.b).add (g.d.mul h.a))).mono (by omega)
def Fj (w p0 p1 s0 s1:Int):Int:=p0*s0+p1*-s1*w
def Fi (p0 p1 s0 s1:Int):Int:=p0*-s1+p1*s0
theorem O5 {n v:Nat} {w p0 p1 s0 s1:Int} (h0:Bt (2*n+v+2) p0) (h1:Bt (2*n+2) p1) (g0:Bt (2*n+v+2) s0) (g1:Bt (2*n+2) s1) (hw:Bt v w):Bt (4*n+2*v+5) (Fj w p0 p1 s0 s1):=((h0.mul g0).add ((h1.mul g1.neg).mul hw)).mono (by omega)
theorem OX {n v:Nat} {p0 p1 s0 s1:Int} (h0:Bt (2*n+v+2) p0) (h1:Bt (2*n+2) p1) (g0:Bt (2*n+v+2) s0) (g1:Bt (2*n+2) s1):Bt (4*n+v+5) (Fi p0 p1 s0 s1):=((h0.mul g1.neg).add (h1.mul g0)).mono (by omega)
structure OZ (h:Rat) (z:Z4) (w:Int) (t b:I4):Prop where
 n0:jn w b≠0
 x1:z.1.1*(jn w b:Rat)=Fj w (CA w t b) (CD t b) (qS w b) (qW b)
 x2:z.1.2*(jn w b:Rat)=Fi (CA w t b) (CD t b) (qS w b) (qW b)*h
 y1:z.2.1*(jn w b:Rat)=Fj w (CF w t b) (CG t b) (qS w b) (qW b)
 y2:z.2.2*(jn w b:Rat)=Fi (CF w t b) (CG t b) (qS w b) (qW b)*h
theorem Rz.out {u h:Rat} {z:Z4} {w:Int} {t b:I4} (u0:0 < u) (hu:lf u) (hw:(w:Rat)=h*h*u) (nz:Nz h b.v) (R:Rz u h z t.v b.v):OZ h z w t b:=by
 have ne:=yE u0 hu nz;obtain⟨a1,a2⟩:=Ar (Rp.px R).1 (Rp.px R).2;obtain⟨a3,a4⟩:=Ar (Rp.py R).1 (Rp.py R).2;rw [<- hw] at ne a1 a2 a3 a4
 have en:(jn w b:Rat)=xo w b.v*xo w b.v - sq1 b.v*sq1 b.v*w:=Nl;refine⟨λz=>ne (by rw [<- Nl,z]; rfl),?_,?_,?_,?_⟩
 ·rw [en,<- a1]; unfold Fj; simp only [P1,Qj,QG]; rw [IX,Il,ym,yj]
 ·rw [en,<- a2]; unfold Fi; simp only [P1,Qj,QG]; rw [IX,Il,ym,yj]
 ·rw [en,<- a3]; unfold Fj; simp only [P1,Qj,QG]; rw [I0,Ix,ym,yj]
 ·rw [en,<- a4]; unfold Fi; simp only [P1,Qj,QG]; rw [I0,Ix,ym,yj]
theorem ov {n:Nat} {x:Rat} {D k:Int} (d0:D≠0) (bd:Bt n D) (e:x*D=k) (bk:Bt n k):Sz n x:=by
 have h:x=Rat.divInt k D:=by
  have dr:(D:Rat)≠0:=λz=>d0 (by exact_mod_cast z)
  rw [QC,<- e]; grind
 rw [h]; exact Sz.divInt bk bd d0
noncomputable def Ia (u:Rat):List Ld->Z4->Option Z4
 | [],z=>some z
 | l::ls,z=>match Av u l z with
  | none=>none
  | some z'=>Ia u ls z'
def wO (f:Fl):Int:=dN 1 [f.p,f.q,f.r,f.s]
def OC (f:Fl) (t b:I4):I4:=iP (iT (zL t f.m) (pD f.p (wO f)) (pD f.q (wO f))) (iT (zL b f.m) (pD f.r (wO f)) (pD f.s (wO f)))
def N9 (f:Fl) (b:I4):I4:=iT (zL b f.m) (wO f) 0
def CS (x y:Rat) (t b:I4):I4:=r_ t b (dN 1 [x,y]) (pD x (dN 1 [x,y])) (pD y (dN 1 [x,y]))
def OW (x y p:Rat) (t b:I4):I4:=iP (iT (iC (CS x y t b)) ((p.den:Int)*pD x (dN 1 [x,y])) ((p.den:Int)*pD y (dN 1 [x,y]))) (iT (iC b) (p.num*dN 1 [x,y]*dN 1 [x,y]) 0)
def OY (x y p:Rat) (t b:I4):I4:=iT (iC (CS x y t b)) ((p.den:Int)*dN 1 [x,y]) 0
def JC (i:I4):Bool:=(i.a == 0) && ((i.b == 0) && ((i.c == 0) && ((i.d == 0) && true)))
structure ay (u h:Rat) (n:Nat) (z:Z4) (t b:I4):Prop where
 bt:B4 n t
 bb:B4 n b
 pt:tS h t
 pb:tS h b
 nz:Nz h b.v
 r:Rz u h z t.v b.v
theorem Gf {f:Fl} {k P Q R S:Int} (F:BJ f k P Q R S):BJ f (wO f) (pD f.p (wO f)) (pD f.q (wO f)) (pD f.r (wO f)) (pD f.s (wO f)):=by
 have hd:wO f ∣ k:=nU (Int.one_dvd k) λq h=>by
  simp only [P8,Qh,or_false] at h;rcases h with rfl | rfl | rfl | rfl
  ·exact nh F.p
  ·exact nh F.q
  ·exact nh F.r
  ·exact nh F.s
 have hq:=(si (qs:=[f.p,f.q,f.r,f.s]) (m:=1)).2;have h0:0 < wO f:=sC (by decide)
 have d1:(f.p.den:Int) ∣ wO f:=hq f.p (by simp)
 have d2:(f.q.den:Int) ∣ wO f:=hq f.q (by simp)
 have d3:(f.r.den:Int) ∣ wO f:=hq f.r (by simp)
 have d4:(f.s.den:Int) ∣ wO f:=hq f.s (by simp)
 exact⟨by omega,mD hd F.k0 F.bk,pR F.p d1 hd F.k0 F.bP,pR F.q d2 hd F.k0 F.bQ,pR F.r d3 hd F.k0 F.bR,pR F.s d4 hd F.k0 F.bS,(mI d1).symm,(mI d2).symm,(mI d3).symm,(mI d4).symm⟩
theorem MW {l:Ld} (ok:tU l) (sz:s9 l) (hl:uY l=false):Sz 160 (vj l).p/\Sz 160 (vj l).q/\Sz 160 (vj l).r/\Sz 160 (vj l).s:=by
 obtain⟨k,P,Q,R,S,F⟩:=Do ok sz hl;exact⟨(ov F.k0 F.bk F.p F.bP).mono (by decide),(ov F.k0 F.bk F.q F.bQ).mono (by decide),(ov F.k0 F.bk F.r F.bR).mono (by decide),(ov F.k0 F.bk F.s F.bS).mono (by decide)⟩
theorem ay.move {u h:Rat} {n:Nat} {z:Z4} {t b:I4} {l:Ld} (I:ay u h n z t b) (ok:tU l) (sz:s9 l) (hl:uY l=false):ay u h (n+160) (IH (vj l) z) (OC (vj l) t b) (N9 (vj l) b):=by
 obtain⟨k,P,Q,R,S,F⟩:=Do ok sz hl;obtain⟨h1,h2,h3,h4⟩:=Cp (Gf F) I.bt I.bb I.nz I.r;exact⟨h1,h2,((I.pt.cj _).times).plus ((I.pb.cj _).times),(I.pb.cj _).times,h3,h4⟩
theorem F5 {i:I4}:JC i=true↔i.a=0/\i.b=0/\i.c=0/\i.d=0:=by
 unfold JC;simp only [QI,beq_iff_eq,and_true]
theorem xY {x y:Rat} (hx:Sz 24 x) (hy:Sz 24 y):0 < dN 1 [x,y]/\Bt 48 (dN 1 [x,y])/\Bt 48 (pD x (dN 1 [x,y]))/\Bt 48 (pD y (dN 1 [x,y]))/\x*(dN 1 [x,y]:Rat)=pD x (dN 1 [x,y])/\y*(dN 1 [x,y]:Rat)=pD y (dN 1 [x,y]):=by
 have ex:x*(((x.den:Int)*(y.den:Int):Int):Rat)=((x.num*(y.den:Int):Int):Rat):=by rw [P1,P1,nd x]; grind
 have ey:y*(((x.den:Int)*(y.den:Int):Int):Rat)=((y.num*(x.den:Int):Int):Rat):=by rw [P1,P1,nd y]; grind
 have hd:dN 1 [x,y] ∣ (x.den:Int)*(y.den:Int):=nU (Int.one_dvd _) λq h=>by
  simp only [P8,Qh,or_false] at h;rcases h with rfl | rfl
  ·exact nh ex
  ·exact nh ey
 have hq:=(si (qs:=[x,y]) (m:=1)).2;have d1:(x.den:Int) ∣ dN 1 [x,y]:=hq x (by simp)
 have d2:(y.den:Int) ∣ dN 1 [x,y]:=hq y (by simp)
 exact⟨sC (by decide),mD hd (bG x y) (hx.den.mul hy.den),pR ex d1 hd (bG x y) (hx.num.mul hy.den),pR ey d2 hd (bG x y) (hy.num.mul hx.den),(mI d1).symm,(mI d2).symm⟩
theorem ay.way {u h x y p:Rat} {n:Nat} {z:Z4} {t b:I4} (I:ay u h n z t b) (u0:0 < u) (hu:lf u) (sz:s9 (.invert x y p)):JC (CS x y t b)=false↔qN u (ll u (fe z x y))≠0:=by
 obtain⟨m0,bm,bX,bY,eX,eY⟩:=xY sz.1 sz.2.1;have mr:((dN 1 [x,y]:Int):Rat)≠0:=λe=>by
  have e0:dN 1 [x,y]=0:=by exact_mod_cast e
  omega
 have eW:(CS x y t b).v=vM (vT t.v (dN 1 [x,y]:Int) 0) (vT b.v (x*(dN 1 [x,y]:Int)) (y*(dN 1 [x,y]:Int))):=by unfold CS r_; rw [LP,qJ,qJ,eX,eY]; rfl
 have pW:tS h (CS x y t b):=(I.pt.times).minus (I.pb.times);rw [<- yt I.r u0 hu I.nz mr,<- eW,KH pW,<- F5];cases JC (CS x y t b) <;> simp
theorem ay.inv {u h x y p:Rat} {n:Nat} {z z':Z4} {t b:I4} (I:ay u h n z t b) (u0:0 < u) (hu:lf u) (sz:s9 (.invert x y p)) (e:Av u (.invert x y p) z=some z'):JC (CS x y t b)=false/\ay u h (n+160) z' (OW x y p t b) (OY x y p t b):=by
 have ne:qN u (ll u (fe z x y))≠0:=λq=>by
  simp only [Av] at e;rw [if_pos q] at e;cases e
 obtain⟨m0,bm,bX,bY,eX,eY⟩:=xY sz.1 sz.2.1;obtain⟨h1,h2,h3,h4⟩:=DN (p0:=p.num) (p1:=(p.den:Int)) u0 hu I.bt I.bb I.nz I.r (by omega) bm bX bY sz.2.2.num sz.2.2.den eX eY (gu p) (nd p) ne e
 have pW:tS h (CS x y t b):=(I.pt.times).minus (I.pb.times);exact⟨(I.way u0 hu sz).mpr ne,h1,h2,(pW.conj.times).plus (I.pb.conj.times),pW.conj.times,h3,h4⟩
set_option maxHeartbeats 4000000
theorem HI {n:Nat} (h:n < 300):n < sizeLine:=Qb h (Qi (rfl:Nat.ble 300 sizeLine=true))
abbrev wD (i:I4):D:=.tup [.int i.a,.int i.b,.int i.c,.int i.d]
abbrev qD (t b:I4):D:=.tup [wD t,wD b]
abbrev Oz (f:Fl):D:=.tup [W f.p f.q,W f.r f.s,.bl f.m]
def NJ:Ld->D
 | .shift x y=>.tup [.str "shift",fr x,fr y]
 | .grow x y b=>.tup [.str "grow",fr x,fr y,fr b]
 | .turn x y p q=>.tup [.str "turn",fr x,fr y,fr p,fr q]
 | .mirror a b c=>.tup [.str "mirror",fr a,fr b,fr c]
 | .invert x y p=>.tup [.str "invert",fr x,fr y,fr p]
def Pm (S:DH) (y:D) (p q:Int):Prop:=y=.tup [.int p,.int q]\/∃ a,y=.ref a/\S a=some (.lst [.int p,.int q])
theorem wz:∀ {qs:List Rat} {m:Int} {n:Nat},0 < m->Bt n m->(∀ q∈qs,Sz 480 q)->Bt (n+480*qs.length) (dN m qs)
 | [],_,_,_,h,_=>h
 | q::qs,m,n,h0,h,hq=>(wz (qs:=qs) (lcm_pos h0 (cH q)) (wn h (hq q P_).den h0 (cH q)) λp hp=>hq p (Qa _ hp)).mono (by rw [Qe]; omega)
def dW:bC:=λds S k=>∃ qs:List Rat,ds=[.tup (qs.map fr)]/\(∀ q∈qs,Sz 480 q)/\qs.length<=4/\k (.int (dN 1 qs)) S
theorem fN:ao ["fractions","bottom","fraction"] ["fractions"] (am j_):=cA
theorem oR (Fn:bL K "common_bottom" "common_bottom" j_ f fd) (aB:aE P w K mg base "common_multiple" 34 bH):
  aI P w K mg base ca 35 f fd ["fractions"] (cg K dW):=by
 refine Fn.okJ fN (λds S k h=>?_) (λcdv A outer s H E hr=>⟨_,(af (ai (i:=1) fN.nd ae) (af (fh PassesOwn.never rfl (ac 0) (aP (i:=2) c9.nd) (aj (ai (i:=1) fN.nd (dq aB hr (aa (ac 1) (aa (ah ag (ac 2) ae (λ_ _=>rfl)) ad)))))) (aj (ak (ac 1))))),λds S k h=>?_⟩)
 ·obtain⟨_,rfl,_⟩:=h
  rfl
 ·obtain⟨qs,rfl,hq,hl,w⟩:=h;refine⟨(qs.map fr,none),rfl,?_⟩;refine dH (λr L S'=>S'=S/\∃ (rs:List Rat) (m:Int) (n:Nat) (l2:Option D),L=[some (.tup (qs.map fr)),some (.int m),l2]/\r=rs.map fr/\dN 1 qs=dN m rs/\0 < m/\Bt n m/\n+480*rs.length<=2400/\∀ q∈rs,Sz 480 q) (λ_ _ _ _=>trivial) ?_ ?_ _ _ _ ⟨rfl,qs,1,1,none,rfl,rfl,rfl,by decide,M9,by omega,hq⟩
  ·rintro d r L S1 N1 ⟨rfl,rs,m,n,l2,rfl,er,hm,m0,bm,hn,hr⟩ hN;cases rs with
   | nil=>cases er
   | cons q rs=>
    cases er;have hn:n+480*(rs.length+1)<=2400:=hn;have hq:=hr q P_;exact⟨m,(q.den:Int),rfl,m0,cH q,bm.mono (by omega),hq.den.mono (by decide),hN _ _ ⟨rfl,rs,_,n+480,_,rfl,rfl,hm,lcm_pos m0 (cH q),wn bm hq.den m0 (cH q),by omega,λp hp=>hr p (Qa _ hp)⟩⟩
  ·rintro L S1 ⟨rfl,rs,m,n,l2,rfl,er,hm,_⟩;cases rs with
   | nil=>rw [hm] at w; exact w
   | cons _ _=>cases er
def jO:bC:=λds S k=>∃ a b c d w p q:Int,ds=[.tup [.int a,.int b],.tup [.int c,.int d],.int w]/\Bt 200000 a/\Bt 200000 b/\Bt 200000 c/\Bt 200000 d/\Bt 200000 w/\a*c+b*d*w=p/\a*d+b*c=q/\k (.tup [.int p,.int q]) S
theorem sN:ao ["one","other","base"] ["one","other","base"] (am nE):=cA
theorem sf (Fn:bL K "surd_times" "surd_times" nE f fd):
  aI P w K mg base ca 1 f fd ["one","other","base"] (cg K jO):=by
 refine Fn.okJ sN (λds S k h=>?_) (λcdv A outer s H E hr=>⟨_,(aj (ak (au (aa (ar cX (ar aM (ah ag (ac 0) ae (λ_ _=>rfl)) (ah ag (ac 1) ae (λ_ _=>rfl))) (ar aM (ar aM (ah ag (ac 0) ae (λ_ _=>rfl)) (ah ag (ac 1) ae (λ_ _=>rfl))) (ac 2))) (aa (ar cX (ar aM (ah ag (ac 0) ae (λ_ _=>rfl)) (ah ag (ac 1) ae (λ_ _=>rfl))) (ar aM (ah ag (ac 0) ae (λ_ _=>rfl)) (ah ag (ac 1) ae (λ_ _=>rfl)))) ad))))),λds S k h=>?_⟩)
 ·obtain⟨_,_,_,_,_,_,_,rfl,_⟩:=h
  rfl
 ·obtain⟨a,b,c,d,w,_,_,rfl,ha,hb,hc,hd,hw,rfl,rfl,q⟩:=h;exact⟨dy ha hc,dy hb hd,dy (hb.mul hd) hw,dy ha hd,dy hb hc,few,q⟩
def lu:bC:=λds S k=>∃ a b c d p q:Int,ds=[.tup [.int a,.int b],.tup [.int c,.int d]]/\a+c=p/\b+d=q/\k (.tup [.int p,.int q]) S
theorem wc:ao ["one","other"] ["one","other"] (am lU):=cA
theorem xn (Fn:bL K "surd_plus" "surd_plus" lU f fd):
  aI P w K mg base ca 1 f fd ["one","other"] (cg K lu):=by
 refine Fn.okJ wc (λds S k h=>?_) (λcdv A outer s H E hr=>⟨_,(aj (ak (au (aa (ar cX (ah ag (ac 0) ae (λ_ _=>rfl)) (ah ag (ac 1) ae (λ_ _=>rfl))) (aa (ar cX (ah ag (ac 0) ae (λ_ _=>rfl)) (ah ag (ac 1) ae (λ_ _=>rfl))) ad))))),λds S k h=>?_⟩)
 ·obtain⟨_,_,_,_,_,_,rfl,_⟩:=h
  rfl
 ·obtain⟨a,b,c,d,_,_,rfl,rfl,rfl,q⟩:=h;exact⟨few,q⟩
def js:bC:=λds S k=>∃ (i:I4) (y:D) (p q:Int),ds=[wD i,y]/\Pm S y p q/\B4 200000 i/\Bt 200000 p/\Bt 200000 q/\k (wD (iT i p q)) S
theorem vt:ao ["way","by"] ["way","by"] (am lP):=cA
theorem wj (Fn:bL K "way_times" "way_times" lP f fd):
  aI P w K mg base ca 1 f fd ["way","by"] (cg K js):=by
 refine Fn.okJ vt (λds S k h=>?_) (λcdv A outer s H E hr=>⟨_,(aj (ak (au (aa (ar jZ (ar aM (ah ag (ac 1) ae (λ_ _=>rfl)) (ah ag (ac 0) ae (λ_ _=>rfl))) (ar aM (ah ag (ac 1) ae (λ_ _=>rfl)) (ah ag (ac 0) ae (λ_ _=>rfl)))) (aa (ar jZ (ar aM (ah ag (ac 1) ae (λ_ _=>rfl)) (ah ag (ac 0) ae (λ_ _=>rfl))) (ar aM (ah ag (ac 1) ae (λ_ _=>rfl)) (ah ag (ac 0) ae (λ_ _=>rfl)))) (aa (ar cX (ar aM (ah ag (ac 1) ae (λ_ _=>rfl)) (ah ag (ac 0) ae (λ_ _=>rfl))) (ar aM (ah ag (ac 1) ae (λ_ _=>rfl)) (ah ag (ac 0) ae (λ_ _=>rfl)))) (aa (ar cX (ar aM (ah ag (ac 1) ae (λ_ _=>rfl)) (ah ag (ac 0) ae (λ_ _=>rfl))) (ar aM (ah ag (ac 1) ae (λ_ _=>rfl)) (ah ag (ac 0) ae (λ_ _=>rfl)))) ad))))))),λds S k h=>?_⟩)
 ·obtain⟨_,_,_,_,rfl,_⟩:=h
  rfl
 ·obtain⟨i,y,p,q,rfl,hy,hi,hp,hq,w⟩:=h;rcases hy with rfl | ⟨a,rfl,e⟩
  ·exact⟨dy hp hi.a,dy hq hi.c,dy hp hi.b,dy hq hi.d,dy hq hi.a,dy hp hi.c,dy hq hi.b,dy hp hi.d,few,w⟩
  ·exact⟨_,_,e,rfl,dy hp hi.a,_,_,e,rfl,dy hq hi.c,_,_,e,rfl,dy hp hi.b,_,_,e,rfl,dy hq hi.d,_,_,e,rfl,dy hq hi.a,_,_,e,rfl,dy hp hi.c,_,_,e,rfl,dy hq hi.b,_,_,e,rfl,dy hp hi.d,few,w⟩
def k8:bC:=λds S k=>∃ i j:I4,ds=[wD i,wD j]/\k (wD (iP i j)) S
theorem xJ:ao ["one","other"] ["one","other"] (am nY):=cA
theorem xE (Fn:bL K "way_plus" "way_plus" nY f fd):
  aI P w K mg base ca 1 f fd ["one","other"] (cg K k8):=by
 refine Fn.okJ xJ (λds S k h=>?_) (λcdv A outer s H E hr=>⟨_,(aj (ak (au (aa (ar cX (ah ag (ac 0) ae (λ_ _=>rfl)) (ah ag (ac 1) ae (λ_ _=>rfl))) (aa (ar cX (ah ag (ac 0) ae (λ_ _=>rfl)) (ah ag (ac 1) ae (λ_ _=>rfl))) (aa (ar cX (ah ag (ac 0) ae (λ_ _=>rfl)) (ah ag (ac 1) ae (λ_ _=>rfl))) (aa (ar cX (ah ag (ac 0) ae (λ_ _=>rfl)) (ah ag (ac 1) ae (λ_ _=>rfl))) ad))))))),λds S k h=>?_⟩)
 ·obtain⟨_,_,rfl,_⟩:=h
  rfl
 ·obtain⟨i,j,rfl,w⟩:=h;exact⟨few,w⟩
def lX:bC:=λds S k=>∃ i j:I4,ds=[wD i,wD j]/\k (wD (iM i j)) S
theorem vZ:ao ["one","other"] ["one","other"] (am mT):=cA
theorem vq (Fn:bL K "way_minus" "way_minus" mT f fd):
  aI P w K mg base ca 1 f fd ["one","other"] (cg K lX):=by
 refine Fn.okJ vZ (λds S k h=>?_) (λcdv A outer s H E hr=>⟨_,(aj (ak (au (aa (ar jZ (ah ag (ac 0) ae (λ_ _=>rfl)) (ah ag (ac 1) ae (λ_ _=>rfl))) (aa (ar jZ (ah ag (ac 0) ae (λ_ _=>rfl)) (ah ag (ac 1) ae (λ_ _=>rfl))) (aa (ar jZ (ah ag (ac 0) ae (λ_ _=>rfl)) (ah ag (ac 1) ae (λ_ _=>rfl))) (aa (ar jZ (ah ag (ac 0) ae (λ_ _=>rfl)) (ah ag (ac 1) ae (λ_ _=>rfl))) ad))))))),λds S k h=>?_⟩)
 ·obtain⟨_,_,rfl,_⟩:=h
  rfl
 ·obtain⟨i,j,rfl,w⟩:=h;exact⟨few,w⟩
def fK:bC:=λds S k=>∃ i:I4,ds=[wD i]/\k (wD (iC i)) S
theorem q8:ao ["way"] ["way"] (am iQ):=cA
theorem qV (Fn:bL K "way_mirrored" "way_mirrored" iQ f fd):
  aI P w K mg base ca 1 f fd ["way"] (cg K fK):=by
 refine Fn.okJ q8 (λds S k h=>?_) (λcdv A outer s H E hr=>⟨_,(aj (ak (au (aa (ah ag (ac 0) ae (λ_ _=>rfl)) (aa (ah ag (ac 0) ae (λ_ _=>rfl)) (aa (lQ lM (ah ag (ac 0) ae (λ_ _=>rfl))) (aa (lQ lM (ah ag (ac 0) ae (λ_ _=>rfl))) ad))))))),λds S k h=>?_⟩)
 ·obtain⟨_,rfl,_⟩:=h
  rfl
 ·obtain⟨i,rfl,w⟩:=h;exact⟨few,w⟩
def gI:bC:=λds S k=>∃ (x y:Rat) (m:Int),ds=[W x y,.int m]/\Sz 480 x/\Sz 480 y/\Bt 8000 m/\∀ S' p,cC S S'->S' p=some (.lst [.int (pD x m),.int (pD y m)])->k (.ref p) S'
theorem sG:ao ["fractions","bottom"] ["fractions","bottom"] (am ju):=cA
theorem rS (Fn:bL K "wholes_over" "wholes_over" ju f fd):
  aI P w K mg base ca 1 f fd ["fractions","bottom"] (cg K gI):=by
 refine Fn.okJ sG (λds S k h=>?_) (λcdv A outer s H E hr=>⟨_,(aj (ak (Da rfl (ot (N:=["fraction","bottom"]) (cap:=[none,some 1]) rfl rfl rfl rfl ⟨rfl,trivial⟩ rfl rfl ⟨⟨rfl,.inl rfl,.inl rfl⟩,trivial⟩) (ac 0) (λ_ _ _ _=>(aP (i:=0) (show List.Nodup (["fraction","bottom"]:List Str) from by decide +kernel))) (λ_ _ _ _=>(ar aM (ah ag (ac 0) ae (λ_ _=>rfl)) (ar jh (ac 1) (ah ag (ac 0) ae (λ_ _=>rfl)))))))),λds S k h=>?_⟩)
 ·obtain⟨_,_,_,rfl,_⟩:=h
  rfl
 ·obtain⟨x,y,m,rfl,hx,hy,hm,w⟩:=h;refine⟨([fr x,fr y],none),rfl,λp hp=>?_⟩
  refine⟨trivial,y4 (gu x) hx.den,dy hx.num (hm.le (HM.aH _ _)),av,HI (by show 0 < 300; decide),?_⟩
  refine⟨trivial,y4 (gu y) hy.den,dy hy.num (hm.le (HM.aH _ _)),av,HI (by show 1 < 300; decide),?_⟩
  exact⟨trivial,w _ p (((cC.new hp).put hp).put hp) av⟩
def sO:bC:=λds S k=>∃ x y p q:Rat,ds=[W x y,W p q]/\Sz 800 x/\Sz 800 y/\Sz 800 p/\Sz 800 q/\k (W (p*x - q*y) (q*x+p*y)) S
theorem A8:ao ["way","by"] ["way","by"] (am rK):=cA
theorem BX (Fn:bL K "turned" "turned" rK f fd) (aT:aE P w K mg base "plus" 35 fR) (aD:aE P w K mg base "times" 35 dU) (bo:aE P w K mg base "minus" 35 gJ):
  aI P w K mg base ca 36 f fd ["way","by"] (cg K sO):=by
 refine Fn.okJ A8 (λds S k h=>?_) (λcdv A outer s H E hr=>⟨_,(aj (ak (au (aa (dq bo hr (aa (dq aD hr (aa (ah ag (ac 1) ae (λ_ _=>rfl)) (aa (ah ag (ac 0) ae (λ_ _=>rfl)) ad))) (aa (dq aD hr (aa (ah ag (ac 1) ae (λ_ _=>rfl)) (aa (ah ag (ac 0) ae (λ_ _=>rfl)) ad))) ad))) (aa (dq aT hr (aa (dq aD hr (aa (ah ag (ac 1) ae (λ_ _=>rfl)) (aa (ah ag (ac 0) ae (λ_ _=>rfl)) ad))) (aa (dq aD hr (aa (ah ag (ac 1) ae (λ_ _=>rfl)) (aa (ah ag (ac 0) ae (λ_ _=>rfl)) ad))) ad))) ad))))),λds S k h=>?_⟩)
 ·obtain⟨_,_,_,_,rfl,_⟩:=h
  rfl
 ·obtain⟨x,y,p,q,rfl,hx,hy,hp,hq,w⟩:=h;exact⟨p,x,rfl,hp.mono (by decide),hx.mono (by decide),q,y,rfl,hq.mono (by decide),hy.mono (by decide),_,_,rfl,(hp.mul hx).mono (by decide),(hq.mul hy).mono (by decide),q,x,rfl,hq.mono (by decide),hx.mono (by decide),p,y,rfl,hp.mono (by decide),hy.mono (by decide),_,_,rfl,(hq.mul hx).mono (by decide),(hp.mul hy).mono (by decide),few,w⟩
def kB:bC:=λds S k=>∃ u a b e:Rat,ds=[N u a b,fr (e*e*u)]/\0 < u/\(b=0\/e≠0)/\Sz 1000 a/\Sz 1000 b/\Sz 1000 e/\Sz 4 u/\∀ m:Int,0 < m->(a.den:Int) ∣ m->((b / ab e / (((e*e*u).den:Int):Rat)).den:Int) ∣ m->Bt 6000 m->k (.tup [.tup [.int (pD a m),.int (pD (b / ab e / (((e*e*u).den:Int):Rat)) m)],.int m]) S
theorem gK:ao ["number","base","portion","bottom","surd"] ["number","base"] (am oC):=cA
theorem uH (Fn:bL K "surd_over" "surd_over" oC f fd) (aY:aE P w K mg base "over" 35 fB) (dI:aE P w K mg base "share" 37 mX) (aB:aE P w K mg base "common_multiple" 34 bH):
  aI P w K mg base ca 38 f fd ["number","base"] (cg K kB):=by
 refine Fn.okJ gK (λds S k h=>?_) (λcdv A outer s H E hr=>⟨_,(af (ai (i:=2) gK.nd (dq aY hr (aa (dq dI hr (aa (ac 0) (aa (ac 1) ad))) (aa (au (aa (ah ag (ac 1) ae (λ_ _=>rfl)) (aa ae ad))) ad)))) (af (ai (i:=3) gK.nd (dq aB hr (aa (ah ag (ah ag (ac 0) ae (λ_ _=>rfl)) ae (λ_ _=>rfl)) (aa (ah ag (ac 2) ae (λ_ _=>rfl)) ad)))) (af (ai (i:=4) gK.nd (au (aa (ar aM (ah ag (ah ag (ac 0) ae (λ_ _=>rfl)) ae (λ_ _=>rfl)) (ar jh (ac 3) (ah ag (ah ag (ac 0) ae (λ_ _=>rfl)) ae (λ_ _=>rfl)))) (aa (ar aM (ah ag (ac 2) ae (λ_ _=>rfl)) (ar jh (ac 3) (ah ag (ac 2) ae (λ_ _=>rfl)))) ad)))) (aj (ak (au (aa (ac 4) (aa (ac 3) ad)))))))),λds S k h=>?_⟩)
 ·obtain⟨_,_,_,_,rfl,_⟩:=h
  rfl
 ·obtain⟨u,a,b,e,rfl,u0,hbe,ha,hb,he,hu,w⟩:=h;have hd:=gu (e*e*u);have hB:Sz 2004 (e*e*u):=(he.mul he).mul hu;have hdr:((((e*e*u).den:Nat):Int):Rat)≠0:=dn (e*e*u);have hds:Sz 2004 ((((e*e*u).den:Nat):Int):Rat):=⟨hB.den,by show Bt 2004 1; decide⟩
  have hs:Sz 2001 (b / ab e):=hb.div' he.ab;have hP:=hs.div hds hdr;refine⟨u,a,b,e,rfl,u0,hbe,⟨hb.mono (by decide),he.mono (by decide)⟩,hu.mono (by decide),few,_,_,rfl,hdr,hs.mono (by decide),hds.mono (by decide),?_⟩
  generalize b / ab e / ((((e*e*u).den:Nat):Int):Rat)=P at hP w ⊢
  have m0:=lcm_pos (cH a) (cH P);have bm:=wn ha.den hP.den (cH a) (cH P);refine⟨_,_,rfl,cH a,cH P,ha.den.mono (by decide),hP.den.mono (by decide),?_⟩
  have w:=w _ m0 (Int.dvd_lcm_left ..) (Int.dvd_lcm_right ..) (bm.mono (by decide))
  generalize ((Int.lcm (a.den:Int) (P.den:Int):Nat):Int)=m at m0 bm w ⊢
  exact⟨y4 (gu a) ha.den,dy ha.num (bm.le (HM.aH _ _)),y4 (gu P) hP.den,dy hP.num (bm.le (HM.aH _ _)),few,few,w⟩
set_option maxHeartbeats 4000000
theorem KN {c:DT} {t e b2:DS} {M:nH} {L:Lo} {S:DH} (P:Lo->DH->Prop) (h2:∀ L S,P L S->b2 M L S) (h1:(∀ L S,P L S->b2 M L S)->BS c t e {M with nx:=b2 M} L S):zB (BS c t e) b2 M L S:=h1 h2
structure Bs (u e h:Rat) (w:Int):Prop where
 hn:0<=h
 hw:(w:Rat)=h*h*u
 eh:ab e*(((e*e*u).den:Int):Rat)=h
 wd:(e*e*u).num*((e*e*u).den:Int)=w
theorem L5 {u e:Rat}:Bs u e (ab e*(((e*e*u).den:Int):Rat)) ((e*e*u).num*((e*e*u).den:Int)):=by
 have hd:=cH (e*e*u);have hd':(0:Rat)<=(((e*e*u).den:Int):Rat):=by exact_mod_cast Int.le_of_lt hd
 refine⟨Qo (qw e) hd',?_,rfl,rfl⟩;rw [P1,nd (e*e*u)];have:=qC e;generalize (((e*e*u).den:Int):Rat)=d;grind
theorem O8 {b e d h:Rat} (hb:b=0\/e≠0) (d0:d≠0) (eh:ab e*d=h):b / ab e / d*h=b:=by
 rcases hb with rfl | he
 ·grind
 ·have:=nF he;rw [<- eh];generalize ab e=f at this;grind
theorem jJ {n v:Nat} {q:Rat} {m:Int} (hq:Sz n q) (hm:Bt v m):Bt (n+v) (pD q m):=hq.num.mul (hm.le (HM.aH _ _))
theorem AR {q:Rat} {m M:Int} (h:(q.den:Int) ∣ m) (hm:m ∣ M) (m0:0 < m):((pD q m*M.fdiv m:Int):Rat)=q*(M:Rat):=by
 obtain⟨j,rfl⟩:=hm;rw [oP _ m0,Int.mul_ediv_cancel_left _ (by omega),P1,P1,mI h]
 grind
def jA:bC:=λds S k=>∃ (u:Rat) (z:Z4),ds=[Pq u z.1 z.2,fr (pick z.1.2 z.2.2*pick z.1.2 z.2.2*u)]/\0 < u/\Sz 4 u/\Sz 1000 z.1.1/\Sz 1000 z.1.2/\Sz 1000 z.2.1/\Sz 1000 z.2.2/\∀ (h:Rat) (w:Int) (t b:I4),Bs u (pick z.1.2 z.2.2) h w->Bt 4100 w->ay u h 23000 z t b->k (qD t b) S
theorem cu:ao ["point","base","x","y","bottom","x_times","y_times","top"] ["point","base"] (am jK):=cA
theorem tz (Fn:bL K "quotient_of" "quotient_of" jK f fd) (iK:aE P w K mg base "surd_over" 38 kB) (aB:aE P w K mg base "common_multiple" 34 bH):
  aI P w K mg base ca 39 f fd ["point","base"] (cg K jA):=by
 refine Fn.okJ cu (λds S k h=>?_) (λcdv A outer s H E hr=>⟨_,(af (ai (i:=2) cu.nd (dq iK hr (aa (ah ag (ac 0) ae (λ_ _=>rfl)) (aa (ac 1) ad)))) (af (ai (i:=3) cu.nd (dq iK hr (aa (ah ag (ac 0) ae (λ_ _=>rfl)) (aa (ac 1) ad)))) (af (ai (i:=4) cu.nd (dq aB hr (aa (ah ag (ac 2) ae (λ_ _=>rfl)) (aa (ah ag (ac 3) ae (λ_ _=>rfl)) ad)))) (af (ai (i:=5) cu.nd (ar jh (ac 4) (ah ag (ac 2) ae (λ_ _=>rfl)))) (af (ai (i:=6) cu.nd (ar jh (ac 4) (ah ag (ac 3) ae (λ_ _=>rfl)))) (af (ai (i:=7) cu.nd (au (aa (ar aM (ah ag (ah ag (ac 2) ae (λ_ _=>rfl)) ae (λ_ _=>rfl)) (ac 5)) (aa (ar aM (ah ag (ah ag (ac 2) ae (λ_ _=>rfl)) ae (λ_ _=>rfl)) (ac 5)) (aa (ar aM (ah ag (ah ag (ac 3) ae (λ_ _=>rfl)) ae (λ_ _=>rfl)) (ac 6)) (aa (ar aM (ah ag (ah ag (ac 3) ae (λ_ _=>rfl)) ae (λ_ _=>rfl)) (ac 6)) ad)))))) (aj (ak (au (aa (ac 7) (aa (au (aa (ac 4) (aa ae (aa ae (aa ae ad))))) ad))))))))))),λds S k h=>?_⟩)
 ·obtain⟨_,_,rfl,_⟩:=h
  rfl
 ·obtain⟨u,z,rfl,u0,hu,h1,h2,h3,h4,w⟩:=h;obtain⟨⟨x1,x2⟩,⟨y1,y2⟩⟩:=z;simp only at h1 h2 h3 h4 w
  have he:Sz 1000 (pick x2 y2):=h2.pick h4;have pb:=yO (b:=x2) (d:=y2);have pd:=yX (b:=x2) (d:=y2);refine⟨u,x1,x2,pick x2 y2,rfl,u0,pb,h1,h2,he,hu,λm1 p1 d1 c1 b1=>⟨u,y1,y2,pick x2 y2,rfl,u0,pd,h3,h4,he,hu,λm2 p2 d2 c2 b2=>?_⟩⟩
  have hB:=L5 (u:=u) (e:=pick x2 y2);have bw:Bt 4100 ((pick x2 y2*pick x2 y2*u).num*((pick x2 y2*pick x2 y2*u).den:Int)):=by
   have:=(he.mul he).mul hu;exact(this.num.mul this.den).mono (by decide)
  have w:=λt b=>w _ _ t b hB bw
  have hdr:=dn (pick x2 y2*pick x2 y2*u);have e1:=O8 pb hdr hB.eh;have e2:=O8 pd hdr hB.eh;have hds:Sz 2004 ((((pick x2 y2*pick x2 y2*u).den:Nat):Int):Rat):=⟨((he.mul he).mul hu).den,by show Bt 2004 1; decide⟩
  have s1:Sz 4005 (x2 / ab (pick x2 y2) / ((((pick x2 y2*pick x2 y2*u).den:Nat):Int):Rat)):=(h2.div' he.ab).div hds hdr;have s2:Sz 4005 (y2 / ab (pick x2 y2) / ((((pick x2 y2*pick x2 y2*u).den:Nat):Int):Rat)):=(h4.div' he.ab).div hds hdr;have hz:ab (pick x2 y2)*((((pick x2 y2*pick x2 y2*u).den:Nat):Int):Rat)=0->x2 / ab (pick x2 y2) / ((((pick x2 y2*pick x2 y2*u).den:Nat):Int):Rat)=0/\y2 / ab (pick x2 y2) / ((((pick x2 y2*pick x2 y2*u).den:Nat):Int):Rat)=0:=λq=>by
   have q2:=(Qf.mp q).resolve_right hdr;obtain⟨a1,a2⟩:=ng (Classical.byContradiction λn=>nF n q2)
   rw [q2];subst a1 a2;refine⟨?_,?_⟩ <;> rw [Rat.div_def,Rat.div_def,Rat.zero_mul,Rat.zero_mul]
  generalize x2 / ab (pick x2 y2) / ((((pick x2 y2*pick x2 y2*u).den:Nat):Int):Rat)=P at e1 s1 c1 w hz ⊢
  generalize y2 / ab (pick x2 y2) / ((((pick x2 y2*pick x2 y2*u).den:Nat):Int):Rat)=R at e2 s2 c2 w hz ⊢
  refine⟨m1,m2,rfl,p1,p2,b1.mono (by decide),b2.mono (by decide),?_⟩
  have M0:=lcm_pos p1 p2;have bM:=wn b1 b2 p1 p2;have dM1:m1 ∣ ((Int.lcm m1 m2:Nat):Int):=Int.dvd_lcm_left ..;have dM2:m2 ∣ ((Int.lcm m1 m2:Nat):Int):=Int.dvd_lcm_right ..;generalize ((Int.lcm m1 m2:Nat):Int)=M at M0 bM dM1 dM2 ⊢
  have f1:Bt 12000 (M.fdiv m1):=bM.le (HM.aH _ _);have f2:Bt 12000 (M.fdiv m2):=bM.le (HM.aH _ _);have g1:=jJ h1 b1;have g2:=jJ s1 b1;have g3:=jJ h3 b2;have g4:=jJ s2 b2;refine⟨y4 (by omega) b1,y4 (by omega) b2,dy g1 f1,dy g2 f1,dy g3 f2,dy g4 f2,few,few,few,w ⟨_,_,_,_⟩ ⟨M,0,0,0⟩ ?_⟩
  refine⟨⟨(g1.mul f1).mono (by decide),(g2.mul f1).mono (by decide),(g3.mul f2).mono (by decide),(g4.mul f2).mono (by decide)⟩,⟨bM.mono (by decide),CH.mono (by decide),CH.mono (by decide),CH.mono (by decide)⟩,λq=>?_,λ_=>⟨rfl,rfl⟩,λq=>?_,?_⟩
  ·obtain⟨a1,a2⟩:=hz q;subst a1 a2;refine⟨?_,?_⟩ <;> (show (0:Rat).num*_*_=0; rw [show (0:Rat).num=0 from rfl,Int.zero_mul,Int.zero_mul])
  ·have q0:(M:Rat)=0:=q.1;have q1:M=0:=by exact_mod_cast q0
   omega
  ·have k1:=AR d1 dM1 p1;have k2:=AR c1 dM1 p1;have k3:=AR d2 dM2 p2;have k4:=AR c2 dM2 p2;refine⟨?_,?_,?_,?_⟩ <;> simp only [I4.v,k1,k2,k3,k4,show((0:Int):Rat)=0 from rfl]
   ·grind
   ·rw [<- e1]; grind
   ·grind
   ·rw [<- e2]; grind
theorem Jw {f:Fl} (hp:Sz 160 f.p) (hq:Sz 160 f.q) (hr:Sz 160 f.r) (hs:Sz 160 f.s):Bt 1921 (wO f):=
 wz (n:=1) (by decide) M9 λq h=>by
  simp only [P8,Qh,or_false] at h;rcases h with rfl | rfl | rfl | rfl
  ·exact hp.mono (by decide)
  ·exact hq.mono (by decide)
  ·exact hr.mono (by decide)
  ·exact hs.mono (by decide)
def gF:bC:=λds S k=>∃ (t b:I4) (f:Fl),ds=[qD t b,Oz f]/\B4 30000 t/\B4 30000 b/\Sz 160 f.p/\Sz 160 f.q/\Sz 160 f.r/\Sz 160 f.s/\∀ S',cC S S'->k (qD (OC f t b) (N9 f b)) S'
theorem cM:ao ["quotient","move","bottom","grown","shifted"] ["quotient","move"] (am gq):=cA
theorem oK (Fn:bL K "quotient_moved" "quotient_moved" gq f fd) (b8:aE P w K mg base "way_mirrored" 1 fK) (cr:aE P w K mg base "common_bottom" 35 dW) (bI:aE P w K mg base "way_times" 1 js) (cR:aE P w K mg base "wholes_over" 1 gI) (gC:aE P w K mg base "way_plus" 1 k8):
  aI P w K mg base ca 36 f fd ["quotient","move"] (cg K gF):=by
 refine Fn.okJ cM (λds S k h=>?_) (λcdv A outer s H E hr=>⟨_,(af (aC (fb (ah ag (ac 1) ae (λ_ _=>rfl))) (aj (ai (i:=0) cM.nd (au (aa (dq b8 hr (aa (ah ag (ac 0) ae (λ_ _=>rfl)) ad)) (aa (dq b8 hr (aa (ah ag (ac 0) ae (λ_ _=>rfl)) ad)) ad))))) aG) (af (ai (i:=2) cM.nd (dq cr hr (aa (ar cX (ah ag (ac 1) ae (λ_ _=>rfl)) (ah ag (ac 1) ae (λ_ _=>rfl))) ad))) (af (ai (i:=3) cM.nd (dq bI hr (aa (ah ag (ac 0) ae (λ_ _=>rfl)) (aa (dq cR hr (aa (ah ag (ac 1) ae (λ_ _=>rfl)) (aa (ac 2) ad))) ad)))) (af (ai (i:=4) cM.nd (dq bI hr (aa (ah ag (ac 0) ae (λ_ _=>rfl)) (aa (dq cR hr (aa (ah ag (ac 1) ae (λ_ _=>rfl)) (aa (ac 2) ad))) ad)))) (aj (ak (au (aa (dq gC hr (aa (ac 3) (aa (ac 4) ad))) (aa (dq bI hr (aa (ah ag (ac 0) ae (λ_ _=>rfl)) (aa (au (aa (ac 2) (aa ae ad))) ad))) ad))))))))),λds S k h=>?_⟩)
 ·obtain⟨_,_,_,rfl,_⟩:=h
  rfl
 ·obtain⟨t,b,f,rfl,ht,hb,hp,hq,hr,hs,w⟩:=h;have bM:=Jw hp hq hr hs;refine KN (λL S'=>S'=S/\L=[some (qD (zL t f.m) (zL b f.m)),some (Oz f),none,none,none]) ?_ (λgo=>?_)
  ·rintro L S' ⟨rfl,rfl⟩;refine⟨by simp,by simp,Qi rfl,[f.p,f.q,f.r,f.s],rfl,λq h=>?_,by show 4<=4; decide,?_⟩
   ·simp only [P8,Qh,or_false] at h;rcases h with rfl | rfl | rfl | rfl
    ·exact hp.mono (by decide)
    ·exact hq.mono (by decide)
    ·exact hr.mono (by decide)
    ·exact hs.mono (by decide)
   ·have ct:=(ht.cj f.m).mono (n:=200000) (by decide)
    have cb:=(hb.cj f.m).mono (n:=200000) (by decide)
    refine⟨f.p,f.q,wO f,rfl,hp.mono (by decide),hq.mono (by decide),bM.mono (by decide),λS1 p1 e1 h1=>⟨_,_,_,_,rfl,.inr ⟨p1,rfl,h1⟩,ct,(jJ hp bM).mono (by decide),(jJ hq bM).mono (by decide),?_⟩⟩
    refine⟨f.r,f.s,wO f,rfl,hr.mono (by decide),hs.mono (by decide),bM.mono (by decide),λS2 p2 e2 h2=>⟨_,_,_,_,rfl,.inr ⟨p2,rfl,h2⟩,cb,(jJ hr bM).mono (by decide),(jJ hs bM).mono (by decide),?_⟩⟩
    exact⟨_,_,rfl,few,_,_,_,0,rfl,.inl rfl,cb,bM.mono (by decide),CH.mono (by decide),few,w _ (e1.trans e2)⟩
  ·obtain⟨p,q,r,s,m⟩:=f;cases m with
   | false=>exact go _ _ ⟨rfl,rfl⟩
   | true=>exact⟨t,rfl,b,rfl,few,go _ _ ⟨rfl,rfl⟩⟩
theorem Gk {n:Nat} {i j:Int}:jQ n (.int i) (.int j)=some (i == j):=by cases n <;> rfl
theorem M5 {i:I4}:jQ 8 (wD i) (.tup [.int 0,.int 0,.int 0,.int 0])=some (JC i):=by
 show jM (jQ 7) [.int i.a,.int i.b,.int i.c,.int i.d] [.int 0,.int 0,.int 0,.int 0]=_
 simp only [jM,Gk]
 rfl
def eF:bC:=λds S k=>∃ (t b:I4) (x y p:Rat),ds=[qD t b,W x y,fr p]/\B4 30000 t/\B4 30000 b/\Sz 160 x/\Sz 160 y/\Sz 160 p/\JC (CS x y t b)=false/\∀ S',cC S S'->k (qD (OW x y p t b) (OY x y p t b)) S'
theorem bg:ao ["quotient","middle","power","bottom","wholes","way","swapped","from_middle"] ["quotient","middle","power"] (am eI):=cA
theorem mH (Fn:bL K "quotient_inverted" "quotient_inverted" eI f fd) (cr:aE P w K mg base "common_bottom" 35 dW) (cR:aE P w K mg base "wholes_over" 1 gI) (mh:aE P w K mg base "way_minus" 1 lX) (bI:aE P w K mg base "way_times" 1 js) (b8:aE P w K mg base "way_mirrored" 1 fK) (gC:aE P w K mg base "way_plus" 1 k8):
  aI P w K mg base ca 36 f fd ["quotient","middle","power"] (cg K eF):=by
 refine Fn.okJ bg (λds S k h=>?_) (λcdv A outer s H E hr=>⟨_,(af (ai (i:=3) bg.nd (dq cr hr (aa (ac 1) ad))) (af (ai (i:=4) bg.nd (dq cR hr (aa (ac 1) (aa (ac 3) ad)))) (af (ai (i:=5) bg.nd (dq mh hr (aa (dq bI hr (aa (ah ag (ac 0) ae (λ_ _=>rfl)) (aa (au (aa (ac 3) (aa ae ad))) ad))) (aa (dq bI hr (aa (ah ag (ac 0) ae (λ_ _=>rfl)) (aa (ac 4) ad))) ad)))) (af (aC (ax (vn hr) (ac 5) (au (aa ae (aa ae (aa ae (aa ae ad))))) (aF _)) (aj dj) aG) (af (ai (i:=5) bg.nd (dq b8 hr (aa (ac 5) ad))) (af (ai (i:=6) bg.nd (dq bI hr (aa (dq b8 hr (aa (ah ag (ac 0) ae (λ_ _=>rfl)) ad)) (aa (au (aa (ar aM (ar aM (ah ag (ac 2) ae (λ_ _=>rfl)) (ac 3)) (ac 3)) (aa ae ad))) ad)))) (af (ai (i:=7) bg.nd (dq bI hr (aa (ac 5) (aa (au (aa (ar aM (ah ag (ac 2) ae (λ_ _=>rfl)) (ah ag (ac 4) ae (λ_ _=>rfl))) (aa (ar aM (ah ag (ac 2) ae (λ_ _=>rfl)) (ah ag (ac 4) ae (λ_ _=>rfl))) ad))) ad)))) (aj (ak (au (aa (dq gC hr (aa (ac 7) (aa (ac 6) ad))) (aa (dq bI hr (aa (ac 5) (aa (au (aa (ar aM (ah ag (ac 2) ae (λ_ _=>rfl)) (ac 3)) (aa ae ad))) ad))) ad)))))))))))),λds S k h=>?_⟩)
 ·obtain⟨_,_,_,_,_,rfl,_⟩:=h
  rfl
 ·obtain⟨t,b,x,y,p,rfl,ht,hb,hx,hy,hp,h0,w⟩:=h;have bm:Bt 961 (dN 1 [x,y]):=wz (n:=1) (by decide) M9 λq h=>by
   simp only [P8,Qh,or_false] at h;rcases h with rfl | rfl
   ·exact hx.mono (by decide)
   ·exact hy.mono (by decide)
  have hxy:∀ q∈[x,y],Sz 480 q:=λq h=>by
   simp only [P8,Qh,or_false] at h;rcases h with rfl | rfl
   ·exact hx.mono (by decide)
   ·exact hy.mono (by decide)
  have bX:=jJ hx bm;have bY:=jJ hy bm;have bW:B4 31500 (CS x y t b):=((ht.times (bm.mono (n:=1200) (by decide)) (CH.mono (by decide))).minus (hb.times (bX.mono (n:=1200) (by decide)) (bY.mono (n:=1200) (by decide)))).mono (by decide)
  refine⟨[x,y],rfl,hxy,by show 2<=4; decide,x,y,_,rfl,hx.mono (by decide),hy.mono (by decide),bm.mono (by decide),λS1 p1 e1 h1=>?_⟩
  refine⟨few,t,_,_,0,rfl,.inl rfl,ht.mono (by decide),bm.mono (by decide),CH.mono (by decide),b,_,_,_,rfl,.inr ⟨p1,rfl,h1⟩,hb.mono (by decide),bX.mono (by decide),bY.mono (by decide),_,_,rfl,few,_,M5,xy (λz=>?_) (λz=>?_)⟩
  ·exact absurd (z.symm.trans h0) (by decide)
  ·refine⟨_,rfl,_,rfl,dy hp.num bm,dy (hp.num.mul bm) bm,few,_,_,_,0,rfl,.inl rfl,hb.conj.mono (by decide),((hp.num.mul bm).mul bm).mono (by decide),CH.mono (by decide),?_⟩
   refine⟨_,_,h1,rfl,dy hp.den bX,_,_,h1,rfl,dy hp.den bY,few,_,_,_,_,rfl,.inl rfl,bW.conj.mono (by decide),(hp.den.mul bX).mono (by decide),(hp.den.mul bY).mono (by decide),?_⟩
   exact⟨_,_,rfl,dy hp.den bm,few,_,_,_,0,rfl,.inl rfl,bW.conj.mono (by decide),(hp.den.mul bm).mono (by decide),CH.mono (by decide),few,w _ e1⟩
def yM:bC:=λds S k=>∃ l:Ld,ds=[NJ l]/\uY l=false/\tU l/\s9 l/\k (Oz (vj l)) S
theorem oX:ao ["lead","by","across","square"] ["lead"] (am zM):=cA
theorem Hg (Fn:bL K "flat" "flat" zM f fd) (aq:aE P w K mg base "product_of_ways" 36 aQ) (bq:aE P w K mg base "moved" 36 gL) (aY:aE P w K mg base "over" 35 fB) (oB:aE P w K mg base "turned" 36 sO) (aD:aE P w K mg base "times" 35 dU) (aJ:aE P w K mg base "plain_way" 36 cn) (oU:Dg K mg "ORIGIN" [[0,1],[0,1]]) (a9:t5 K mg "NOUGHT" [0,1]) (Dk:t5 K mg "ONE" [1,1]):
  aI P w K mg base ca 37 f fd ["lead"] (cg K yM):=by
 refine Fn.okJ oX (λds S k h=>?_) (λcdv A outer s H E hr=>⟨_,(af (aC (ax nA (ah ag (ac 0) ae (λ_ _=>rfl)) rO (aF _)) (aj (ak (au (aa (au (aa (fZ Dk rfl) (aa (fZ a9 rfl) ad))) (aa (eZ (ac 0) (cf ae) gP) (aa fA ad)))))) aG) (af (aC (ax nA (ah ag (ac 0) ae (λ_ _=>rfl)) rO (aF _)) (af (ai (i:=2) oX.nd (eZ (ac 0) (cf ae) (cf ae))) (af (ai (i:=3) oX.nd (dq aq hr (aa (ac 2) (aa (ac 2) ad)))) (af (ai (i:=1) oX.nd (dq bq hr (aa (Ac oU rfl) (aa (dq oB hr (aa (ac 2) (aa (ac 2) ad))) (aa (dq aY hr (aa (au (aa (lQ lM ae) (aa ae ad))) (aa (ac 3) ad))) ad))))) (aj (ak (au (aa (ac 1) (aa (dq bq hr (aa (Ac oU rfl) (aa (ac 2) (aa (dq aY hr (aa (dq aD hr (aa (au (aa (lQ lM ae) (aa ae ad))) (aa (ah ag (ac 0) ae (λ_ _=>rfl)) ad))) (aa (ac 3) ad))) ad)))) (aa fA ad))))))))) aG) (af (ai (i:=1) oX.nd (uV (ax nA (ah ag (ac 0) ae (λ_ _=>rfl)) rO (aF _)) (au (aa (ah ag (ac 0) ae (λ_ _=>rfl)) (aa (fZ a9 rfl) ad))) (eZ (ac 0) (cf ae) gP))) (aj (ak (au (aa (ac 1) (aa (dq aJ hr (aa (dq oB hr (aa (eZ (ac 0) (cf ae) (cf ae)) (aa (ac 1) ad))) (aa (eZ (ac 0) (cf ae) (cf ae)) ad))) (aa fA ad))))))))),λds S k h=>?_⟩)
 ·obtain⟨_,rfl,_⟩:=h
  rfl
 ·obtain⟨l,rfl,hl,ok,sz,w⟩:=h;have c31:¬ (HT.dL 3 0 (some 1)=0/\HT.dL 3 3 none=3):=by decide
  have c4:¬ (HT.dL 4 0 (some 1)=0/\HT.dL 4 4 (some 3)=4):=by decide
  have c5:¬ (HT.dL 5 0 (some 1)=0/\HT.dL 5 5 (some 3)=5):=by decide
  have c53:¬ (HT.dL 5 0 (some 3)=0/\HT.dL 5 5 none=5):=by decide
  have s1:Sz 2 (-1:Rat):=⟨by decide,by decide⟩
  have s2:Sz 2 (-2:Rat):=⟨by decide,by decide⟩
  cases l with
  | shift x y=>exact⟨few,c31,few,w⟩
  | mirror a b c=>
   obtain⟨ha,hb,hc⟩:=sz;have n:a*a+b*b≠0:=ok;have sA:=(ha.mul ha).add (hb.mul hb);have t1:=(ha.mul ha).sub (hb.mul hb);have t2:=(hb.mul ha).add (ha.mul hb);have v1:=s1.div sA n;have v2:=(s2.mul hc).div sA n;exact⟨c4,a,b,a,b,rfl,ha.mono (by decide),hb.mono (by decide),ha.mono (by decide),hb.mono (by decide),a,b,a,b,rfl,ha.mono (by decide),hb.mono (by decide),ha.mono (by decide),hb.mono (by decide),few,-1,_,rfl,n,s1.mono (by decide),sA.mono (by decide),0,0,_,_,_,rfl,Sz.zero.mono (by decide),Sz.zero.mono (by decide),t1.mono (by decide),t2.mono (by decide),v1.mono (by decide),few,-2,c,rfl,s2.mono (by decide),hc.mono (by decide),_,_,rfl,n,(s2.mul hc).mono (by decide),sA.mono (by decide),0,0,a,b,_,rfl,Sz.zero.mono (by decide),Sz.zero.mono (by decide),ha.mono (by decide),hb.mono (by decide),v2.mono (by decide),few,w⟩
  | grow x y b=>
   obtain⟨hx,hy,hb⟩:=sz;have z0:Sz 24 (0:Rat):=Sz.zero.mono (by decide)
   exact⟨few,c4,x,y,b,0,rfl,hx.mono (by decide),hy.mono (by decide),hb.mono (by decide),z0.mono (by decide),c4,_,_,x,y,rfl,((hb.mul hx).sub (z0.mul hy)).mono (by decide),((z0.mul hx).add (hb.mul hy)).mono (by decide),hx.mono (by decide),hy.mono (by decide),few,w⟩
  | turn x y p q=>
   obtain⟨hx,hy,P,Q,E,e0,bP,bQ,bE,ep,eq⟩:=sz;have hp:Sz 40 p:=ov e0 bE ep bP;have hq:Sz 40 q:=ov e0 bE eq bQ;exact⟨c53,c5,x,y,p,q,rfl,hx.mono (by decide),hy.mono (by decide),hp.mono (by decide),hq.mono (by decide),c5,_,_,x,y,rfl,((hp.mul hx).sub (hq.mul hy)).mono (by decide),((hq.mul hx).add (hp.mul hy)).mono (by decide),hx.mono (by decide),hy.mono (by decide),few,w⟩
  | invert x y p=>cases hl
set_option maxHeartbeats 4000000
theorem Io {u e h x1 x2:Rat} {w n K L:Int} (hB:Bs u e h w) (n0:n≠0) (e1:x1*(n:Rat)=K) (e2:x2*(n:Rat)=L*h):N u x1 x2=.tup [fr (Rat.divInt K n),fr (ss (Rat.divInt L n)*(w:Rat))]:=by
 have nr:(n:Rat)≠0:=λz=>n0 (by exact_mod_cast z)
 have a1:x1=Rat.divInt K n:=by rw [QC,<- e1]; grind
 have a2:x2=Rat.divInt L n*h:=by
  rw [QC];have:x2=(L*h) / (n:Rat):=by rw [<- e2]; grind
  rw [this]; grind
 unfold N;rw [a2,Dt,u9 hB.hn,hB.hw,a1]
 congr 3
 grind
def nT:bC:=λds S k=>∃ (u e h:Rat) (z:Z4) (w:Int) (t b:I4),ds=[qD t b,fr (e*e*u)]/\Bs u e h w/\Sz 2100 (e*e*u)/\Bt 4100 w/\B4 30000 t/\B4 30000 b/\OZ h z w t b/\∀ S',cC S S'->k (Pq u z.1 z.2) S'
theorem bZ:ao ["quotient","base","under","top","bottom","across","square","norm","told","by","product","surd"] ["quotient","base"] (am oh):=cA
theorem x9 (Fn:bL K "point_of" "point_of" oh f fd) (jq:aE P w K mg base "surd_plus" 1 lu) (cO:aE P w K mg base "surd_times" 1 jO) (fQ:aE P w K mg base "joined" 36 l_) (cZ:aE P w K mg base "ratio" 34 gO):
  aI P w K mg base ca 37 f fd ["quotient","base"] (cg K nT):=by
 refine Fn.okJ bZ (λds S k h=>?_) (λcdv A outer s H E hr=>⟨_,(af (ai (i:=2) bZ.nd (ar aM (ah ag (ac 1) ae (λ_ _=>rfl)) (ah ag (ac 1) ae (λ_ _=>rfl)))) (af (ai (i:=3) bZ.nd (au (aa (eZ (ah ag (ac 0) ae (λ_ _=>rfl)) gP (cf ae)) (aa (eZ (ah ag (ac 0) ae (λ_ _=>rfl)) (cf ae) gP) ad)))) (af (ai (i:=4) bZ.nd (au (aa (eZ (ah ag (ac 0) ae (λ_ _=>rfl)) gP (cf ae)) (aa (eZ (ah ag (ac 0) ae (λ_ _=>rfl)) (cf ae) gP) ad)))) (af (ai (i:=5) bZ.nd (au (aa (lQ lM (ah ag (ah ag (ac 4) ae (λ_ _=>rfl)) ae (λ_ _=>rfl))) (aa (lQ lM (ah ag (ah ag (ac 4) ae (λ_ _=>rfl)) ae (λ_ _=>rfl))) ad)))) (af (ai (i:=6) bZ.nd (dq jq hr (aa (dq cO hr (aa (ah ag (ac 4) ae (λ_ _=>rfl)) (aa (ah ag (ac 4) ae (λ_ _=>rfl)) (aa (ac 2) ad)))) (aa (dq cO hr (aa (ah ag (ac 4) ae (λ_ _=>rfl)) (aa (ah ag (ac 4) ae (λ_ _=>rfl)) (aa (ac 2) ad)))) ad)))) (af (ai (i:=7) bZ.nd (ar jZ (ar aM (ah ag (ac 6) ae (λ_ _=>rfl)) (ah ag (ac 6) ae (λ_ _=>rfl))) (ar aM (ar aM (ah ag (ac 6) ae (λ_ _=>rfl)) (ah ag (ac 6) ae (λ_ _=>rfl))) (ac 2)))) (af (ai (i:=8) bZ.nd (iV ad)) (af (fh PassesOwn.never rfl (au (aa (ac 4) (aa (au (aa (ac 5) (aa (ah ag (ac 4) ae (λ_ _=>rfl)) ad))) ad))) (aP (i:=9) bZ.nd) (af (ai (i:=10) bZ.nd (dq jq hr (aa (dq cO hr (aa (ah ag (ac 3) ae (λ_ _=>rfl)) (aa (ah ag (ac 9) ae (λ_ _=>rfl)) (aa (ac 2) ad)))) (aa (dq cO hr (aa (ah ag (ac 3) ae (λ_ _=>rfl)) (aa (ah ag (ac 9) ae (λ_ _=>rfl)) (aa (ac 2) ad)))) ad)))) (af (ai (i:=11) bZ.nd (dq cO hr (aa (ac 10) (aa (au (aa (ah ag (ac 6) ae (λ_ _=>rfl)) (aa (lQ lM (ah ag (ac 6) ae (λ_ _=>rfl))) ad))) (aa (ac 2) ad))))) (aj (mU (Ec (ac 8) (dq fQ hr (aa (dq cZ hr (aa (ah ag (ac 11) ae (λ_ _=>rfl)) (aa (ac 7) ad))) (aa (dq cZ hr (aa (ah ag (ac 11) ae (λ_ _=>rfl)) (aa (ac 7) ad))) (aa (au (aa (ac 2) (aa ae ad))) ad)))))))))) (aj (ak (au (aa (ah ag (ac 8) ae (λ_ _=>rfl)) (aa (ah ag (ac 8) ae (λ_ _=>rfl)) ad))))))))))))),λds S k h=>?_⟩)
 ·obtain⟨_,_,_,_,_,_,_,rfl,_⟩:=h
  rfl
 ·obtain⟨u,e,h,z,w,t,b,rfl,hB,he,bw,bt,bb,o,q⟩:=h;have wd:=hB.wd;have s0:=Of bb bw;have s1:=Op bb;have nn:=bn bb bw;have x0:=Pn bt bb bw;have x1:=PD bt bb;have y0:=O9 bt bb bw;have y1:=Pu bt bb;have X0:=O5 x0 x1 s0 s1 bw;have X1:=OX x0 x1 s0 s1;have Y0:=O5 y0 y1 s0 s1 bw;have Y1:=OX y0 y1 s0 s1;have fin:N u z.1.1 z.1.2=.tup [fr (Rat.divInt (Fj w (CA w t b) (CD t b) (qS w b) (qW b)) (jn w b)),fr (ss (Rat.divInt (Fi (CA w t b) (CD t b) (qS w b) (qW b)) (jn w b))*(w:Rat))]/\N u z.2.1 z.2.2=.tup [fr (Rat.divInt (Fj w (CF w t b) (CG t b) (qS w b) (qW b)) (jn w b)),fr (ss (Rat.divInt (Fi (CF w t b) (CG t b) (qS w b) (qW b)) (jn w b))*(w:Rat))]:=
   ⟨Io hB o.n0 o.x1 o.x2,Io hB o.n0 o.y1 o.y2⟩
  unfold Pq at q;rw [fin.1,fin.2] at q;have hwz:Sz 5000 (w:Rat):=⟨bw.mono (by decide),by show Bt 5000 1; decide⟩
  have c1:¬ (HT.dL 4 0 none=0/\HT.dL 4 4 (some 2)=4):=by decide
  have c2:¬ (HT.dL 4 0 (some 2)=0/\HT.dL 4 4 none=4):=by decide
  have m4:∀ {n:Nat} {x:Int},Bt n x->n<=200000->Bt 200000 x:=λh hn=>h.mono hn
  refine⟨dy he.num he.den,c1,c2,few,c1,c2,few,few,?_⟩;dsimp only;rw [wd];have ba:=m4 bb.a (by decide)
  have bb':=m4 bb.b (by decide)
  have bc:=m4 bb.c (by decide)
  have bd:=m4 bb.d (by decide)
  have ta:=m4 bt.a (by decide)
  have tb:=m4 bt.b (by decide)
  have tc:=m4 bt.c (by decide)
  have td:=m4 bt.d (by decide)
  have bW:=m4 bw (by decide)
  refine⟨_,_,_,_,_,_,_,rfl,ba,bb',ba,bb',bW,rfl,rfl,_,_,_,_,_,_,_,rfl,bc,bd,bc,bd,bW,rfl,rfl,_,_,_,_,qS w b,qW b,rfl,rfl,rfl,?_⟩;refine⟨dy s0 s0,dy s1 s1,dy (s1.mul s1) bw,few,λp hp=>⟨few,few,_,rfl,?_⟩⟩
  have hn:qS w b*qS w b - qW b*qW b*w=jn w b:=rfl;generalize hR1:D.tup [fr (Rat.divInt (Fj w (CA w t b) (CD t b) (qS w b) (qW b)) (jn w b)),fr (ss (Rat.divInt (Fi (CA w t b) (CD t b) (qS w b) (qW b)) (jn w b))*(w:Rat))]=R1 at q;generalize hR2:D.tup [fr (Rat.divInt (Fj w (CF w t b) (CG t b) (qS w b) (qW b)) (jn w b)),fr (ss (Rat.divInt (Fi (CF w t b) (CG t b) (qS w b) (qW b)) (jn w b))*(w:Rat))]=R2 at q;refine dH (λr L S'=>cC S S'/\∃ l9 l10 l11,L=[some (qD t b),some (fr (e*e*u)),some (.int w),some (.tup [.tup [.int t.a,.int t.b],.tup [.int t.c,.int t.d]]),some (.tup [.tup [.int b.a,.int b.b],.tup [.int b.c,.int b.d]]),some (.tup [.int (-b.c),.int (-b.d)]),some (.tup [.int (qS w b),.int (qW b)]),some (.int (jn w b)),some (.ref p),l9,l10,l11]/\
   ((r=[.tup [.tup [.int b.a,.int b.b],.tup [.int b.c,.int b.d]],.tup [.tup [.int (-b.c),.int (-b.d)],.tup [.int b.a,.int b.b]]]/\S' p=some (.lst []))\/(r=[.tup [.tup [.int (-b.c),.int (-b.d)],.tup [.int b.a,.int b.b]]]/\S' p=some (.lst [R1]))\/(r=[]/\S' p=some (.lst [R1,R2])))) (λ_ _ _ _=>trivial) ?_ ?_ _ _ _ ⟨cC.new hp,_,_,_,rfl,.inl ⟨rfl,av⟩⟩
  ·rintro d r L S1 N1 ⟨e1,l9,l10,l11,rfl,hr⟩ hN;rcases hr with ⟨er,h1⟩ | ⟨er,h1⟩ | ⟨er,h1⟩
   ·cases er;refine⟨_,_,_,_,_,_,_,rfl,ta,tb,ba,bb',bW,rfl,rfl,_,_,_,_,_,_,_,rfl,tc,td,bc,bd,bW,rfl,rfl,_,_,_,_,CA w t b,CD t b,rfl,rfl,rfl,?_⟩;refine⟨few,_,_,_,_,_,Fj w (CA w t b) (CD t b) (qS w b) (qW b),Fi (CA w t b) (CD t b) (qS w b) (qW b),rfl,m4 x0 (by decide),m4 x1 (by decide),m4 s0 (by decide),m4 s1.neg (by decide),bW,rfl,rfl,⟨_,h1⟩,?_⟩
    refine⟨o.n0,nn.mono (by decide),o.n0,nn.mono (by decide),few,_,_,(w:Rat),rfl,Sz.divInt (X1.mono (by decide)) (nn.mono (by decide)) o.n0,hwz.mono (by decide),[],h1,HI (by decide),?_⟩
    rw [hR1];exact hN _ _ ⟨e1.put hp,_,_,_,rfl,.inr (.inl ⟨rfl,av⟩)⟩
   ·cases er;refine⟨_,_,_,_,_,_,_,rfl,ta,tb,bc.neg,bd.neg,bW,rfl,rfl,_,_,_,_,_,_,_,rfl,tc,td,ba,bb',bW,rfl,rfl,_,_,_,_,CF w t b,CG t b,rfl,rfl,rfl,?_⟩;refine⟨few,_,_,_,_,_,Fj w (CF w t b) (CG t b) (qS w b) (qW b),Fi (CF w t b) (CG t b) (qS w b) (qW b),rfl,m4 y0 (by decide),m4 y1 (by decide),m4 s0 (by decide),m4 s1.neg (by decide),bW,rfl,rfl,⟨_,h1⟩,?_⟩
    refine⟨o.n0,nn.mono (by decide),o.n0,nn.mono (by decide),few,_,_,(w:Rat),rfl,Sz.divInt (Y1.mono (by decide)) (nn.mono (by decide)) o.n0,hwz.mono (by decide),_,h1,HI (by show 1 < 300; decide),?_⟩
    rw [hR2];exact hN _ _ ⟨e1.put hp,_,_,_,rfl,.inr (.inr ⟨rfl,av⟩)⟩
   ·cases er
  ·rintro L S1 ⟨e1,l9,l10,l11,rfl,hr⟩;rcases hr with ⟨er,h1⟩ | ⟨er,h1⟩ | ⟨er,h1⟩
   ·cases er
   ·cases er
   ·exact⟨_,_,h1,rfl,_,_,h1,rfl,few,q _ e1⟩
set_option maxHeartbeats 4000000
def IsL (S:DH) (y:D) (ds:List D):Prop:=y=.tup ds\/∃ a,y=.ref a/\S a=some (.lst ds)
theorem uX {S:DH} {y:D} {ds:List D} (h:IsL S y ds):∃ o,bj S y=some (ds,o)/\∀ S',cC S S'->ir (ds,o) S':=by
 rcases h with rfl | ⟨a,rfl,e⟩
 ·exact⟨none,rfl,λ_ _=>trivial⟩
 ·exact⟨some a,by simp only [bj,e],λS' x=>x _ _ e⟩
theorem E8 {u:Rat} {l:Ld} {ls:List Ld} {z z':Z4} (h:Ia u (l::ls) z=some z'):∃ z1,Av u l z=some z1/\Ia u ls z1=some z':=by
 unfold Ia at h;cases e:Av u l z with
 | none=>rw [e] at h; cases h
 | some z1=>rw [e] at h; exact⟨z1,rfl,h⟩
def CP:bC:=λds S k=>∃ (u:Rat) (z z':Z4) (y:D) (ls:List Ld),ds=[y,Pq u z.1 z.2]/\IsL S y (ls.map NJ)/\Fd u/\Sz 4 u/\Sz 1000 z.1.1/\Sz 1000 z.1.2/\Sz 1000 z.2.1/\Sz 1000 z.2.2/\ls.length<=6/\(∀ l∈ls,tU l/\s9 l)/\Ia u ls z=some z'/\∀ S',cC S S'->k (Pq u z'.1 z'.2) S'
theorem p9:ao ["leads","point","base","quotient","lead"] ["leads","point"] (am EC):=cA
theorem Ke (Fn:bL K "led" "led" EC f fd) (bv:aE P w K mg base "field_base" 2 ef) (jy:aE P w K mg base "quotient_of" 39 jA) (eJ:aE P w K mg base "quotient_inverted" 36 eF) (gB:aE P w K mg base "quotient_moved" 36 gF) (zw:aE P w K mg base "flat" 37 yM) (om:aE P w K mg base "point_of" 37 nT):
  aI P w K mg base ca 40 f fd ["leads","point"] (cg K CP):=by
 refine Fn.okJ p9 (λds S k h=>?_) (λcdv A outer s H E hr=>⟨_,(af (ai (i:=2) p9.nd (dq bv hr (aa (ah ag (ac 1) ae (λ_ _=>rfl)) (aa (ah ag (ac 1) ae (λ_ _=>rfl)) ad)))) (af (ai (i:=3) p9.nd (dq jy hr (aa (ac 1) (aa (ac 2) ad)))) (af (fh PassesOwn.never rfl (ac 0) (aP (i:=4) p9.nd) (aj (aC (ax nA (ah ag (ac 4) ae (λ_ _=>rfl)) rO (aF _)) (aj (ai (i:=3) p9.nd (dq eJ hr (aa (ac 3) (aa (eZ (ac 4) (cf ae) (cf ae)) (aa (ah ag (ac 4) ae (λ_ _=>rfl)) ad)))))) (aj (ai (i:=3) p9.nd (dq gB hr (aa (ac 3) (aa (dq zw hr (aa (ac 4) ad)) ad)))))))) (aj (ak (dq om hr (aa (ac 3) (aa (ac 2) ad)))))))),λds S k h=>?_⟩)
 ·obtain⟨_,_,_,_,_,rfl,_⟩:=h
  rfl
 ·obtain⟨u,z,z',y,ls,rfl,hy,fd,hu,h1,h2,h3,h4,hl,hok,e,w⟩:=h;have u0:=fd.pos;refine⟨u,_,_,_,_,rfl,u0,u,z,rfl,u0,hu,h1,h2,h3,h4,λhh ww t b hB bw I=>?_⟩
  obtain⟨o,hi,ho⟩:=uX hy;refine⟨_,hi,?_⟩;refine dH (λr L S'=>cC S S'/\∃ (rs:List Ld) (zc:Z4) (t b:I4) (n:Nat) (l4:Option D),L=[some y,some (Pq u z.1 z.2),some (fr (pick z.1.2 z.2.2*pick z.1.2 z.2.2*u)),some (qD t b),l4]/\r=rs.map NJ/\Ia u rs zc=some z'/\ay u hh n zc t b/\n+160*rs.length<=24000/\∀ l∈rs,tU l/\s9 l) (λr L S' h=>ho S' h.1) ?_ ?_ _ _ _ ⟨cC.refl _,ls,z,t,b,23000,none,rfl,rfl,e,I,by omega,hok⟩
  ·rintro d r L S1 N1 ⟨e1,rs,zc,t,b,n,l4,rfl,er,ea,I,hn,hr⟩ hN;cases rs with
   | nil=>cases er
   | cons l rs=>
    cases er;have hn:n+160*(rs.length+1)<=24000:=hn;have lo:=(hr l P_).1;have lz:=(hr l P_).2;have tl:∀ l∈rs,tU l/\s9 l:=λm hm=>hr m (Qa _ hm)
    obtain⟨z1,es,ea2⟩:=E8 ea;have mv:uY l=false->ay u hh (n+160) z1 (OC (vj l) t b) (N9 (vj l) b):=λhi=>by
     rw [Fw lo hi] at es;cases es;exact I.move lo lz hi
    cases l with
    | invert x y p=>
     obtain⟨h0,I2⟩:=I.inv u0 fd.no lz es;exact⟨(by decide:¬ (HT.dL 4 0 (some 1)=0/\HT.dL 4 4 (some 3)=4)),t,b,x,y,p,rfl,I.bt.mono (by omega),I.bb.mono (by omega),lz.1.mono (by decide),lz.2.1.mono (by decide),lz.2.2.mono (by decide),h0,λS2 e2=>hN _ _ ⟨e1.trans e2,rs,z1,_,_,n+160,_,rfl,rfl,ea2,I2,by omega,tl⟩⟩
    | _=>
     obtain⟨f1,f2,f3,f4⟩:=MW lo lz rfl;exact⟨_,rfl,rfl,lo,lz,t,b,_,rfl,I.bt.mono (by omega),I.bb.mono (by omega),f1,f2,f3,f4,λS2 e2=>hN _ _ ⟨e1.trans e2,rs,z1,_,_,n+160,_,rfl,rfl,ea2,mv rfl,by omega,tl⟩⟩
  ·rintro L S1 ⟨e1,rs,zc,t,b,n,l4,rfl,er,ea,I,hn,_⟩;cases rs with
   | cons _ _=>cases er
   | nil=>
    cases ea;exact⟨u,_,hh,_,ww,t,b,rfl,hB,((((h2.pick h4).mul (h2.pick h4)).mul hu).mono (by decide)),bw,I.bt.mono (by omega),I.bb.mono (by omega),Rz.out u0 fd.no hB.hw I.nz I.r,λS2 e2=>w _ (e1.trans e2)⟩
set_option maxHeartbeats 4000000
def iW:bC:=λds S k=>∃ (ns:List Int) (i:Int),ds=[.rl (List.map D.int ns),.int i]/\0<=i/\∀ c:Int,k (.int c) S
theorem qM:ao ["script","k"] ["script","k"] (am iZ):=cA
theorem qZ (Fn:bL K "_law_cell_at" "_law_cell_at" iZ f fd) (fY:mg "len"=none):
  aI P w K mg base ca 1 f fd ["script","k"] (cg K iW):=by
 refine Fn.okJ qM (λds S k h=>?_) (λcdv A outer s H E hr=>⟨_,(af (aC (ax uG (ac 1) (cI wQ rfl fY qe (aa (ac 0) ad)) (aF _)) (aj (ak (ah ag (ac 0) (ac 1) (λ_ _=>rfl)))) aG) (aj (ak ae))),λds S k h=>?_⟩)
 ·obtain⟨_,_,rfl,_⟩:=h
  rfl
 ·obtain⟨ns,i,rfl,h0,q⟩:=h;refine aU (λhl=>?_) (λ_=>q 0)
  obtain⟨n,rfl⟩:=Int.eq_ofNat_of_zero_le h0;have hn:n < ns.length:=by rw [P5] at hl; omega
  have e:L2.atI (List.map D.int ns) (n:Int)=some (.int ns[n]):=rq (by rw [Qt,Qr hn] <;> rfl)
  exact⟨_,e,q _⟩
def kC:bC:=λds S k=>∃ ns i,ds=[.rl (List.map D.int ns),.int i]/\0<=i/\∀ (p:Addr) (n:Int) (b:Bool),S p=none->(b=false->0<=n/\n < 2147483647)->k (.ref p) (put S p (.lst [.int n,.bl b]))
theorem nI:ao ["script","k","cell"] ["script","k"] (am kN):=cA
theorem ux (Fn:bL K "_law_state" "_law_state" kN f fd) (i8:aE P w K mg base "_law_cell_at" 1 iW):
  aI P w K mg base ca 2 f fd ["script","k"] (cg K kC):=by
 refine Fn.okJ nI (λds S k h=>?_) (λcdv A outer s H E hr=>⟨_,(af (ai (i:=2) nI.nd (dq i8 hr (aa (ac 0) (aa (ac 1) ad)))) (af (aC (ax Oa (ac 2) (ar Id ae ae) (aF _)) (aj (ak (iV (aa (ar jZ (ac 2) (ar Id ae ae)) (aa fA ad))))) aG) (aj (ak (iV (aa (ar pi (ac 2) ae) (aa fA ad))))))),λds S k h=>?_⟩)
 ·obtain⟨_,_,rfl,_⟩:=h
  rfl
 ·obtain⟨ns,i,rfl,h0,q⟩:=h;have hp:BB 10 18:=⟨by decide,by decide,by decide⟩
  refine⟨ns,i,rfl,h0,λc=>⟨hp,aU (λhl=>⟨hp,few,λp hn=>?_⟩) (λhl=>⟨(by show(2147483647:Int)≠0; decide),few,λp hn=>?_⟩)⟩⟩
  ·exact q p _ _ hn (λz=>by cases z)
  ·exact q p _ _ hn (λ_=>⟨QR _ (by decide),Q_ _ (by decide)⟩)
def jk:bC:=λds S k=>∃ a m,ds=[.ref a,.int m]/\0 < m/\Bt 200 m/\vK S a/\∀ r S',0<=r->r < m->Dr a S S'->k (.int r) S'
theorem iE:ao ["state","many","mixed","found"] ["state","many"] (am mz):=cA
theorem wA (Fn:bL K "_law_take" "_law_take" mz f fd):
  aI P w K mg base ca 1 f fd ["state","many"] (cg K jk):=by
 refine Fn.okJ iE (λds S k h=>?_) (λcdv A outer s H E hr=>⟨_,(af (aC (fb (ah ag (ac 0) ae (λ_ _=>rfl))) (af (ai (i:=3) iE.nd (ar pi (ah ag (ac 0) ae (λ_ _=>rfl)) (ac 1))) (af (iU (ar jh (ah ag (ac 0) ae (λ_ _=>rfl)) (ac 1)) (A3 (ac 0) ae)) (aj (ak (ac 3))))) aG) (af (iU (ar pi (ar cX (ar aM (ah ag (ac 0) ae (λ_ _=>rfl)) ae) ae) ae) (A3 (ac 0) ae)) (af (ai (i:=2) iE.nd (ar pi (ar cX (ar cX (ar aM (ah ag (ac 0) ae (λ_ _=>rfl)) (ah ag (ac 0) ae (λ_ _=>rfl))) (ar aM ae (ah ag (ac 0) ae (λ_ _=>rfl)))) ae) ae)) (af (ai (i:=2) iE.nd (ar pi (ar cX (ar aM (ac 2) (ac 2)) (ar aM ae (ac 2))) ae)) (aj (ak (ar pi (ar jh (ac 2) ae) (ac 1)))))))),λds S k h=>?_⟩)
 ·obtain⟨_,_,rfl,_⟩:=h
  rfl
 ·obtain⟨a,m,rfl,hm,hb,⟨n,b,hS,hn⟩,q⟩:=h;have put_dr:∀ (n':Int) (b':Bool),(b'=false->0<=n'/\n' < 2147483647)->Dr a S (put S a (.lst [.int n',.bl b'])):=λn' b' h'=>
   ⟨⟨n',b',av,h'⟩,λc o z e=>by rw [cQ z]; exact e⟩
  refine⟨_,_,hS,LW,?_⟩;cases b with
  | true=>
   refine⟨_,_,hS,yb,(show m≠0 by omega),_,_,hS,yb,y4 (by omega) hb,_,_,hS,Nw,?_⟩
   exact q _ _ (QR _ hm) (Q_ _ hm) (put_dr _ _ λz=>by cases z)
  | false=>
   obtain⟨n0,n1⟩:=hn rfl;have b31:=BE n0 (by omega)
   refine⟨_,_,hS,yb,dy (n:=31) b31 (BE (by decide) (by decide)),(show (2147483647:Int)≠0 by decide),_,_,hS,Nw,?_⟩
   have c0:0<=(n*48271+29).fmod 2147483647:=QR _ (by decide)
   have c1:(n*48271+29).fmod 2147483647 < 2147483647:=Q_ _ (by decide)
   have bx:=BE c0 (by omega)
   refine⟨_,_,av,yb,_,_,av,yb,dy bx bx,_,_,av,yb,dy (m:=31) (BE (by decide) (by decide)) bx,(show (2147483629:Int)≠0 by decide),?_⟩
   have d0:0<=((n*48271+29).fmod 2147483647*(n*48271+29).fmod 2147483647+39373*(n*48271+29).fmod 2147483647+7).fmod 2147483629:=QR _ (by decide)
   have d1:((n*48271+29).fmod 2147483647*(n*48271+29).fmod 2147483647+39373*(n*48271+29).fmod 2147483647+7).fmod 2147483629 < 2147483629:=Q_ _ (by decide)
   have by':=BE d0 (by omega)
   refine⟨dy by' by',dy (m:=31) (BE (by decide) (by decide)) by',(show (2147483587:Int)≠0 by decide),⟨by decide,by decide +kernel⟩,(show m≠0 by omega),?_⟩
   exact q _ _ (QR _ hm) (Q_ _ hm) (put_dr _ _ λ_=>⟨c0,c1⟩)
theorem Hn (a b:Int):Int.gcd (ua a) (ua b)=Int.gcd a b:=by
 have e:∀ x:Int,(ua x).natAbs=x.natAbs:=λx=>by unfold ua; split <;> omega
 unfold Int.gcd;rw [e,e]
def iS:bC:=λds S k=>∃ a b,ds=[.int a,.int b]/\k (.int ((Int.gcd a b:Nat):Int)) S
theorem e9:ao ["one","other"] ["one","other"] (am iN):=cA
theorem qO (Fn:bL K "_law_divisor" "_law_divisor" iN f fd) (nM:mg "abs"=none):
  aI P w K mg base ca 1 f fd ["one","other"] (cg K iS):=by
 refine Fn.okJ e9 (λds S k h=>?_) (λcdv A outer s H E hr=>⟨_,(af (ai (i:=0) e9.nd (cI AY rfl nM wa (aa (ac 0) ad))) (af (ai (i:=1) e9.nd (cI AY rfl nM wa (aa (ac 1) ad))) (af (kK PassesOwn.never (ax EG (ac 1) ae (aF _)) (aj (oI (i:=0) (j:=1) rfl e9.nd (by decide) (aa (ac 1) (aa (ar pi (ac 0) (ac 1)) ad))))) (aj (ak (ac 0)))))),λds S k h=>?_⟩)
 ·obtain⟨_,_,rfl,_⟩:=h
  rfl
 ·obtain⟨a,b,rfl,q⟩:=h;refine⟨λm L S'=>S'=S/\∃ x y,L=[some (.int x),some (.int y)]/\m=y.natAbs/\0<=x/\0<=y/\Int.gcd x y=Int.gcd a b,⟨_,rfl,ua a,ua b,rfl,rfl,AO a,AO b,Hn a b⟩,?_⟩
  rintro m L S' ⟨rfl,x,y,rfl,rfl,hx,hy,e⟩;refine aU (λhl=>⟨λL' S''=>∃ m',m' < y.natAbs/\S''=S'/\∃ x y,L'=[some (.int x),some (.int y)]/\m'=y.natAbs/\0<=x/\0<=y/\Int.gcd x y=Int.gcd a b,λ_ _ z=>z,by omega,?_⟩) (λhl=>?_)
  ·exact⟨_,Ap x y (by omega),rfl,y,x.fmod y,rfl,rfl,hy,QR _ hl,(xU x y).trans e⟩
  ·have z:y=0:=by omega
   subst z;have e2:=xA x;rw [e,if_neg (by omega)] at e2
   rw [e2] at q;exact q
def cJ:bC:=λds S k=>∃ t b,ds=[.int t,.int b]/\b≠0/\Bt 8000 b/\k (fr (Rat.divInt t b)) S
theorem jB:ao ["top","bottom","by"] ["top","bottom"] (am kP):=cA
theorem uB (Fn:bL K "_law_ratio" "_law_ratio" kP f fd) (i5:aE P w K mg base "_law_divisor" 1 iS):
  aI P w K mg base ca 2 f fd ["top","bottom"] (cg K cJ):=by
 refine Fn.okJ jB (λds S k h=>?_) (λcdv A outer s H E hr=>⟨_,(af (ai (i:=2) jB.nd (dq i5 hr (aa (ac 0) (aa (ac 1) ad)))) (af (aC (ax uG (ac 1) ae (aF _)) (aj (ai (i:=2) jB.nd (ar jZ ae (ac 2)))) aG) (aj (ak (au (aa (ar jh (ac 0) (ac 2)) (aa (ar jh (ac 1) (ac 2)) ad))))))),λds S k h=>?_⟩)
 ·obtain⟨_,_,rfl,_⟩:=h
  rfl
 ·obtain⟨t,b,rfl,h0,hb,q⟩:=h;have hg:=DV (t:=t) h0 hb;have hs:=Ey (t:=t) h0;have e1:=vH (t:=t) h0;have e2:=vX (t:=t) h0;have qq:k (.tup [.int (t.fdiv (CB t b)),.int (b.fdiv (CB t b))]) S:=by rw [e1,e2]; exact q
  unfold CB at qq hs
  refine⟨t,b,rfl,aU (λhl=>?_) (λhl=>?_)⟩
  ·rw [if_pos hl] at qq hs
   rw [<- Int.zero_sub] at qq hs
   have hd:∀ x:Int,Al x (0 - ((Int.gcd t b:Nat):Int)):=λx=>y4 hs (by rw [Int.zero_sub]; exact hg.neg)
   exact⟨hd _,hd _,few,qq⟩
  ·rw [if_neg hl] at qq hs
   exact⟨y4 hs hg,y4 hs hg,few,qq⟩
def ke:bC:=λds S k=>∃ (a b c d:Int) (q:Rat),ds=[pr a b,pr c d]/\b*d≠0/\Bt 4000 a/\Bt 4000 b/\Bt 4000 c/\Bt 4000 d/\Rat.divInt (a*c) (b*d)=q/\k (fr q) S
theorem uo:ao ["one","other"] ["one","other"] (am kQ):=cA
theorem t9 (Fn:bL K "_law_times" "_law_times" kQ f fd) (aZ:aE P w K mg base "_law_ratio" 2 cJ):
  aI P w K mg base ca 3 f fd ["one","other"] (cg K ke):=by
 refine Fn.okJ uo (λds S k h=>?_) (λcdv A outer s H E hr=>⟨_,(aj (ak (dq aZ hr (aa (ar aM (ah ag (ac 0) ae (λ_ _=>rfl)) (ah ag (ac 1) ae (λ_ _=>rfl))) (aa (ar aM (ah ag (ac 0) ae (λ_ _=>rfl)) (ah ag (ac 1) ae (λ_ _=>rfl))) ad))))),λds S k h=>?_⟩)
 ·obtain⟨_,_,_,_,_,rfl,_⟩:=h
  rfl
 ·obtain⟨a,b,c,d,_,rfl,h0,h1,h2,h3,h4,rfl,q⟩:=h;exact⟨dy h1 h3,dy h2 h4,_,_,rfl,h0,(h2.mul h4).mono (by decide),q⟩
def eu:bC:=λds S k=>∃ a,ds=[.ref a]/\vK S a/\∀ q S',Sz 4 q->Dr a S S'->k (fr q) S'
theorem ul:ao ["state"] ["state"] (am kI):=cA
theorem um (Fn:bL K "_law_small" "_law_small" kI f fd) (aZ:aE P w K mg base "_law_ratio" 2 cJ) (cq:aE P w K mg base "_law_take" 1 jk):
  aI P w K mg base ca 3 f fd ["state"] (cg K eu):=by
 refine Fn.okJ ul (λds S k h=>?_) (λcdv A outer s H E hr=>⟨_,(aj (ak (dq aZ hr (aa (ar jZ (dq cq hr (aa (ac 0) (aa ae ad))) ae) (aa (ar cX ae (ah ag (iV (aa ae (aa ae (aa (dq cq hr (aa (ac 0) (aa ae ad))) ad)))) (dq cq hr (aa (ac 0) (aa ae ad))) (λ_ _=>rfl))) ad))))),λds S k h=>?_⟩)
 ·obtain⟨_,rfl,_⟩:=h
  rfl
 ·obtain⟨a,rfl,hS,q⟩:=h;refine⟨a,19,rfl,by decide,by decide,hS,λr1 S1 h1 h1' d1=>⟨a,6,rfl,by decide,by decide,d1.1,λr2 S2 h2 h2' d2=>⟨few,λp hp=>⟨a,3,rfl,by decide,by decide,d2.1.new hp,λr3 S3 h3 h3' d3=>?_⟩⟩⟩⟩
  have hp3:=d3.2 p _ (d2.1.ne hp) av;obtain⟨c,hc,hm⟩:=AQ (ds:=[.int 0,.int 0,.int r2]) h3 h3';have hc2:∃ s:Int,c=.int s/\0<=s/\s < 6:=by
   simp only [P8,Qh,or_false] at hm;rcases hm with rfl | rfl | rfl
   ·exact⟨0,rfl,by decide,by decide⟩
   ·exact⟨0,rfl,by decide,by decide⟩
   ·exact⟨r2,rfl,h2,h2'⟩
  obtain⟨s,rfl,s0,s1⟩:=hc2;have b1:Bt 4 (r1 - 9):=by unfold Bt; omega
  have b2:Bt 4 (1+s):=by unfold Bt; omega
  exact⟨_,_,hp3,hc,_,_,rfl,by omega,b2.mono (by decide),q _ _ (Sz.divInt b1 b2 (by omega)) (d1.trans (d2.trans ((Dr.new d2.1 hp).trans d3)))⟩
theorem Cj {u:Int} (h:u∈Ek):Fd (u:Rat):=by
 obtain⟨h1,h2,h3⟩:=B6 h;refine⟨by exact_mod_cast h2,h1,?_,?_⟩
 ·rw [Rat.num_intCast]; unfold Bt; omega
 ·rw [Rat.den_intCast]; decide
def B (x:Q):D:=.tup [fr x.1,fr x.2]
theorem uU {S:DH} {k:DK} {t b:Int} {q:Rat} (e:Rat.divInt t b=q) (h0:b≠0) (hb:Bt 8000 b) (h:k (fr q) S):cJ [.int t,.int b] S k:=by subst e; exact⟨_,_,rfl,h0,hb,h⟩
theorem vK.set {a q:Addr} {S:DH} {o:DO} (h:vK S a) (z:q≠a):vK (put S q o) a:=by
 obtain⟨n,b,e,w⟩:=h;exact⟨n,b,by rw [cQ (Ne.symm z)]; exact e,w⟩
set_option maxHeartbeats 4000000
def jj:bC:=λds S k=>∃ (a b c d:Int) (q:Rat),ds=[pr a b,pr c d]/\b*d≠0/\Bt 4000 a/\Bt 4000 b/\Bt 4000 c/\Bt 4000 d/\Rat.divInt (a*d+c*b) (b*d)=q/\k (fr q) S
theorem xm:ao ["one","other"] ["one","other"] (am md):=cA
theorem xk (Fn:bL K "_law_plus" "_law_plus" md f fd) (aZ:aE P w K mg base "_law_ratio" 2 cJ):
  aI P w K mg base ca 3 f fd ["one","other"] (cg K jj):=by
 refine Fn.okJ xm (λds S k h=>?_) (λcdv A outer s H E hr=>⟨_,(aj (ak (dq aZ hr (aa (ar cX (ar aM (ah ag (ac 0) ae (λ_ _=>rfl)) (ah ag (ac 1) ae (λ_ _=>rfl))) (ar aM (ah ag (ac 1) ae (λ_ _=>rfl)) (ah ag (ac 0) ae (λ_ _=>rfl)))) (aa (ar aM (ah ag (ac 0) ae (λ_ _=>rfl)) (ah ag (ac 1) ae (λ_ _=>rfl))) ad))))),λds S k h=>?_⟩)
 ·obtain⟨_,_,_,_,_,rfl,_⟩:=h
  rfl
 ·obtain⟨a,b,c,d,q,rfl,h0,h1,h2,h3,h4,e,w⟩:=h;exact⟨dy h1 h4,dy h3 h2,dy h2 h4,uU e h0 ((h2.mul h4).mono (by decide)) w⟩
def fI:bC:=λds S k=>∃ p q:Rat,ds=[fr p,fr q]/\Sz 4000 p/\Sz 4000 q/\k (fr (p - q)) S
theorem tX:ao ["one","other"] ["one","other"] (am kM):=cA
theorem uu (Fn:bL K "_law_minus" "_law_minus" kM f fd) (aZ:aE P w K mg base "_law_ratio" 2 cJ):
  aI P w K mg base ca 3 f fd ["one","other"] (cg K fI):=by
 refine Fn.okJ tX (λds S k h=>?_) (λcdv A outer s H E hr=>⟨_,(aj (ak (dq aZ hr (aa (ar jZ (ar aM (ah ag (ac 0) ae (λ_ _=>rfl)) (ah ag (ac 1) ae (λ_ _=>rfl))) (ar aM (ah ag (ac 1) ae (λ_ _=>rfl)) (ah ag (ac 0) ae (λ_ _=>rfl)))) (aa (ar aM (ah ag (ac 0) ae (λ_ _=>rfl)) (ah ag (ac 1) ae (λ_ _=>rfl))) ad))))),λds S k h=>?_⟩)
 ·obtain⟨_,_,rfl,_⟩:=h
  rfl
 ·obtain⟨p,q,rfl,hp,hq,w⟩:=h;exact⟨dy hp.num hq.den,dy hq.num hp.den,dy hp.den hq.den,uU (zx p q) (bG p q) ((hp.den.mul hq.den).mono (by decide)) w⟩
theorem JO {a b:Int} (a0:0 < a) (b0:0 < b):0 < Rat.divInt a b:=by
 rw [QC,Rat.div_def];exact Qu (by exact_mod_cast a0) (Rat.inv_pos.mpr (by exact_mod_cast b0))
def kx:bC:=λds S k=>∃ q:Rat,ds=[fr q]/\k (.tup [fr q,fr 0]) S
theorem tY:ao ["fraction"] ["fraction"] (am kG):=cA
theorem ug (Fn:bL K "_law_plain" "_law_plain" kG f fd):
  aI P w K mg base ca 1 f fd ["fraction"] (cg K kx):=by
 refine Fn.okJ tY (λds S k h=>?_) (λcdv A outer s H E hr=>⟨_,(aj (ak (au (aa (ac 0) (aa (au (aa ae (aa ae ad))) ad))))),λds S k h=>?_⟩)
 ·obtain⟨_,rfl,_⟩:=h
  rfl
 ·obtain⟨q,rfl,w⟩:=h;exact⟨few,few,w⟩
def ff:bC:=λds S k=>∃ a,ds=[.ref a]/\vK S a/\∀ x y S',Sz 4 x->Sz 4 y->Dr a S S'->k (PP x y) S'
theorem nC:ao ["state"] ["state"] (am fg):=cA
theorem ny (Fn:bL K "_law_plain_point" "_law_plain_point" fg f fd) (iF:aE P w K mg base "_law_plain" 1 kx) (bF:aE P w K mg base "_law_small" 3 eu):
  aI P w K mg base ca 4 f fd ["state"] (cg K ff):=by
 refine Fn.okJ nC (λds S k h=>?_) (λcdv A outer s H E hr=>⟨_,(aj (ak (au (aa (dq iF hr (aa (dq bF hr (aa (ac 0) ad)) ad)) (aa (dq iF hr (aa (dq bF hr (aa (ac 0) ad)) ad)) ad))))),λds S k h=>?_⟩)
 ·obtain⟨_,rfl,_⟩:=h
  rfl
 ·obtain⟨a,rfl,hS,w⟩:=h;exact⟨a,rfl,hS,λx S1 hx d1=>⟨x,rfl,a,rfl,d1.1,λy S2 hy d2=>⟨y,rfl,few,w x y S2 hx hy (d1.trans d2)⟩⟩⟩
def fU:bC:=λds S k=>∃ a,ds=[.ref a]/\vK S a/\∀ q S',Sz 4 q->0 < q->Dr a S S'->k (fr q) S'
theorem uf:ao ["state"] ["state"] (am ki):=cA
theorem t6 (Fn:bL K "_law_above" "_law_above" ki f fd) (aZ:aE P w K mg base "_law_ratio" 2 cJ) (cq:aE P w K mg base "_law_take" 1 jk):
  aI P w K mg base ca 3 f fd ["state"] (cg K fU):=by
 refine Fn.okJ uf (λds S k h=>?_) (λcdv A outer s H E hr=>⟨_,(aj (ak (dq aZ hr (aa (ar cX ae (dq cq hr (aa (ac 0) (aa ae ad)))) (aa (ar cX ae (ah ag (iV (aa ae (aa ae (aa (dq cq hr (aa (ac 0) (aa ae ad))) ad)))) (dq cq hr (aa (ac 0) (aa ae ad))) (λ_ _=>rfl))) ad))))),λds S k h=>?_⟩)
 ·obtain⟨_,rfl,_⟩:=h
  rfl
 ·obtain⟨a,rfl,hS,q⟩:=h;refine⟨a,12,rfl,by decide,by decide,hS,λr1 S1 h1 h1' d1=>⟨a,6,rfl,by decide,by decide,d1.1,λr2 S2 h2 h2' d2=>⟨few,λp hp=>⟨a,3,rfl,by decide,by decide,d2.1.new hp,λr3 S3 h3 h3' d3=>?_⟩⟩⟩⟩
  have hp3:=d3.2 p _ (d2.1.ne hp) av;obtain⟨c,hc,hm⟩:=AQ (ds:=[.int 0,.int 0,.int r2]) h3 h3';have hc2:∃ s:Int,c=.int s/\0<=s/\s < 6:=by
   simp only [P8,Qh,or_false] at hm;rcases hm with rfl | rfl | rfl
   ·exact⟨0,rfl,by decide,by decide⟩
   ·exact⟨0,rfl,by decide,by decide⟩
   ·exact⟨r2,rfl,h2,h2'⟩
  obtain⟨s,rfl,s0,s1⟩:=hc2;have b1:Bt 4 (1+r1):=by unfold Bt; omega
  have b2:Bt 4 (1+s):=by unfold Bt; omega
  exact⟨_,_,hp3,hc,_,_,rfl,by omega,b2.mono (by decide),q _ _ (Sz.divInt b1 b2 (by omega)) (JO (by omega) (by omega)) (d1.trans (d2.trans ((Dr.new d2.1 hp).trans d3)))⟩
set_option maxHeartbeats 4000000
theorem xh {a b r:Rat} (k:List Int):gR (lg a b r) k=if k=[1,0] then a else if k=[0,1] then b else if k=[0,0] then r else 0:=by
 by_cases h1:k=[1,0]
 ·subst h1; rfl
 by_cases h2:k=[0,1]
 ·subst h2; rfl
 by_cases h3:k=[0,0]
 ·subst h3; rfl
 rw [if_neg h1,if_neg h2,if_neg h3];exact dQ (by simp only [Qd,List.map_nil,P8,Qh,or_false]; exact λz=>by rcases z with z | z | z <;> contradiction)
structure L3 (a b r:Rat) (g:List (List Int×Rat)):Prop where
 res:OI (λk=>gR (lg a b r) k) g
theorem L3.keys {a b r:Rat} {g:List (List Int×Rat)} (h:L3 a b r g):∀ p∈g,p.1=[1,0]\/p.1=[0,1]\/p.1=[0,0]:=λp hp=>by
 obtain⟨n,e⟩:=h.res.mem.mp hp;have e:gR (lg a b r) p.1=p.2:=e;rw [xh] at e
 by_cases h1:p.1=[1,0]
 ·exact .inl h1
 by_cases h2:p.1=[0,1]
 ·exact .inr (.inl h2)
 by_cases h3:p.1=[0,0]
 ·exact .inr (.inr h3)
 rw [if_neg h1,if_neg h2,if_neg h3] at e;exact absurd e.symm n
theorem L3.cv {m:Nat} {a b r:Rat} {g:List (List Int×Rat)} (h:L3 a b r g) (ha:Sz m a) (hb:Sz m b) (hr:Sz m r):Cv 3 m 4 g:=by
 refine⟨h.res.nd,?_,λp hp=>?_,λp hp=>?_⟩
 ·have:=pI h.res.nd (l':=[[1,0],[0,1],[0,0]]) λx hx=>by
   obtain⟨p,hp,rfl⟩:=P4.mp hx;rcases h.keys p hp with e | e | e <;> rw [e] <;> simp
  rw [P5] at this;exact this
 ·rcases h.keys p hp with e | e | e <;> exact⟨_,_,e,by decide,by decide,by decide,by decide⟩
 ·obtain⟨n,e⟩:=h.res.mem.mp hp;have e:gR (lg a b r) p.1=p.2:=e;rw [<- e,xh];rcases h.keys p hp with q | q | q <;> rw [q]
  ·exact ha
  ·exact hb
  ·exact hr
theorem L3.g1 {a b r:Rat} {g:List (List Int×Rat)} (h:L3 a b r g):gR g [1,0]=a:=(h.res.at_ _).trans rfl
theorem L3.g2 {a b r:Rat} {g:List (List Int×Rat)} (h:L3 a b r g):gR g [0,1]=b:=(h.res.at_ _).trans rfl
theorem L3.g3 {a b r:Rat} {g:List (List Int×Rat)} (h:L3 a b r g):gR g [0,0]=r:=(h.res.at_ _).trans rfl
theorem L3.deg {a b r:Rat} {g:List (List Int×Rat)} (h:L3 a b r g) (ne:a≠0\/b≠0):IN g 1:=by
 refine⟨?_,λp hp=>?_⟩
 ·rcases ne with n | n
  ·exact⟨([1,0],a),h.res.mem.mpr ⟨n,rfl⟩,rfl⟩
  ·exact⟨([0,1],b),h.res.mem.mpr ⟨n,rfl⟩,rfl⟩
 ·rcases h.keys p hp with e | e | e <;> rw [e] <;> decide
theorem L3.lin {a b r:Rat} {g:List (List Int×Rat)} (h:L3 a b r g) (ha:Sz 100 a) (hb:Sz 100 b) (hr:Sz 100 r) (ne:a≠0\/b≠0):Nv g:=⟨(h.cv ha hb hr).mono (by decide) (by decide) (by decide),h.res.n0,h.deg ne⟩
theorem Fe {a b:Rat} (h:a*a+b*b≠0):a≠0\/b≠0:=by
 by_cases z:a=0
 ·exact .inr λy=>h (by rw [z,y]; grind)
 ·exact .inl z
set_option maxHeartbeats 4000000
def u4:List (List Int):=(List.range 7).flatMap fun(i:Nat)=>(List.range 7).map fun(j:Nat)=>[(i:Int),(j:Int)]
theorem C3:u4.Nodup:=by decide +kernel
theorem BT {i j:Int} (i0:0<=i) (j0:0<=j) (i1:i<=6) (j1:j<=6):[i,j]∈u4:=by
 unfold u4;rw [List.mem_flatMap];refine⟨i.toNat,Q0.mpr (by omega),P4.mpr ⟨j.toNat,Q0.mpr (by omega),?_⟩⟩
 rw [Int.toNat_of_nonneg i0,Int.toNat_of_nonneg j0]
def gX (f:α->Q):List α->Q
 | []=>(0,0)
 | a::l=>qa (f a) (gX f l)
theorem nc (x:Q):qa x (0,0)=x:=by
 unfold qa;apply Qk <;> dsimp only <;> grind
theorem wq (x:Q):qa (0,0) x=x:=by
 unfold qa;apply Qk <;> dsimp only <;> grind
theorem E9 (x y z:Q):qa (qa x y) z=qa x (qa y z):=by
 unfold qa;apply Qk <;> dsimp only <;> grind
theorem yp (f g:α->Q):∀ l:List α,gX (λa=>qa (f a) (g a)) l=qa (gX f l) (gX g l)
 | []=>(nc _).symm
 | a::l=>by
  show qa (qa (f a) (g a)) (gX (λa=>qa (f a) (g a)) l)=qa (qa (f a) (gX f l)) (qa (g a) (gX g l))
  rw [yp f g l];unfold qa;apply Qk <;> dsimp only <;> grind
theorem kz {f g:α->Q}:∀ {l:List α},(∀ a∈l,f a=g a)->gX f l=gX g l
 | [],_=>rfl
 | a::l,h=>by
  show qa (f a) (gX f l)=qa (g a) (gX g l)
  rw [h a P_,kz λb hb=>h b (Qa _ hb)]
theorem p4 {f:α->Q}:∀ {l:List α},(∀ a∈l,f a=(0,0))->gX f l=(0,0)
 | [],_=>rfl
 | a::l,h=>by
  show qa (f a) (gX f l)=_
  rw [h a P_,p4 λb hb=>h b (Qa _ hb),nc]
theorem FE (t:Rat) (f:α->Q):∀ l:List α,gX (λa=>qk t (f a)) l=qk t (gX f l)
 | []=>by
  show((0:Rat),(0:Rat))=qk t (0,0)
  unfold qk;apply Qk <;> dsimp only <;> grind
 | a::l=>by
  show qa (qk t (f a)) (gX (λa=>qk t (f a)) l)=qk t (qa (f a) (gX f l))
  rw [FE t f l,M8]
theorem C2 {K:List (List Int)} (nd:K.Nodup) {k0:List Int} (h:k0∈K) (f:List Int->Q):gX (λk=>if k0=k then f k else(0,0)) K=f k0:=by
 induction K with
 | nil=>cases h
 | cons a K ih=>
  rw [QM] at nd
  show qa (if k0=a then f a else(0,0)) (gX (λk=>if k0=k then f k else(0,0)) K)=f k0
  by_cases e:k0=a
  ·subst e;rw [if_pos rfl,p4,nc];intro b hb;rw [if_neg (λz:k0=b=>nd.1 (by rw [z]; exact hb))]
  ·rw [if_neg e,wq];exact ih nd.2 (by
    rcases P8.mp h with q | q
    ·exact absurd q e
    ·exact q)
theorem yi {u:Rat} {x y:Q}:∀ {c:List (List Int×Rat)} {s:Q},i_ u x y c s=qa s (gX (λp=>qk p.2 (mon u x y p.1)) c)
 | [],s=>(nc s).symm
 | p::c,s=>by
  show i_ u x y c (qa s (qk p.2 (mon u x y p.1)))=qa s (qa (qk p.2 (mon u x y p.1)) (gX _ c))
  rw [yi,E9]
theorem v_ (x:Q):qk 0 x=(0,0):=by
 unfold qk;apply Qk <;> dsimp only <;> grind
def vφ (u:Rat) (x y:Q) (φ:List Int->Rat):Q:=gX (λk=>qk (φ k) (mon u x y k)) u4
theorem xZ {w:List Int->Q}:∀ {c:List (List Int×Rat)},(c.map (·.1)).Nodup->(∀ p∈c,p.1∈u4)->gX (λp=>qk p.2 (w p.1)) c=gX (λk=>qk (gR c k) (w k)) u4
 | [],_,_=>(p4 λk _=>by show qk 0 (w k)=_; exact v_ _).symm
 | p::c,nd,hk=>by
  rw [Qd,QM] at nd
  show qa (qk p.2 (w p.1)) (gX (λp=>qk p.2 (w p.1)) c)=_
  rw [xZ nd.2 λq hq=>hk q (Qa _ hq)]
  rw [<- C2 C3 (hk p P_) (λk=>qk p.2 (w k)),<- yp]
  refine kz λk _=>?_
  by_cases e:p.1=k
  ·subst e;rw [if_pos rfl,show gR c p.1=0 from dQ nd.1,v_,nc]
   congr 1
   show _=((List.find? (λq=>decide (q.1=p.1)) (p::c)).map (·.2)).getD 0
   rw [Qg];simp
  ·rw [if_neg e,wq]
   congr 1
   show _=((List.find? (λq=>decide (q.1=k)) (p::c)).map (·.2)).getD 0
   rw [Qg];simp [e]
   rfl
theorem ET {u:Rat} {x y:Q} {n m:Nat} {c:List (List Int×Rat)} (h:Cv n m 6 c):i_ u x y c (0,0)=vφ u x y (gR c):=by
 rw [yi,wq];exact xZ h.nd λp hp=>by
  obtain⟨i,j,e,i0,j0,i1,j1⟩:=h.sm p hp;rw [e];exact BT i0 j0 i1 j1
theorem BM {u:Rat} {x y:Q} {φ ψ:List Int->Rat} (h:∀ k,φ k=ψ k):vφ u x y φ=vφ u x y ψ:=kz λk _=>by rw [h k]
theorem LK {u t:Rat} {x y:Q} {φ:List Int->Rat}:vφ u x y (λk=>φ k*t)=qk t (vφ u x y φ):=by
 unfold vφ;rw [<- FE];refine kz λk _=>?_
 unfold qk;apply Qk <;> dsimp only <;> grind
theorem KC {c:List (List Int×Rat)} {ns:List (List Int×Int)} {B:Int} {T:Nat} (h:yH c ns) (B0:0 < B) (hd:Dn B T c):∀ p∈ns,Bt T p.2:=by
 obtain⟨t,t0,f1,f2⟩:=h.sc;have b0:(B:Rat)≠0:=λz=>by
  have:=QN.mp (show (B:Rat)=((0:Int):Rat) from z)
  omega
 generalize hr:(B:Rat) / t=r;have r0:r≠0:=by
  rw [<- hr];intro z;exact b0 (by grind)
 have key:∀ p∈ns,∃ τ:Int,Bt T τ/\r*(p.2:Rat)=τ:=λp hp=>by
  obtain⟨q,hq,e⟩:=f1 p hp;obtain⟨τ,bt,et⟩:=hd _ hq;refine⟨τ,bt,?_⟩;have et:(B:Rat)*q=τ:=et;rw [<- et,e,<- hr];grind
 have ex:∀ p∈ns,∃ τ:Int,Bt T τ/\r.num*p.2=τ*(r.den:Int):=λp hp=>by
  obtain⟨τ,bt,e⟩:=key p hp;refine⟨τ,bt,QN.mp ?_⟩;rw [P1,P1,<- e,<- oN r];grind
 have dv:∀ p∈ns,(r.den:Int) ∣ p.2:=λp hp=>by
  obtain⟨τ,_,e⟩:=ex p hp;have:(r.den:Int) ∣ r.num*p.2:=⟨τ,by rw [e,Int.mul_comm]⟩
  have t1:=QU.mpr this;rw [Q1] at t1;have t1:r.den ∣ r.num.natAbs*p.2.natAbs:=t1;refine QU.mp ?_
  show r.den ∣ p.2.natAbs
  exact(Nat.Coprime.symm r.reduced).dvd_of_dvd_mul_left t1
 have one:=h.co (r.den:Int) dv;have d1:(r.den:Int)=1:=by
  have:=fo r;have:=Int.le_of_dvd (by decide) one
  omega
 intro p hp;obtain⟨τ,bt,e⟩:=ex p hp;rw [d1,Int.mul_one] at e;refine bt.le ?_;rw [<- e,Q1];have:r.num.natAbs≠0:=λz=>r0 (Rf.mp (Int.natAbs_eq_zero.mp z))
 exact Nat.le_mul_of_pos_left _ (by omega)
theorem JZ {c:List (List Int×Rat)} {ns:List (List Int×Int)} {B:Int} {T n m:Nat} (h:yH c ns) (hc:Cv n m 6 c) (hn:n<=28) (B0:0 < B) (hd:Dn B T c) (hT:T<=900):Cv 28 900 6 (rT ns):=by
 have kk:(rT ns).map (·.1)=c.map (·.1):=by rw [j9,h.keys]
 refine⟨by rw [kk]; exact hc.nd,?_,λp hp=>?_,λp hp=>?_⟩
 ·have:=congrArg List.length kk;rw [P5,P5] at this;have:=hc.hl;omega
 ·have:p.1∈c.map (·.1):=by rw [<- kk]; exact Q7 hp
  obtain⟨q,hq,e⟩:=P4.mp this;rw [<- e];exact hc.sm q hq
 ·obtain⟨q,hq,rfl⟩:=P4.mp hp;exact⟨by show Bt 900 (q.2:Rat).num; rw [Rat.num_intCast]; exact(KC h B0 hd q hq).mono hT,by show Bt 900 (((q.2:Rat).den:Nat):Int); rw [Rat.den_intCast]; exact(show Bt 1 1 by decide).mono (by decide)⟩
theorem KO {ns:List (List Int×Int)}:∀ q∈rT ns,(q.2.den:Int) ∣ 1:=λq hq=>by
 obtain⟨p,hp,rfl⟩:=P4.mp hq
 show(((p.2:Rat).den:Nat):Int) ∣ 1
 rw [Rat.den_intCast];exact Int.dvd_refl _
theorem GC {c:List (List Int×Rat)} {ns:List (List Int×Int)} {n m n' m':Nat} (h:yH c ns) (hc:Cv n m 6 c) (hv:Cv n' m' 6 (rT ns)) (u:Rat) (x y:Q):∃ t:Rat,t≠0/\i_ u x y (rT ns) (0,0)=qk t (i_ u x y c (0,0)):=by
 obtain⟨t,t0,f1,f2⟩:=h.sc;refine⟨t,t0,?_⟩;rw [ET hc,ET hv,<- LK];refine BM λk=>?_
 by_cases z:k∈c.map (·.1)
 ·obtain⟨p,hp,rfl⟩:=P4.mp z;obtain⟨i,hi,e⟩:=f2 p hp;have e1:gR (rT ns) p.1=(i:Rat):=gH hv.nd (wB hi);have e2:gR c p.1=p.2:=gH hc.nd hp;rw [e1,e2,e,Rat.mul_comm]
 ·have z2:k∉(rT ns).map (·.1):=by rw [j9,h.keys]; exact z
  rw [show gR (rT ns) k=0 from dQ z2,show gR c k=0 from dQ z,Rat.zero_mul]
theorem vU {u:Rat} {x y:Q}:∀ {c:List (List Int×Rat)} {s:Q},i_ u x y (nz c) s=i_ u x y c s
 | [],_=>rfl
 | p::c,s=>by
  by_cases z:p.2=0
  ·have e:nz (p::c)=nz c:=by simp [nz,z]
   rw [e,vU]
   show _=i_ u x y c (qa s (qk p.2 (mon u x y p.1)))
   rw [z,v_,nc]
  ·have e:nz (p::c)=p::nz c:=by simp [nz,z]
   rw [e];exact vU (c:=c) (s:=qa s (qk p.2 (mon u x y p.1)))
theorem MR {u:Rat} {x y:Q}:mon u x y [1,0]=x:=by
 show qm u (qm u (1,0) x) (1,0)=x
 unfold qm;apply Qk <;> dsimp only <;> grind
theorem LJ {u:Rat} {x y:Q}:mon u x y [0,1]=y:=by
 show qm u (1,0) (qm u (1,0) y)=y
 unfold qm;apply Qk <;> dsimp only <;> grind
theorem Mp {u:Rat} {x y:Q}:mon u x y [0,0]=(1,0):=by
 show qm u (1,0) (1,0)=(1,0)
 unfold qm;apply Qk <;> dsimp only <;> grind
theorem Es {u a b r:Rat} {x y:Q}:i_ u x y (nz (lg a b r)) (0,0)=(a*x.1+b*y.1+r,a*x.2+b*y.2):=by
 rw [vU]
 show qa (qa (qa (0,0) (qk a (mon u x y [1,0]))) (qk b (mon u x y [0,1]))) (qk r (mon u x y [0,0]))=_
 rw [MR,LJ,Mp];unfold qa qk;apply Qk <;> dsimp only <;> grind
theorem Ie {m:Nat} {a b r:Rat} (ha:Sz m a) (hb:Sz m b) (hr:Sz m r):Cv 3 m 6 (nz (lg a b r)):=⟨fi jv,zF,λp hp=>by
 have:=(eG.mp hp).1;simp only [P8,Qh,or_false] at this;rcases this with rfl | rfl | rfl <;> exact⟨_,_,rfl,by decide,by decide,by decide,by decide⟩,λp hp=>Kx (P:=Sz m) ha hb hr p (eG.mp hp).1⟩
set_option maxHeartbeats 4000000
def aA (x y z v:Rat):Rat:=(z - x)*(z - x)+(v - y)*(v - y)
def cT (x y s z v r:Rat):Rat:=((s - r)+((z - x)*(z - x)+(v - y)*(v - y))) / (((z - x)*(z - x)+(v - y)*(v - y))+((z - x)*(z - x)+(v - y)*(v - y)))
noncomputable def cL (x y s z v r:Rat):List D:=mM (x+(z - x)*cT x y s z v r) (y+(v - y)*cT x y s z v r) (-(v - y)) (z - x) (s / ((z - x)*(z - x)+(v - y)*(v - y)) - cT x y s z v r*cT x y s z v r)
theorem HK {A:Rat} (h:A≠0):A+A≠0:=by grind
def eK (aO:Addr):re:=λds S k x=>∃ a b:Rat,ds=[W a b]/\Sz 900 a/\Sz 900 b/\(a*a+b*b=0->x aO S)/\(a*a+b*b≠0->k (fr (a*a+b*b)) S)
theorem lG {P:Program} {w:World} {K:Fg} {mg:Str->Option Value} {base:Heap} {f:Addr} {fd:FuncData} {aO:Addr} (Fn:bL K "square_of_unlike" "square_of_unlike" dw f fd) (aq:aE P w K mg base "product_of_ways" 36 aQ) (fD:mg "NoMeet"=some (.ref aO)) (tO:PySem.W.excIn K aO [.type "ValueError",.type "Exception",.type "BaseException",.type "object"] "ValueError.__new__"=true):
  aI P w K mg base (lh P w) 37 f fd ["way"] (Ht K (eK aO)):=by
 refine Fn.okX cY (λds S k x h=>?_) (λcdv A outer s H E ex hr hE=>⟨_,(af (ai (i:=1) cY.nd (dq aq hr (aa (ac 0) (aa (ac 0) ad)))) (af (aC (ax nA (ah ag (ac 1) ae (λ_ _=>rfl)) ae (aF _)) (aj (sF hE PySem.F.excBase_ValueError tO fD rfl)) aG) (aj (ak (ac 1))))),λds S k h=>?_⟩)
 ·obtain⟨_,_,rfl,_⟩:=h
  rfl
 ·obtain⟨a,b,rfl,ha,hb,w0,w1⟩:=h;exact⟨a,b,a,b,rfl,ha.mono (by decide),hb.mono (by decide),ha.mono (by decide),hb.mono (by decide),aU (λz=>w0 (Rf.mp z)) (λz=>w1 λe=>z (by rw [e]; rfl))⟩
def dM:bC:=λds S k=>match ds with
 | [.non,.non,.non,.non]=>False/\k .non S
 | _=>False
theorem aV:ao ["one","square","other","other_square","start","way","apart","along","aside"] ["one","square","other","other_square"] (am fP):=cA
theorem q_ (Fn:bL K "circles_meet" "circles_meet" fP f fd) (az:aE P w K mg base "place_of" 1 cS) (aJ:aE P w K mg base "plain_way" 36 cn) (bJ:aE P w K mg base "square_of_unlike" 37 df) (aY:aE P w K mg base "over" 35 fB) (aT:aE P w K mg base "plus" 35 fR) (bo:aE P w K mg base "minus" 35 gJ) (aD:aE P w K mg base "times" 35 dU) (d_:aE P w K mg base "both_moved" 39 iw) (aL:aE P w K mg base "negative" 1 cV) (bq:aE P w K mg base "moved" 36 gL):
  aI P w K mg base ca 40 f fd ["one","square","other","other_square"] (cg K dM):=by
 refine Fn.okJ aV (λds S k h=>?_) (λcdv A outer s H E hr=>⟨_,(af (ai (i:=4) aV.nd (dq az hr (aa (ac 0) ad))) (af (ai (i:=5) aV.nd (dq aJ hr (aa (ac 4) (aa (dq az hr (aa (ac 2) ad)) ad)))) (af (ai (i:=6) aV.nd (dq bJ hr (aa (ac 5) ad))) (af (ai (i:=7) aV.nd (dq aY hr (aa (dq aT hr (aa (dq bo hr (aa (ac 1) (aa (ac 3) ad))) (aa (ac 6) ad))) (aa (dq aT hr (aa (ac 6) (aa (ac 6) ad))) ad)))) (af (ai (i:=8) aV.nd (dq bo hr (aa (dq aY hr (aa (ac 1) (aa (ac 6) ad))) (aa (dq aD hr (aa (ac 7) (aa (ac 7) ad))) ad)))) (aj (ak (dq d_ hr (aa (dq bq hr (aa (ac 4) (aa (ac 5) (aa (ac 7) ad)))) (aa (au (aa (dq aL hr (aa (ah ag (ac 5) ae (λ_ _=>rfl)) ad)) (aa (ah ag (ac 5) ae (λ_ _=>rfl)) ad))) (aa (ac 8) ad))))))))))),λds S k h=>?_⟩)
 ·unfold dM at h
  split at h
  ·rfl
  ·exact h.elim
 ·unfold dM at h
  split at h
  ·exact h.1.elim
  ·exact h.elim
def io (aO:Addr):re:=λds S k e=>∃ x y s z v r:Rat,ds=[PP x y,fr s,PP z v,fr r]/\Sz 110 x/\Sz 110 y/\Sz 60 s/\Sz 110 z/\Sz 110 v/\Sz 60 r/\((z - x)*(z - x)+(v - y)*(v - y)=0->e aO S)/\((z - x)*(z - x)+(v - y)*(v - y)≠0->∀ S' p,cC S S'->S' p=none->k (.ref p) (put S' p (.lst (cL x y s z v r))))
theorem p8 {P:Program} {w:World} {K:Fg} {mg:Str->Option Value} {base:Heap} {f:Addr} {fd:FuncData} {aO:Addr} (Fn:bL K "circles_meet" "circles_meet" fP f fd) (d_:aE P w K mg base "both_moved" 39 iw) (aL:aE P w K mg base "negative" 1 cV) (bq:aE P w K mg base "moved" 36 gL) (bo:aE P w K mg base "minus" 35 gJ) (aD:aE P w K mg base "times" 35 dU) (aY:aE P w K mg base "over" 35 fB) (aT:aE P w K mg base "plus" 35 fR) (aJ:aE P w K mg base "plain_way" 36 cn) (az:aE P w K mg base "place_of" 1 cS) (eN:ui P w K mg base "square_of_unlike" 37 (eK aO)):
  aI P w K mg base (lh P w) 40 f fd ["one","square","other","other_square"] (Ht K (io aO)):=by
 refine Fn.okX aV (λds S k x h=>?_) (λcdv A outer s H E ex hr hE=>⟨_,(af (ai (i:=4) aV.nd (dq az hr (aa (ac 0) ad))) (af (ai (i:=5) aV.nd (dq aJ hr (aa (ac 4) (aa (dq az hr (aa (ac 2) ad)) ad)))) (af (ai (i:=6) aV.nd (tx hE eN (hr.mono (by decide)) rfl (aa (ac 5) ad))) (af (ai (i:=7) aV.nd (dq aY hr (aa (dq aT hr (aa (dq bo hr (aa (ac 1) (aa (ac 3) ad))) (aa (ac 6) ad))) (aa (dq aT hr (aa (ac 6) (aa (ac 6) ad))) ad)))) (af (ai (i:=8) aV.nd (dq bo hr (aa (dq aY hr (aa (ac 1) (aa (ac 6) ad))) (aa (dq aD hr (aa (ac 7) (aa (ac 7) ad))) ad)))) (aj (ak (dq d_ hr (aa (dq bq hr (aa (ac 4) (aa (ac 5) (aa (ac 7) ad)))) (aa (au (aa (dq aL hr (aa (ah ag (ac 5) ae (λ_ _=>rfl)) ad)) (aa (ah ag (ac 5) ae (λ_ _=>rfl)) ad))) (aa (ac 8) ad))))))))))),λds S k h=>?_⟩)
 ·obtain⟨_,_,_,_,_,_,rfl,_⟩:=h
  rfl
 ·obtain⟨x,y,s,z,v,r,rfl,hx,hy,hs,hz,hv,hr,w0,w⟩:=h;have sa:=hz.sub hx;have sb:=hv.sub hy;have sA:=(sa.mul sa).add (sb.mul sb);have sp:=(hs.sub hr).add sA;have sB:=sA.add sA;refine⟨x,y,rfl,z,v,rfl,x,y,z,v,rfl,hx.mono (by decide),hy.mono (by decide),hz.mono (by decide),hv.mono (by decide),_,_,rfl,sa.mono (by decide),sb.mono (by decide),w0,λh0=>?_⟩
  have w:=w h0;have h2:=HK h0;have st:=sp.div sB h2;have sq:=hs.div sA h0;have sE:=sq.sub (st.mul st);have sX:=hx.add (sa.mul st);have sY:=hy.add (sb.mul st);refine⟨s,r,rfl,hs.mono (by decide),hr.mono (by decide),_,_,rfl,(hs.sub hr).mono (by decide),sA.mono (by decide),_,_,rfl,sA.mono (by decide),sA.mono (by decide),_,_,rfl,h2,sp.mono (by decide),sB.mono (by decide),?_⟩
  refine⟨s,_,rfl,h0,hs.mono (by decide),sA.mono (by decide),_,_,rfl,st.mono (by decide),st.mono (by decide),_,_,rfl,sq.mono (by decide),(st.mul st).mono (by decide),?_⟩
  refine⟨_,_,_,_,_,rfl,hx.mono (by decide),hy.mono (by decide),sa.mono (by decide),sb.mono (by decide),st.mono (by decide),?_⟩
  exact⟨_,rfl,few,_,_,_,_,_,rfl,sX.mono (by decide),sY.mono (by decide),sb.neg.mono (by decide),sa.mono (by decide),sE.mono (by decide),w⟩
theorem xc:Fd ((2:Int):Rat):=Cj (by decide)
theorem uN {u x y:Rat}:PP x y=Pq u (qo x) (qo y):=by
 unfold PP Pq qo;rw [jS (u:=u),jS (u:=u)]
def cE (x y s z v r:Rat):Rat:=s / ((z - x)*(z - x)+(v - y)*(v - y)) - cT x y s z v r*cT x y s z v r
def eX (x y s z v r:Rat):Rat:=x+cT x y s z v r*(z - x)
def eY (x y s z v r:Rat):Rat:=y+cT x y s z v r*(v - y)
set_option maxHeartbeats 4000000
theorem xi {x y s z v r:Rat} (e0:0 < cE x y s z v r):cL x y s z v r=[MP (eX x y s z v r) (eY x y s z v r) (-(v - y)) (z - x) (cE x y s z v r),MP (eX x y s z v r) (eY x y s z v r) (- -(v - y)) (-(z - x)) (cE x y s z v r)]:=by
 show mM (x+(z - x)*cT x y s z v r) (y+(v - y)*cT x y s z v r) _ _ (cE x y s z v r)=_
 unfold mM;rw [if_neg (by grind),if_neg (by grind),Rat.mul_comm (z - x),Rat.mul_comm (v - y)]
 rfl
theorem JL {x y s z v r:Rat} (e0:¬ 0 < cE x y s z v r):((cL x y s z v r).length:Int) < 2:=by
 show((mM (x+(z - x)*cT x y s z v r) (y+(v - y)*cT x y s z v r) _ _ (cE x y s z v r)).length:Int) < 2
 unfold mM
 split
 ·show(0:Int) < 2; decide
 ·split
  ·show(1:Int) < 2; decide
  ·exfalso; grind
def gQ:bC:=λds S k=>match ds with
 | [.non,.non,.non,.non]=>False/\k .non S
 | _=>False
theorem iA:ao ["middle","point","outer","inner","found"] ["middle","point","outer","inner"] (am jo):=cA
theorem vL (Fn:bL K "both_ends" "both_ends" jo f fd) (iO:aE P w K mg base "circles_meet" 40 dM) (fY:mg "len"=none):
  aI P w K mg base ca 41 f fd ["middle","point","outer","inner"] (cg K gQ):=by
 refine Fn.okJ iA (λds S k h=>?_) (λcdv A outer s H E hr=>⟨_,(af (ai (i:=4) iA.nd (dq iO hr (aa (ac 0) (aa (ac 2) (aa (ac 1) (aa (ac 3) ad)))))) (af (aC (ax uG (cI wQ rfl fY qe (aa (ac 4) ad)) ae (aF _)) (aj dj) aG) (aj (ak (ac 4))))),λds S k h=>?_⟩)
 ·unfold gQ at h
  split at h
  ·rfl
  ·exact h.elim
 ·unfold gQ at h
  split at h
  ·exact h.1.elim
  ·exact h.elim
def kj (aO:Addr):re:=λds S k e=>∃ x y z v s r:Rat,ds=[PP x y,PP z v,fr s,fr r]/\Sz 110 x/\Sz 110 y/\Sz 110 z/\Sz 110 v/\Sz 60 s/\Sz 60 r/\(((z - x)*(z - x)+(v - y)*(v - y)=0\/¬ 0 < cE x y s z v r)->∀ S',cC S S'->e aO S')/\((z - x)*(z - x)+(v - y)*(v - y)≠0->0 < cE x y s z v r->∀ S' p,cC S S'->S' p=some (.lst (cL x y s z v r))->k (.ref p) S')
theorem ue {P:Program} {w:World} {K:Fg} {mg:Str->Option Value} {base:Heap} {f:Addr} {fd:FuncData} {aO:Addr} (Fn:bL K "both_ends" "both_ends" jo f fd) (hZ:ui P w K mg base "circles_meet" 40 (io aO)) (fY:mg "len"=none) (fD:mg "NoMeet"=some (.ref aO)) (tO:PySem.W.excIn K aO [.type "ValueError",.type "Exception",.type "BaseException",.type "object"] "ValueError.__new__"=true):
  aI P w K mg base (lh P w) 41 f fd ["middle","point","outer","inner"] (Ht K (kj aO)):=by
 refine Fn.okX iA (λds S k x h=>?_) (λcdv A outer s H E ex hr hE=>⟨_,(af (ai (i:=4) iA.nd (tx hE hZ (hr.mono (by decide)) rfl (aa (ac 0) (aa (ac 2) (aa (ac 1) (aa (ac 3) ad)))))) (af (aC (ax uG (cI wQ rfl fY qe (aa (ac 4) ad)) ae (aF _)) (aj (sF hE PySem.F.excBase_ValueError tO fD rfl)) aG) (aj (ak (ac 4))))),λds S k h=>?_⟩)
 ·obtain⟨_,_,_,_,_,_,rfl,_⟩:=h
  rfl
 ·obtain⟨x,y,z,v,s,r,rfl,hx,hy,hz,hv,hs,hr,w0,w⟩:=h;refine⟨x,y,s,z,v,r,rfl,hx,hy,hs,hz,hv,hr,λz=>w0 (.inl z) _ (cC.refl _),λn0 S1 p e1 hp=>⟨_,av,?_⟩⟩
  by_cases e0:0 < cE x y s z v r
  ·rw [xi e0];have w:=w n0 e0;rw [xi e0] at w;exact w _ p (e1.trans (cC.new hp)) av
  ·exact aU (λ_=>w0 (.inr e0) _ (e1.trans (cC.new hp))) (λl=>absurd (JL e0) l)
def eD:bC:=λds S k=>match ds with
 | [.non,.non,.non,.non]=>False/\k .non S
 | _=>False
theorem aW:ao ["middle","point","outer","inner","ends","start","way","pen"] ["middle","point","outer","inner"] (am eE):=cA
theorem pz (Fn:bL K "inverting_cell" "inverting_cell" eE f fd) (mB:aE P w K mg base "both_ends" 41 gQ) (az:aE P w K mg base "place_of" 1 cS) (aJ:aE P w K mg base "plain_way" 36 cn) (bq:aE P w K mg base "moved" 36 gL) (aY:aE P w K mg base "over" 35 fB) (aq:aE P w K mg base "product_of_ways" 36 aQ) (bo:aE P w K mg base "minus" 35 gJ) (aR:aE P w K mg base "plain_point" 1 cU):
  aI P w K mg base ca 42 f fd ["middle","point","outer","inner"] (cg K eD):=by
 refine Fn.okJ aW (λds S k h=>?_) (λcdv A outer s H E hr=>⟨_,(af (ai (i:=4) aW.nd (dq mB hr (aa (ac 0) (aa (ac 1) (aa (ac 2) (aa (ac 3) ad)))))) (af (ai (i:=5) aW.nd (dq az hr (aa (ac 0) ad))) (af (ai (i:=6) aW.nd (dq aJ hr (aa (ac 5) (aa (dq az hr (aa (ac 1) ad)) ad)))) (af (ai (i:=7) aW.nd (dq bq hr (aa (ac 5) (aa (ac 6) (aa (dq aY hr (aa (dq bo hr (aa (ac 2) (aa (ac 3) ad))) (aa (dq aq hr (aa (ac 6) (aa (ac 6) ad))) ad))) ad))))) (aj (ak (au (aa (ac 0) (aa (ac 1) (aa (ah ag (ac 4) ae (λ_ _=>rfl)) (aa (ah ag (ac 4) ae (λ_ _=>rfl)) (aa (dq aR hr (aa (ac 7) ad)) ad)))))))))))),λds S k h=>?_⟩)
 ·unfold eD at h
  split at h
  ·rfl
  ·exact h.elim
 ·unfold eD at h
  split at h
  ·exact h.1.elim
  ·exact h.elim
def fH (aO:Addr):re:=λds S k e=>∃ x y z v s r:Rat,ds=[PP x y,PP z v,fr s,fr r]/\Sz 110 x/\Sz 110 y/\Sz 110 z/\Sz 110 v/\Sz 60 s/\Sz 60 r/\(((z - x)*(z - x)+(v - y)*(v - y)=0\/¬ 0 < cE x y s z v r)->∀ S',cC S S'->e aO S')/\((z - x)*(z - x)+(v - y)*(v - y)≠0->0 < cE x y s z v r->∀ S' a b,cC S S'->cL x y s z v r=[a,b]->k (.tup [PP x y,PP z v,a,b,PP (x+(z - x)*((s - r) / aA x y z v)) (y+(v - y)*((s - r) / aA x y z v))]) S')
theorem oj {P:Program} {w:World} {K:Fg} {mg:Str->Option Value} {base:Heap} {f:Addr} {fd:FuncData} {aO:Addr} (Fn:bL K "inverting_cell" "inverting_cell" eE f fd) (aR:aE P w K mg base "plain_point" 1 cU) (bq:aE P w K mg base "moved" 36 gL) (aY:aE P w K mg base "over" 35 fB) (aq:aE P w K mg base "product_of_ways" 36 aQ) (bo:aE P w K mg base "minus" 35 gJ) (aJ:aE P w K mg base "plain_way" 36 cn) (az:aE P w K mg base "place_of" 1 cS) (kU:ui P w K mg base "both_ends" 41 (kj aO)):
  aI P w K mg base (lh P w) 42 f fd ["middle","point","outer","inner"] (Ht K (fH aO)):=by
 refine Fn.okX aW (λds S k x h=>?_) (λcdv A outer s H E ex hr hE=>⟨_,(af (ai (i:=4) aW.nd (tx hE kU (hr.mono (by decide)) rfl (aa (ac 0) (aa (ac 1) (aa (ac 2) (aa (ac 3) ad)))))) (af (ai (i:=5) aW.nd (dq az hr (aa (ac 0) ad))) (af (ai (i:=6) aW.nd (dq aJ hr (aa (ac 5) (aa (dq az hr (aa (ac 1) ad)) ad)))) (af (ai (i:=7) aW.nd (dq bq hr (aa (ac 5) (aa (ac 6) (aa (dq aY hr (aa (dq bo hr (aa (ac 2) (aa (ac 3) ad))) (aa (dq aq hr (aa (ac 6) (aa (ac 6) ad))) ad))) ad))))) (aj (ak (au (aa (ac 0) (aa (ac 1) (aa (ah ag (ac 4) ae (λ_ _=>rfl)) (aa (ah ag (ac 4) ae (λ_ _=>rfl)) (aa (dq aR hr (aa (ac 7) ad)) ad)))))))))))),λds S k h=>?_⟩)
 ·obtain⟨_,_,_,_,_,_,rfl,_⟩:=h
  rfl
 ·obtain⟨x,y,z,v,s,r,rfl,hx,hy,hz,hv,hs,hr,w0,w⟩:=h;have sa:=hz.sub hx;have sb:=hv.sub hy;have sA:=(sa.mul sa).add (sb.mul sb);have sd:=hs.sub hr;refine⟨x,y,z,v,s,r,rfl,hx,hy,hz,hv,hs,hr,w0,λh0 e0 S1 p e1 hp=>?_⟩
  have sq:=sd.div sA h0;have ec:=xi e0;refine⟨x,y,rfl,z,v,rfl,x,y,z,v,rfl,hx.mono (by decide),hy.mono (by decide),hz.mono (by decide),hv.mono (by decide),s,r,rfl,hs.mono (by decide),hr.mono (by decide),_,_,_,_,rfl,sa.mono (by decide),sb.mono (by decide),sa.mono (by decide),sb.mono (by decide),_,_,rfl,h0,sd.mono (by decide),sA.mono (by decide),_,_,_,_,_,rfl,hx.mono (by decide),hy.mono (by decide),sa.mono (by decide),sb.mono (by decide),sq.mono (by decide),?_⟩
  rw [ec] at hp;exact⟨_,_,hp,rfl,_,_,hp,rfl,_,_,rfl,few,w h0 e0 _ _ _ e1 ec⟩
def jN:bC:=λds S k=>∃ x y z v a b:Rat,ds=[PP x y,PP z v,W a b]/\Sz 4 x/\Sz 4 y/\Sz 40 z/\Sz 40 v/\Sz 4 a/\Sz 4 b/\a*a+b*b≠0/\∀ h,h=(a*(z - x)+b*(v - y)) / (a*a+b*b)->k (PP (x+a*(h+h)) (y+b*(h+h))) S
theorem i9:ao ["middle","about","way","start","half"] ["middle","about","way"] (am jw):=cA
theorem sk (Fn:bL K "round_point" "round_point" jw f fd) (az:aE P w K mg base "place_of" 1 cS) (aY:aE P w K mg base "over" 35 fB) (aq:aE P w K mg base "product_of_ways" 36 aQ) (aJ:aE P w K mg base "plain_way" 36 cn) (aR:aE P w K mg base "plain_point" 1 cU) (bq:aE P w K mg base "moved" 36 gL) (aT:aE P w K mg base "plus" 35 fR):
  aI P w K mg base ca 37 f fd ["middle","about","way"] (cg K jN):=by
 refine Fn.okJ i9 (λds S k h=>?_) (λcdv A outer s H E hr=>⟨_,(af (ai (i:=3) i9.nd (dq az hr (aa (ac 0) ad))) (af (ai (i:=4) i9.nd (dq aY hr (aa (dq aq hr (aa (ac 2) (aa (dq aJ hr (aa (ac 3) (aa (dq az hr (aa (ac 1) ad)) ad))) ad))) (aa (dq aq hr (aa (ac 2) (aa (ac 2) ad))) ad)))) (aj (ak (dq aR hr (aa (dq bq hr (aa (ac 3) (aa (ac 2) (aa (dq aT hr (aa (ac 4) (aa (ac 4) ad))) ad)))) ad)))))),λds S k h=>?_⟩)
 ·obtain⟨_,_,_,_,_,_,rfl,_⟩:=h
  rfl
 ·obtain⟨x,y,z,v,a,b,rfl,hx,hy,hz,hv,ha,hb,h0,w⟩:=h;have sa:=hz.sub hx;have sb:=hv.sub hy;have sp:=(ha.mul sa).add (hb.mul sb);have sn:=(ha.mul ha).add (hb.mul hb);have sh:=sp.div sn h0;have s2:=sh.add sh;exact⟨x,y,rfl,z,v,rfl,x,y,z,v,rfl,hx.mono (by decide),hy.mono (by decide),hz.mono (by decide),hv.mono (by decide),a,b,_,_,rfl,ha.mono (by decide),hb.mono (by decide),sa.mono (by decide),sb.mono (by decide),a,b,_,_,rfl,ha.mono (by decide),hb.mono (by decide),ha.mono (by decide),hb.mono (by decide),_,_,rfl,h0,sp.mono (by decide),sn.mono (by decide),_,_,rfl,sh.mono (by decide),sh.mono (by decide),x,y,a,b,_,rfl,hx.mono (by decide),hy.mono (by decide),ha.mono (by decide),hb.mono (by decide),s2.mono (by decide),_,_,rfl,w _ rfl⟩
set_option maxHeartbeats 4000000
theorem yP {l:List (List Int×D)}:(cN l).length=l.length:=P5 _
theorem zG {S:DH} {p f:Addr} {c:List (List Int×Rat)} {e1:Nat} {k:DK} (hp:S p=none) (hf:S f=some (lp (ig c) e1)) (nd:(c.map (·.1)).Nodup) (kk:∀ S2,cC S S2->S2 p=some (.lst (cN (ig (nz c))))->k (.ref p) S2):
  ∀ (aw don:List (List Int×Rat)) (l0:Option D) (S1:DH),c=don++aw->cC S S1->S1 p=some (.lst (cN (ig (nz don))))->c.length<=100->
   cz (λS=>S f=some (lp (ig c) e1)) p (mf 0) (tW (uL (xM Oq (xM Cu (Eg (kD 1) (kD 0)) (dC (.int 0))) (dC (.int 0)))) (DY (nJ (kD 0) (nJ (Eg (kD 1) (kD 0)) y8)))) k (aw.map λx=>jC x.1) (cN (ig (nz don))) [l0,some (.ref f)] S1
 | [],don,l0,S1,ec,x1,h1,_=>by
  rw [Qn] at ec;subst ec;exact⟨x1 _ _ hf,kk S1 x1 h1⟩
 | q::aw,don,l0,S1,ec,x1,h1,hl=>by
  have f1:=x1 _ _ hf;have g1:fX (ig c) q.1=some (fr q.2):=m_ nd (by rw [ec]; simp)
  have hd:don.length < 100:=by have:=congrArg List.length ec; rw [Ql,Qe] at this; omega
  have lz:(nz don).length<=don.length:=List.length_filter_le _ _;have ec':c=(don++[q])++aw:=by rw [ec]; simp
  refine⟨f1,_,_,q.1,_,f1,rfl,g1,y6 (λh0=>?_) (λh0=>?_)⟩
  ·have q0:q.2≠0:=λz=>h0 (by rw [z]; rfl)
   refine⟨_,_,q.1,_,f1,rfl,g1,few,h1,?_,?_⟩
   ·rw [yP,gM];exact lim (by omega)
   ·have ea:cN (ig (nz don))++[D.tup [jC q.1,fr q.2]]=cN (ig (nz (don++[q]))):=by
     simp [nz,List.filter_append,q0,cN,lm]
    rw [ea];exact zG hp hf nd kk aw (don++[q]) _ _ ec' (x1.put hp) av hl
  ·have q0:q.2=0:=Rf.mp h0;have ea:cN (ig (nz don))=cN (ig (nz (don++[q]))):=by
    simp [nz,List.filter_append,q0]
   rw [ea];exact zG hp hf nd kk aw (don++[q]) _ _ ec' x1 (by rw [h1,ea]) hl
theorem Dr.non' {a p:Addr} {S S':DH} (h:Dr a S S') (hp:S' p=none):S p=none:=by
 cases e:S p with
 | none=>rfl
 | some o=>rw [h.2 p o (h.1.ne hp) e] at hp; cases hp
theorem Dr.putN {a p:Addr} {S T:DH} {o:DO} (d:Dr a S T) (hp:S p=none) (n:p≠a):Dr a S (put T p o):=⟨d.1.set n,λb u nb e=>by
 rw [cQ (λz=>by rw [z,hp] at e; cases e)]
 exact d.2 b u nb e⟩
theorem Dr.keep {a p:Addr} {S S':DH} {o:DO} (h:Dr a S S') (n:p≠a) (e:S p=some o):S' p=some o:=h.2 p o n e
theorem Fp (a:Rat):0<=a*a:=by
 rcases(Rat.le_total:(0:Rat)<=a\/a<=0) with h | h
 ·exact Qo h h
 ·have:a*a=(-a)*(-a):=by grind
  rw [this];exact Qo (by grind) (by grind)
theorem k9 {a b:Rat} (h:a*a+b*b=0):a=0/\b=0:=by
 have h1:=Fp a;have h2:=Fp b;have e1:a*a=0:=by grind
 have e2:b*b=0:=by grind
 exact⟨by rcases Qf.mp e1 with y | y <;> exact y,by rcases Qf.mp e2 with y | y <;> exact y⟩
theorem vK.ext {a:Addr} {S S':DH} (h:vK S a) (x:cC S S'):vK S' a:=by
 obtain⟨n,b,e,q⟩:=h;exact⟨n,b,x _ _ e,q⟩
theorem Dr.ext {a:Addr} {S S' S'':DH} (h:Dr a S S') (x:cC S' S''):Dr a S S'':=⟨h.1.ext x,λb o n e=>x _ _ (h.2 b o n e)⟩
theorem JY {x y z v q A:Rat} (hA:A=(z - x)*(z - x)+(v - y)*(v - y)) (h0:A≠0):Ia ((2:Int):Rat) [.invert x y q] (qo z,qo v)=some (qo (x+(z - x)*(q / A)),qo (y+(v - y)*(q / A))):=by
 have es:ll ((2:Int):Rat) (fe (qo z,qo v) x y)=(A,0):=by
  unfold ll fe qo;simp only [qa,qs,qm];refine Qk ?_ ?_ <;> dsimp only
  ·rw [hA]; grind
  ·grind
 have en:qN ((2:Int):Rat) (ll ((2:Int):Rat) (fe (qo z,qo v) x y))=A*A:=by rw [es]; unfold qN; dsimp only; grind
 have ne:A*A≠0:=λz=>(Qf.mp z).elim h0 h0
 have e1:Av ((2:Int):Rat) (.invert x y q) (qo z,qo v)=some (qa (qo x) (qm ((2:Int):Rat) (fe (qo z,qo v) x y).1 (qm ((2:Int):Rat) (qo q) (qI ((2:Int):Rat) (ll ((2:Int):Rat) (fe (qo z,qo v) x y))))),qa (qo y) (qm ((2:Int):Rat) (fe (qo z,qo v) x y).2 (qm ((2:Int):Rat) (qo q) (qI ((2:Int):Rat) (ll ((2:Int):Rat) (fe (qo z,qo v) x y)))))):=if_neg (by rw [en]; exact ne)
 unfold Ia;rw [e1]
 show some _=some _
 congr 1
 rw [es];have ei:qI ((2:Int):Rat) (A,0)=(1 / A,0):=by
  unfold qI qN;refine Qk ?_ ?_ <;> dsimp only
  ·rw [show A*A - ((2:Int):Rat)*(0*0)=A*A by grind]
   grind
  ·grind
 rw [ei];unfold fe qo;simp only [qa,qs,qm];refine Qk (Qk ?_ ?_) (Qk ?_ ?_) <;> dsimp only <;> grind
theorem D6:Sz 4 ((2:Int):Rat):=⟨by decide,by decide⟩
theorem JT {l:Ld} (ok:tU l) (sz:s9 l):∀ l'∈[l],tU l'/\s9 l':=λl' hl=>by
 simp only [P8,Qh,or_false] at hl;subst hl;exact⟨ok,sz⟩
theorem Hh {u q:Rat}:N u q 0=.tup [fr q,fr 0]:=jS.symm
set_option maxHeartbeats 4000000
def h_:bC:=λds S k=>∃ x y z v s r:Rat,ds=[PP x y,PP z v,fr s,fr r]/\Sz 110 x/\Sz 110 y/\Sz 110 z/\Sz 110 v/\Sz 60 s/\Sz 60 r/\∀ S' d,cC S S'->d=.non\/d=PP (x+(z - x)*((s - r) / aA x y z v)) (y+(v - y)*((s - r) / aA x y z v))->k d S'
theorem dS:ao ["middle","point","outer","inner","found"] ["middle","point","outer","inner"] (am gW):=cA
theorem p7 {aO:Addr} (Fn:bL K "_law_cell_pen" "_law_cell_pen" gW f fd) (fE:ui P w K mg base "inverting_cell" 42 (fH aO)) (fD:mg "NoMeet"=some (.ref aO)) (jW:PySem.W.exmOne K (.ref aO) (.ref aO)=some true):
  aI P w K mg base ca 43 f fd ["middle","point","outer","inner"] (cg K h_):=by
 refine Fn.okJ dS (λds S k h=>?_) (λcdv A outer s H E hr=>⟨_,(af (ai (i:=4) dS.nd g_) (af (Bu (i:=4) (λex=>(Kw ag (ER fE (hr.mono (by decide)) rfl (aa (ac 0) (aa (ac 1) (aa (ac 2) (aa (ac 3) ad))))) ae (λ_ _=>rfl))) (λ_=>hr.hd) rfl rfl rfl rfl fD dS.nd rfl (.inl rfl) (λv=>(aj (ai (i:=4) dS.nd g_)))) (aj (ak (ac 4))))),λds S k h=>?_⟩)
 ·obtain⟨_,_,_,_,_,_,rfl,_⟩:=h
  rfl
 ·obtain⟨x,y,z,v,s,r,rfl,hx,hy,hz,hv,hs,hr,w⟩:=h;refine⟨x,y,z,v,s,r,rfl,hx,hy,hz,hv,hs,hr,λ_ S' e=>⟨jW,w S' .non e (.inl rfl)⟩,λh0 e0 S' a b e ec=>?_⟩
  exact w S' _ e (.inr rfl)
theorem Nj {a b r:Rat}:L3 a b r (nz (lg a b r)):=⟨⟨fi jv,λp hp=>HJ p (eG.mp hp).1,λp hp=>(eG.mp hp).2,λk=>FD jv k⟩⟩
def f_:bC:=λds S k=>∃ (s:Addr) (x y:Rat),ds=[.ref s,PP x y]/\vK S s/\Sz 4 x/\Sz 4 y/\∀ S' p ep (a b t:Rat),Dr s S S'->p≠s->Sz 4 a->Sz 4 b->Sz 4 t->0 < t->a*a+b*b≠0->S' p=some (lp (ig (nz (lg a b (t - (a*x+b*y))))) ep)->k (.ref p) S'
theorem b_:ao ["state","middle","value","rest","sums","first","second"] ["state","middle"] (am gh):=cA
theorem oG (Fn:bL K "_law_some_line" "_law_some_line" gh f fd) (bF:aE P w K mg base "_law_small" 3 eu) (fj:aE P w K mg base "_law_plus" 3 jj) (iB:aE P w K mg base "_law_times" 3 ke) (cm:aE P w K mg base "_law_minus" 3 fI) (cG:aE P w K mg base "_law_above" 3 fU) (zJ:mg "dict"=none):
  aI P w K mg base ca 4 f fd ["state","middle"] (cg K f_):=by
 refine Fn.okJ b_ (λds S k h=>?_) (λcdv A outer s H E hr=>⟨_,(af (oI (i:=5) (j:=6) rfl b_.nd (by decide) (aa (dq bF hr (aa (ac 0) ad)) (aa (dq bF hr (aa (ac 0) ad)) ad))) (af (aC (WJ.pt (wV (ax nA (ah ag (ac 5) ae (λ_ _=>rfl)) ae (aF _)) (tG (ax nA (ah ag (ac 6) ae (λ_ _=>rfl)) ae (aF _))))) (aj (ai (i:=5) b_.nd (au (aa ae (aa ae ad))))) aG) (af (ai (i:=2) b_.nd (dq fj hr (aa (dq iB hr (aa (ac 5) (aa (ah ag (ah ag (ac 1) ae (λ_ _=>rfl)) ae (λ_ _=>rfl)) ad))) (aa (dq iB hr (aa (ac 6) (aa (ah ag (ah ag (ac 1) ae (λ_ _=>rfl)) ae (λ_ _=>rfl)) ad))) ad)))) (af (ai (i:=3) b_.nd (dq cm hr (aa (dq cG hr (aa (ac 0) ad)) (aa (ac 2) ad)))) (af (ai (i:=4) b_.nd (Ab hr (ni (au (aa ae (aa ae ad))) (ac 5) (ni (au (aa ae (aa ae ad))) (ac 6) (ni (au (aa ae (aa ae ad))) (ac 3) C8))))) (aj (ak (Dq (Ka hr) rfl zJ GQ (aa (zR rfl (ot (N:=["powers","sums"]) (cap:=[none,some 4]) rfl rfl rfl rfl ⟨rfl,trivial⟩ rfl rfl ⟨⟨rfl,.inl rfl,.inl rfl⟩,trivial⟩) (rn (ac 4)) (λ_ _ _ _=>(aP (i:=0) (show List.Nodup (["powers","sums"]:List Str) from by decide +kernel))) (λ_ _ _ _=>(ax Jv (ah ag (vp hr (ac 1) (ac 0) (λ_ _=>rfl)) ae (λ_ _=>rfl)) ae (aF _))) (λ_ _ _ _=>(au (aa (ac 0) (aa (vp hr (ac 1) (ac 0) (λ_ _=>rfl)) ad))))) ad))))))))),λds S k h=>?_⟩)
 ·obtain⟨_,_,_,rfl,_⟩:=h
  rfl
 ·obtain⟨s,x,y,rfl,hS,hx,hy,w⟩:=h;refine⟨s,rfl,hS,λa S1 za d1=>⟨s,rfl,d1.1,λb S2 zb d2=>?_⟩⟩
  dsimp only;refine A0 (λL S'=>S'=S2/\∃ a:Rat,L=[some (.ref s),some (PP x y),none,none,none,some (fr a),some (fr b)]/\Sz 4 a/\a*a+b*b≠0) ?_ (λgo=>?_)
  ·rintro L S' ⟨rfl,a,rfl,za,h0⟩;have m1:=za.mul hx;have m2:=zb.mul hy;have m3:=m1.add m2;refine⟨_,_,_,_,_,rfl,bG a x,za.num.mono (by decide),za.den.mono (by decide),hx.num.mono (by decide),hx.den.mono (by decide),w_ a x,_,_,_,_,_,rfl,bG b y,zb.num.mono (by decide),zb.den.mono (by decide),hy.num.mono (by decide),hy.den.mono (by decide),w_ b y,_,_,_,_,_,rfl,bG (a*x) (b*y),m1.num.mono (by decide),m1.den.mono (by decide),m2.num.mono (by decide),m2.den.mono (by decide),wZ (a*x) (b*y),?_⟩
   refine⟨s,rfl,d2.1,λt S3 zt t0 d3=>⟨t,_,rfl,zt.mono (by decide),m3.mono (by decide),λp hp e0=>?_⟩⟩
   have nd:=jv (a:=a) (b:=b) (r:=t - (a*x+b*y));refine⟨few,few,few,e0,ig (lg a b (t - (a*x+b*y))),av,rfl,by show 3<=15; decide,λe1=>?_⟩
   have D3:Dr s S S3:=d1.trans (d2.trans d3);have np:p≠s:=D3.1.ne hp;have Sp:=D3.non' hp;have dd:=(D3.putN (o:=lp [] e0) Sp np).putN (o:=lp (jt [] (ig (lg a b (t - (a*x+b*y))))) e1) Sp np;have yy:put (put S3 p (lp [] e0)) p (lp (jt [] (ig (lg a b (t - (a*x+b*y))))) e1) p=some (lp (ig (lg a b (t - (a*x+b*y)))) e1):=by rw [av,p_ (f:=fr) nd]
   generalize put (put S3 p (lp [] e0)) p (lp (jt [] (ig (lg a b (t - (a*x+b*y))))) e1)=T3 at dd yy ⊢
   refine⟨_,_,yy,λp2 hp2=>?_⟩
   rw [GU];exact zG (S:=T3) hp2 yy nd (λT4 x4 h4=>.inr ⟨_,h4,λp3 hp3 e5=>w _ p3 e5 a b t (dd.ext (x4.trans (cC.new hp3))) ((dd.ext x4).1.ne hp3) za zb zt t0 h0 (by rw [av,p_ (f:=fr) (fi nd)])⟩) (lg a b (t - (a*x+b*y))) [] none _ rfl (cC.new hp2) av (by show 3<=100; decide)
  ·refine aU (λe1=>aU (λe2=>?_) (λe2=>?_)) (λe1=>?_)
   ·exact⟨few,go _ _ ⟨rfl,1,rfl,⟨by decide,by decide⟩,λz=>absurd (k9 z).1 (by decide)⟩⟩
   ·exact go _ _ ⟨rfl,a,rfl,za,λz=>e2 (by rw [(k9 z).2]; rfl)⟩
   ·exact go _ _ ⟨rfl,a,rfl,za,λz=>e1 (by rw [(k9 z).1]; rfl)⟩
abbrev wy (w:Rat×Rat):D:=W w.1 w.2
def Ex (w:Rat×Rat):Prop:=Sz 4 w.1/\Sz 4 w.2/\0 < w.2
theorem AL {S:DH} {p s:Addr} {k:DK} (ps:p≠s) (hp:S p=none) (kk:∀ (S2:DH) (ws:List (Rat×Rat)),Dr s S S2->S2 p=some (.lst (ws.map wy))->ws.length<=5->(∀ w∈ws,Ex w)->k (.ref p) S2):
  ∀ (its:List D) (ws:List (Rat×Rat)) (l0:Option D) (S1:DH),ws.length+its.length<=5->Dr s S S1->S1 p=some (.lst (ws.map wy))->(∀ w∈ws,Ex w)->
   cz (λ_=>True) p (mf 0) (jR (DY (nJ (nN eu (nJ (kD 1) y8)) (nJ (nN fU (nJ (kD 1) y8)) y8)))) k its (ws.map wy) [l0,some (.ref s)] S1
 | [],ws,l0,S1,hl,d1,h1,hw=>⟨trivial,kk S1 ws d1 h1 (by simpa using hl) hw⟩
 | d::its,ws,l0,S1,hl,d1,h1,hw=>by
  rw [Qe] at hl;refine⟨trivial,s,rfl,d1.1,λa S2 za d2=>⟨s,rfl,d2.1,λb S3 zb b0 d3=>⟨few,d3.keep ps (d2.keep ps h1),by rw [P5]; exact lim (by omega),?_⟩⟩⟩
  have ea:ws.map wy++[D.tup [fr a,fr b]]=(ws++[(a,b)]).map wy:=by rw [List.map_append]; rfl
  rw [ea];refine AL ps hp kk its (ws++[(a,b)]) _ _ (by rw [Ql]; show ws.length+1+its.length<=5; omega) ((d1.trans (d2.trans d3)).putN hp ps) av (λw h=>?_)
  rcases List.mem_append.mp h with h | h
  ·exact hw w h
  ·rw [List.mem_singleton.mp h];exact⟨za,zb,b0⟩
theorem ML {x y z v a b h X Y:Rat} (hh:h*(a*a+b*b)=a*(z - x)+b*(v - y)) (eX:x+a*(h+h)=X) (eY:y+b*(h+h)=Y):(X - z)*(X - z)+(Y - v)*(Y - v)=(x - z)*(x - z)+(y - v)*(y - v)/\∀ q t:Rat,t*((X - x)*(X - x)+(Y - y)*(Y - y))=q->2*((z - x)*(x+(X - x)*t - x)+(v - y)*(y+(Y - y)*t - y))=q:=by
 subst eX eY;exact⟨by grind,λq t ht=>by grind⟩
theorem Ep {a b c d:Rat}:m8 ((2:Int):Rat) (qs (qo c) (qo a)) (qs (qo d) (qo b))=((c - a)*(c - a)+(d - b)*(d - b),0):=by
 unfold m8 qo;simp only [qs,qm,qa];refine Qk ?_ ?_ <;> dsimp only <;> grind
theorem Nm {u q:Rat}:jQ 8 (N u q 0) (N u q 0)=some true:=by
 rw [Hh];have h:=l5 (n:=7) (lF (n:=6) (p:=q) (q:=q)) (lF (n:=6) (p:=0) (q:=0))
 simpa using h
theorem Ma {u x y:Rat}:jQ 7 (Pq u (qo x) (qo y)) (PP x y)=some true:=by
 rw [<- uN];have h0:jQ 5 (fr (0:Rat)) (fr 0)=some true:=by rw [lF]; rfl
 have h:=l5 (n:=6) (l5 (n:=5) (lF (n:=4) (p:=x) (q:=x)) h0) (l5 (n:=5) (lF (n:=4) (p:=y) (q:=y)) h0);simp only [decide_true,Bool.and_true] at h;exact h
set_option maxHeartbeats 4000000
def ms:bC:=λds S k=>∃ (p q:Addr) (c:List (List Int×Rat)) (ep:Nat) (x y z v o i:Rat) (ws:List (Rat×Rat)) (B:Int) (nB:Nat),ds=[.ref p,PP x y,PP z v,.tup [fr o,fr i],.ref q]/\S p=some (lp (ig c) ep)/\S q=some (.lst (ws.map wy))/\ws.length<=5/\(∀ w∈ws,Ex w)/\Cv 28 900 6 c/\0 < B/\Bt nB B/\nB<=3000/\(∀ p∈c,(p.2.den:Int) ∣ B)/\Sz 4 x/\Sz 4 y/\Sz 40 z/\Sz 40 v/\Sz 30 (z - x)/\Sz 30 (v - y)/\Sz 60 o/\Sz 60 i/\Sz 26 (o - i)/\o≠i/\(∀ X Y:Rat,2*((z - x)*(X - x)+(v - y)*(Y - y))=o - i->i_ ((2:Int):Rat) (qo X) (qo Y) c (0,0)=(0,0))/\∀ S',cC S S'->k (.bl true) S'
theorem di:ao ["line","middle","about","squares","ways","lead","way","outer","inner","point","pen"] ["line","middle","about","squares","ways"] (am mF):=cA
theorem wH (Fn:bL K "_law_runs" "_law_runs" mF f fd) (cm:aE P w K mg base "_law_minus" 3 fI) (jI:aE P w K mg base "round_point" 37 jN) (fO:aE P w K mg base "square_apart" 41 i6) (Ei:aE P w K mg base "led" 40 CP) (g9:aE P w K mg base "_law_cell_pen" 43 h_) (oo:aE P w K mg base "on_curve" 41 oy):
  aI P w K mg base ca 44 f fd ["line","middle","about","squares","ways"] (cg K ms):=by
 refine Fn.okJ di (λds S k h=>?_) (λcdv A outer s H E hr=>⟨_,(af (iU (ac 3) (nj (n:=2) rfl (cD (aP (i:=7) di.nd) (cD (aP (i:=8) di.nd) jX)))) (af (ai (i:=5) di.nd (au (aa rO (aa (ah ag (ah ag (ac 1) ae (λ_ _=>rfl)) ae (λ_ _=>rfl)) (aa (ah ag (ah ag (ac 1) ae (λ_ _=>rfl)) ae (λ_ _=>rfl)) (aa (dq cm hr (aa (ac 7) (aa (ac 8) ad))) ad)))))) (af (fh PassesOwn.never rfl (ac 4) (aP (i:=6) di.nd) (af (ai (i:=9) di.nd (dq jI hr (aa (ac 1) (aa (ac 2) (aa (ac 6) ad))))) (af (aC (ax (AB hr) (dq fO hr (aa (ac 2) (aa (ac 9) ad))) (dq fO hr (aa (ac 2) (aa (ac 1) ad))) (aF _)) (aj (ak fA)) aG) (aj (aC (ax (AB hr) (ac 9) (ac 1) (aF _)) (af (ai (i:=10) di.nd (dq Ei hr (aa (iV (aa (ac 5) ad)) (aa (ac 9) ad)))) (aj (aC (WJ.pt (rE (po (fb (dq oo hr (aa (ac 0) (aa (ac 10) ad))))) (rj (ax (D4 hr) (dq g9 hr (aa (ac 1) (aa (ac 9) (aa (ac 7) (aa (ac 8) ad))))) (au (aa g_ (aa (ac 10) ad))) (by with_unfolding_all rfl))))) (aj (ak fA)) aG))) aG))))) (aj (ak fA))))),λds S k h=>?_⟩)
 ·obtain⟨_,_,_,_,_,_,_,_,_,_,_,_,_,rfl,_⟩:=h
  rfl
 ·obtain⟨p,q,c,ep,x,y,z,v,o,i,ws,B,nB,rfl,hp,hq,hl,hws,hc,B0,bB,hnB,hB,hx,hy,hz,hv,sa,sb,ho,hi,sq,oi,hln,w⟩:=h;obtain⟨ow,hi2,how⟩:=uX (.inr ⟨q,rfl,hq⟩:IsL S (.ref q) (ws.map wy));refine⟨([fr o,fr i],none),rfl,rfl,rfl,?_⟩;refine⟨o,i,rfl,ho.mono (by decide),hi.mono (by decide),few,?_⟩
  refine⟨_,hi2,?_⟩;refine dH (λr L S'=>cC S S'/\∃ (rs:List (Rat×Rat)) (l6 l9 l10:Option D),L=[some (.ref p),some (PP x y),some (PP z v),some (.tup [fr o,fr i]),some (.ref q),some (NJ (.invert x y (o - i))),l6,some (fr o),some (fr i),l9,l10]/\r=rs.map wy/\∀ w∈rs,Ex w) (λr L S' h=>how S' h.1) ?_ ?_ _ _ _ ⟨cC.refl _,ws,none,none,none,rfl,rfl,hws⟩
  ·rintro d r L S1 N1 ⟨e1,rs,l6,l9,l10,rfl,er,hr⟩ hN;cases rs with
   | nil=>cases er
   | cons wd rs=>
    cases er;obtain⟨ha,hb,hb0⟩:=hr wd P_;have tl:∀ w∈rs,Ex w:=λm hm=>hr m (Qa _ hm)
    have n0:wd.1*wd.1+wd.2*wd.2≠0:=λe=>by
     rw [(k9 e).2] at hb0;exact absurd hb0 (by decide)
    refine⟨x,y,z,v,wd.1,wd.2,rfl,hx,hy,hz,hv,ha,hb,n0,λh eh=>?_⟩
    have sh:Sz 86 h:=by rw [eh]; exact(((ha.mul sa).add (hb.mul sb)).div ((ha.mul ha).add (hb.mul hb)) n0).mono (by decide)
    have hh:h*(wd.1*wd.1+wd.2*wd.2)=wd.1*(z - x)+wd.2*(v - y):=by rw [eh]; exact Rat.div_mul_cancel n0
    have s2:Sz 88 (h+h):=by
     rw [show h+h=2*h by grind]
     exact((show Sz 2 (2:Rat) from⟨by decide,by decide⟩).mul sh).mono (by decide)
    clear eh;have dX:Sz 92 (x+wd.1*(h+h) - x):=by rw [fx]; exact(ha.mul s2).mono (by decide)
    have dY:Sz 92 (y+wd.2*(h+h) - y):=by rw [fx]; exact(hb.mul s2).mono (by decide)
    have sX:Sz 100 (x+wd.1*(h+h)):=(hx.add (ha.mul s2)).mono (by decide)
    have sY:Sz 100 (y+wd.2*(h+h)):=(hy.add (hb.mul s2)).mono (by decide)
    generalize eX:x+wd.1*(h+h)=X at dX sX ⊢
    generalize eY:y+wd.2*(h+h)=Y at dY sY ⊢
    obtain⟨r1,r2⟩:=ML hh eX eY;clear eX eY hh s2 sh;have q4:∀ {n:Nat} {q:Rat},Sz n q->n<=14000->Sq 14400 (qo q):=λh hn=>⟨h.mono (by omega),Sz.zero.mono (by decide)⟩
    have z0:Sz 1000 (0:Rat):=Sz.zero.mono (by decide)
    refine⟨((2:Int):Rat),qo z,qo v,qo X,qo Y,by rw [<- uN,<- uN],xc,q4 hz (by decide),q4 hv (by decide),q4 sX (by decide),q4 sY (by decide),λS2 e2=>⟨((2:Int):Rat),qo z,qo v,qo x,qo y,by rw [<- uN,<- uN],xc,q4 hz (by decide),q4 hv (by decide),q4 hx (by decide),q4 hy (by decide),λS3 e3=>?_⟩⟩
    rw [Ep,Ep,r1];refine⟨_,Nm,mK (λh=>by cases h) (λ_=>?_)⟩
    refine⟨_,Fx,jU (λne=>?_) (λ_=>hN _ _ ⟨e1.trans (e2.trans e3),rs,_,_,_,rfl,rfl,tl⟩)⟩
    have D0:aA x y X Y≠0:=λe=>ne (by have:=k9 e; exact⟨by grind,by grind⟩)
    have sD:Sz 369 (aA x y X Y):=((dX.mul dX).add (dY.mul dY)).mono (by decide)
    have st:=sq.div sD D0;have sU:Sz 500 (x+(X - x)*((o - i) / aA x y X Y)):=(hx.add (dX.mul st)).mono (by decide)
    have sV:Sz 500 (y+(Y - y)*((o - i) / aA x y X Y)):=(hy.add (dY.mul st)).mono (by decide)
    have l1:=JY (q:=o - i) (A:=aA x y X Y) (x:=x) (y:=y) (z:=X) (v:=Y) rfl D0;have on:=hln _ _ (r2 (o - i) ((o - i) / aA x y X Y) (Rat.div_mul_cancel D0));generalize eU:x+(X - x)*((o - i) / aA x y X Y)=U at sU l1 on
    generalize eV:y+(Y - y)*((o - i) / aA x y X Y)=V at sV l1 on
    refine⟨few,λp1 hp1=>⟨((2:Int):Rat),(qo X,qo Y),(qo U,qo V),.ref p1,[.invert x y (o - i)],congrArg (λt=>[D.ref p1,t]) uN,.inr ⟨p1,rfl,av⟩,xc,D6,sX.mono (by decide),z0,sY.mono (by decide),z0,by show 1<=6; decide,JT (λz=>oi (by grind)) ⟨hx.mono (by decide),hy.mono (by decide),sq⟩,l1,λS4 e4=>?_⟩⟩
    have X4:=e1.trans (e2.trans (e3.trans ((cC.new hp1).trans e4)));refine⟨((2:Int):Rat),qo U,qo V,500,4,p,c,ep,B,nB,rfl,X4 _ _ hp,hc,B0,bB,hnB,hB,by decide,D6,by decide,⟨sU,Sz.zero.mono (by decide)⟩,⟨sV,Sz.zero.mono (by decide)⟩,by decide,by decide,λS5 e5=>?_⟩
    rw [decide_eq_true on];refine mK (λh=>by cases h) (λ_=>?_)
    refine⟨x,y,X,Y,o,i,rfl,hx.mono (by decide),hy.mono (by decide),sX.mono (by decide),sY.mono (by decide),ho,hi,λS6 d e6 hd=>⟨few,_,rfl,?_⟩⟩
    have X6:=X4.trans (e5.trans e6);rw [eU,eV] at hd;rcases hd with rfl | rfl
    ·exact .inl ⟨rfl,Ej (hN _ _ ⟨X6,rs,_,_,_,rfl,rfl,tl⟩)⟩
    ·exact .inr ⟨_,true,rfl,Ma,mK (λh=>by cases h) (λ_=>hN _ _ ⟨X6,rs,_,_,_,rfl,rfl,tl⟩)⟩
  ·rintro L S1 ⟨e1,rs,l6,l9,l10,rfl,er,_⟩;exact w S1 e1
set_option maxHeartbeats 4000000
theorem Gw {a b r x y m t X Y:Rat} (eT:m*(a*a+b*b)=t) (hV:a*x+b*y+r=t) (m0:m≠0) (h:2*((x+a*-m*(1 / 2) - x)*(X - x)+(y+b*-m*(1 / 2) - y)*(Y - y))=m*t+m*t - m*t):a*X+b*Y+r=0:=by
 have:m*(a*X+b*Y+r)=0:=by grind
 exact(Qf.mp this).resolve_left m0
theorem Ho {x y z v q X Y:Rat} (h:2*((z - x)*(X - x)+(v - y)*(Y - y))=q):(z - x)*X+(v - y)*Y+(0 - ((z - x)*x+(v - y)*y+1 / 2*q))=0:=by grind
theorem Me {t:Rat}:qk t (0,0)=(0,0):=Qk (Rat.mul_zero _) (Rat.mul_zero _)
def Lp:Rat:=⟨1,7,by decide,by decide⟩
def xu:bC:=λds S k=>∃ ns:List Int,ds=[.rl (List.map D.int ns)]/\ns.length<=63/\∀ S',k (.bl true) S'
theorem kR:ao ["script","k","state","line","ways","told","middle","about","outer","inner","mine"] ["script"] (am EL):=cA
theorem KM (Fn:bL K "law" "law" EL f fd) (kh:aE P w K mg base "_law_state" 2 kC) (du:aE P w K mg base "_law_plain_point" 4 ff) (gw:aE P w K mg base "_law_some_line" 4 f_) (cG:aE P w K mg base "_law_above" 3 fU) (bF:aE P w K mg base "_law_small" 3 eu) (lW:aE P w K mg base "line_cell" 37 mS) (rf:aE P w K mg base "draws" 42 wb) (je:aE P w K mg base "_law_runs" 44 ms) (fj:aE P w K mg base "_law_plus" 3 jj) (dZ:aE P w K mg base "drawn_line" 38 iJ) (cm:aE P w K mg base "_law_minus" 3 fI) (fG:aE P w K mg base "normal" 36 lI) (rB:mg "range"=none) (lc:mg "max"=none) (C_:mg "min"=none) (fY:mg "len"=none):
  aI P w K mg base ca 45 f fd ["script"] (cg K xu):=by
 refine Fn.okJ kR (λds S k h=>?_) (λcdv A outer s H E hr=>⟨_,(af (Cz PassesOwn.never rfl rfl rB (aa (cI Ii rfl lc wC (aa ae (aa (cI M7 rfl C_ JB (aa (cI wQ rfl fY qe (aa (ac 0) ad)) (aa ae ad))) ad))) ad) (aP (i:=1) kR.nd) (af (ai (i:=2) kR.nd (dq kh hr (aa (ac 0) (aa (ac 1) ad)))) (af (oI (i:=6) (j:=7) rfl kR.nd (by decide) (aa (dq du hr (aa (ac 2) ad)) (aa (dq du hr (aa (ac 2) ad)) ad))) (af (ai (i:=3) kR.nd (dq gw hr (aa (ac 2) (aa (ac 6) ad)))) (af (xD (iv:=4) kR.nd rfl (ot (N:=["turn","state"]) (cap:=[none,some 2]) rfl rfl rfl rfl ⟨rfl,trivial⟩ rfl rfl ⟨⟨rfl,.inl rfl,.inl rfl⟩,trivial⟩) rfl rB (aa ae ad) (λ_ _ _ _=>(aP (i:=0) (show List.Nodup (["turn","state"]:List Str) from by decide +kernel))) (λ_ _ _ _=>(au (aa (dq bF hr (aa (ac 1) ad)) (aa (dq cG hr (aa (ac 1) ad)) ad))))) (af (ai (i:=5) kR.nd (dq lW hr (aa (ac 3) (aa (ac 6) ad)))) (af (aC (ax AG (dq rf hr (aa (ac 3) (aa (ac 6) (aa (ah ag (ac 5) ae (λ_ _=>rfl)) (aa (ah ag (ac 5) ae (λ_ _=>rfl)) (aa (ah ag (ac 5) ae (λ_ _=>rfl)) ad)))))) fA (aF _)) (aj (ak fA)) aG) (af (aC (po (fb (dq je hr (aa (ac 3) (aa (ac 6) (aa (ah ag (ac 5) ae (λ_ _=>rfl)) (aa (eZ (ac 5) (cf ae) gP) (aa (ac 4) ad)))))))) (aj (ak fA)) aG) (af (oI (i:=8) (j:=9) rfl kR.nd (by decide) (aa (dq cG hr (aa (ac 2) ad)) (aa (dq fj hr (aa (dq cG hr (aa (ac 2) ad)) (aa (au (aa ae (aa ae ad))) ad))) ad))) (aj (aC (WJ.pt (wV (ax (x5 hr) (ac 7) (ac 6) (aF _)) (tG (ax (x5 hr) (ac 8) (ac 9) (aF _))))) (af (ai (i:=10) kR.nd (dq dZ hr (aa (ac 6) (aa (ac 7) (aa (dq cm hr (aa (ac 8) (aa (ac 9) ad))) ad))))) (af (aC (po (fb (dq je hr (aa (ac 10) (aa (ac 6) (aa (ac 7) (aa (au (aa (ac 8) (aa (ac 9) ad))) (aa (ac 4) ad)))))))) (aj (ak fA)) aG) (aj (aC (WJ.pt (wV (fb (dq rf hr (aa (ac 3) (aa (ac 6) (aa (ac 7) (aa (ac 8) (aa (ac 9) ad))))))) (tG (ax (x5 hr) (dq fG hr (aa (ac 3) ad)) (ac 10) (aF _))))) (aj (ak fA)) aG)))) aG))))))))))) (aj (ak fA))),λds S k h=>?_⟩)
 ·obtain⟨_,rfl,_⟩:=h
  rfl
 ·obtain⟨ns,rfl,hl,w⟩:=h;have hb:∀ z:Int,0<=z->z<=63->-(2 ^ 62)<=z/\z < 2 ^ 62:=λz _ _=>by omega
  refine⟨hb _ (by split <;> (try split) <;> omega) (by rw [P5]; split <;> (try split) <;> omega),?_⟩
  refine xw (P:=λd=>∃ i:Int,d=.int i/\0<=i) (λL S'=>∃ r1 r2 r3 r4 r5 r6 r7 r8 r9 r10,L=[some (.rl (List.map D.int ns)),r1,r2,r3,r4,r5,r6,r7,r8,r9,r10]) (λ_ _ _=>trivial) ?_ (λL S' _=>w S') _ ?_ _ _ ⟨_,_,_,_,_,_,_,_,_,_,rfl⟩
  ·rintro d L S1 Nx ⟨i,rfl,hi⟩ ⟨r1,r2,r3,r4,r5,r6,r7,r8,r9,r10,rfl⟩ hN;refine⟨ns,i,rfl,hi,λs n0 b hs hnb=>?_⟩
   have hS:vK (put S1 s (.lst [.int n0,.bl b])) s:=⟨n0,b,av,hnb⟩;generalize put S1 s (.lst [.int n0,.bl b])=T1 at hS ⊢;refine⟨s,rfl,hS,λx y T2 hx hy d2=>⟨s,rfl,d2.1,λz v T3 hz hv d3=>?_⟩⟩
   refine⟨s,x,y,rfl,d3.1,hx,hy,λT4 p ep a b t d4 np za zb zt t0 h0 hp=>?_⟩
   refine⟨by decide,λq hq=>?_⟩
   have qs:q≠s:=d4.1.ne hq;refine AL (S:=T4) qs hq (λT5 ws d5 hq5 hwl hws=>?_) _ [] _ _ (by decide) (Dr.new d4.1 hq) av (λw h=>nomatch h)
   have zr:Sz 22 (t - (a*x+b*y)):=(zt.sub ((za.mul hx).add (zb.mul hy))).mono (by decide)
   have hp5:=d5.keep np hp;have hV:a*x+b*y+(t - (a*x+b*y))=t:=by grind
   have hS5:=d5.1;clear hp hS d2 d3 d4 d5 hs hnb hq;generalize t - (a*x+b*y)=r at zr hp5 hV
   have l3:=Nj (a:=a) (b:=b) (r:=r);have hval:∀ X Y:Rat,a*X+b*Y+r=0->i_ ((2:Int):Rat) (qo X) (qo Y) (nz (lg a b r)) (0,0)=(0,0):=λX Y h=>by
    rw [Es];exact Qk h (by show a*0+b*0=(0:Rat); grind)
   have hden:∀ p∈nz (lg a b r),(p.2.den:Int) ∣ (a.den:Int)*(b.den:Int)*(r.den:Int):=λp hp=>Kx (P:=λq=>(q.den:Int) ∣ (a.den:Int)*(b.den:Int)*(r.den:Int)) ⟨(b.den:Int)*(r.den:Int),by rw [Int.mul_assoc]⟩ ⟨(a.den:Int)*(r.den:Int),by rw [Int.mul_comm (a.den:Int),Int.mul_assoc]⟩ ⟨(a.den:Int)*(b.den:Int),Int.mul_comm _ _⟩ p (eG.mp hp).1
   have c6:Cv 28 900 6 (nz (lg a b r)):=(Ie (m:=22) (za.mono (by decide)) (zb.mono (by decide)) zr).mono (by decide) (by decide) (by decide)
   generalize nz (lg a b r)=c at l3 hval hden c6 hp5
   have c30:=l3.cv (m:=30) (za.mono (by decide)) (zb.mono (by decide)) (zr.mono (by decide))
   have ne:=Fe h0;have tn:t≠0:=λz=>by rw [z] at t0; exact absurd t0 (by decide)
   have lin:=l3.lin (za.mono (by decide)) (zb.mono (by decide)) (zr.mono (by decide)) ne
   have B0:0 < (a.den:Int)*(b.den:Int)*(r.den:Int):=Int.mul_pos (Int.mul_pos (fo a) (fo b)) (fo r);have bB:Bt 30 ((a.den:Int)*(b.den:Int)*(r.den:Int)):=((za.den.mul zb.den).mul zr.den).mono (by decide)
   refine⟨p,c,ep,x,y,rfl,hp5,c30,l3.deg ne,hx,hy,by rw [l3.g1,l3.g2]; exact h0,by rw [l3.g1,l3.g2,l3.g3,hV]; exact tn,λT6 m e6 em=>?_⟩
   rw [l3.g1,l3.g2,l3.g3,hV] at em;have eT:m*(a*a+b*b)=t:=by rw [em]; exact Rat.div_mul_cancel h0
   have eV:m*(a*a+b*b)=a*x+b*y+r:=by rw [hV]; exact eT
   have tr:=JV eV;rw [hV] at tr;rw [l3.g1,l3.g2,AK eT,MO];have sm:Sz 21 m:=by rw [em]; exact(zt.div ((za.mul za).add (zb.mul zb)) h0).mono (by decide)
   clear em;have m0:=Eh eT tn;have pos:=yk eT h0 tn;have sh:Sz 3 (1 / 2:Rat):=AZ;have s2:Sz 2 (2:Rat):=⟨by decide,by decide⟩
   have sx:=(za.mul sm.neg).mul sh;have sy:=(zb.mul sm.neg).mul sh;have ss:=sm.mul zt;have sss:Sz 60 (m*t+m*t):=by
    rw [show m*t+m*t=2*(m*t) by grind]
    exact(s2.mul ss).mono (by decide)
   have hp6:=e6 _ _ hp5;have h1:(x+a*-m*(1 / 2) - x)*(x+a*-m*(1 / 2) - x)+(y+b*-m*(1 / 2) - y)*(y+b*-m*(1 / 2) - y)≠0:=by
    rw [fx,fx];intro z;refine HY (x:=0) (y:=0) m0 h0 ?_;have z1:=k9 z;rw [z1.1,z1.2];exact⟨Rat.add_zero 0,Rat.add_zero 0⟩
   refine⟨p,c,ep,x,y,_,_,_,_,rfl,hp6,lin,hx,hy,(hx.add sx).mono (by decide),(hy.add sy).mono (by decide),by rw [fx]; exact sx.mono (by decide),by rw [fx]; exact sy.mono (by decide),sss,ss.mono (by decide),by rw [fx]; exact ss.mono (by decide),by grind,pos,h1,λT7 rb e7 hrb=>?_⟩
   have hrt:rb=true:=hrb.mpr ⟨λz=>by grind,⟨-m*(1 / 2),λz=>?_,λk=>?_⟩,yY eT h0 tn⟩
   rotate_left
   ·rcases Qf.mp z with y | y
    ·exact m0 (by grind)
    ·exact absurd y (by grind)
   ·rw [show gR c k=gR (lg a b r) k from l3.res.at_ k,xh,xh,tr,fx,fx]
    split
    ·grind
    split
    ·grind
    split
    ·grind
    ·grind
   subst hrt;have hp7:=e7 _ _ hp6;have hq7:=e7 _ _ (e6 _ _ hq5);have hS7:=(hS5.ext e6).ext e7;clear hp6 hp5 hq5 hS5 e6 e7 hrb;refine⟨(by decide:¬ (HT.dL 3 0 (some 1)=0/\HT.dL 3 3 none=3)),p,q,c,ep,x,y,_,_,_,_,ws,_,30,rfl,hp7,hq7,hwl,hws,c6,B0,bB,by decide,hden,hx,hy,(hx.add sx).mono (by decide),(hy.add sy).mono (by decide),by rw [fx]; exact sx.mono (by decide),by rw [fx]; exact sy.mono (by decide),sss,ss.mono (by decide),by rw [fx]; exact ss.mono (by decide),λz=>by grind,λX Y h=>hval X Y (Gw eT hV m0 h),λT8 e8=>mK (λh=>by cases h) (λ_=>?_)⟩
   clear tr eT eV m0 pos sx sy ss sss h1 sm;refine⟨s,rfl,hS7.ext e8,λo T9 zo o0 d9=>⟨s,rfl,d9.1,λj T10 zj j0 d10=>⟨few,_,_,_,_,_,rfl,by have:=fo j; omega,zj.num.mono (by decide),zj.den.mono (by decide),by decide,by decide,wZ j Lp,?_⟩⟩⟩
   have s17:Sz 3 Lp:=⟨by decide,by decide⟩
   have zi:Sz 8 (j+Lp):=(zj.add s17).mono (by decide)
   have i0:0 < j+Lp:=by
    have:(0:Rat) < Lp:=by decide
    grind
   generalize j+Lp=i at zi i0 ⊢
   have hp10:=d10.keep np (d9.keep np (e8 _ _ hp7));have hq10:=d10.keep qs (d9.keep qs (e8 _ _ hq7));clear hS7 hp7 hq7 e8 d9 d10 zj j0 hden hval;refine⟨_,Fx,jU (λne1=>⟨_,lF (n:=7),jU (λoi=>?_) (λ_=>hN _ _ ⟨_,_,_,_,_,_,_,_,_,_,rfl⟩)⟩) (λ_=>hN _ _ ⟨_,_,_,_,_,_,_,_,_,_,rfl⟩)⟩
   have hz0:(z - x)*(z - x)+(v - y)*(v - y)≠0:=λe=>ne1 (by have:=k9 e; exact⟨by grind,by grind⟩)
   have sa:=hz.sub hx;have sb:=hv.sub hy;have sd:Sz 13 (o - i):=(zo.sub zi).mono (by decide)
   have s00:Sz 1 (0:Rat):=⟨by decide,by decide⟩
   have sr:Sz 110 (0 - ((z - x)*x+(v - y)*y+1 / 2*(o - i))):=(s00.sub (((sa.mul hx).add (sb.mul hy)).add (sh.mul sd))).mono (by decide)
   refine⟨o,i,rfl,zo.mono (by decide),zi.mono (by decide),x,y,z,v,o - i,rfl,hx,hy,hz.mono (by decide),hv.mono (by decide),sa.mono (by decide),sb.mono (by decide),sd.mono (by decide),hz0,λT11 pm em nm e11 hnm hm=>?_⟩
   rw [C9] at hm;have lcv:=Ie (m:=110) (a:=z - x) (b:=v - y) (sa.mono (by decide)) (sb.mono (by decide)) sr
   obtain⟨B2,b20,bB2,dn2⟩:=AT (w:=110) (m:=3) lcv.hz lcv.hl;have cvM:=JZ hnm lcv (by decide) b20 dn2 (by decide)
   refine⟨few,pm,q,rT nm,em,x,y,z,v,o,i,ws,1,1,rfl,hm,e11 _ _ hq10,hwl,hws,cvM,by decide,by decide,by decide,KO,hx,hy,hz.mono (by decide),hv.mono (by decide),sa.mono (by decide),sb.mono (by decide),zo.mono (by decide),zi.mono (by decide),sd.mono (by decide),oi,λX Y h=>?_,λT12 e12=>mK (λh=>by cases h) (λ_=>?_)⟩
   ·obtain⟨t2,_,et⟩:=GC hnm lcv cvM ((2:Int):Rat) (qo X) (qo Y);rw [et,Es,show((z - x)*(qo X).1+(v - y)*(qo Y).1+(0 - ((z - x)*x+(v - y)*y+1 / 2*(o - i))),(z - x)*(qo X).2+(v - y)*(qo Y).2)=((0:Rat),(0:Rat)) from Qk (Ho h) (by show(z - x)*0+(v - y)*0=(0:Rat); grind)]
    exact Me
   have hp12:=e12 _ _ (e11 _ _ hp10);have hm12:=e12 _ _ hm;refine⟨p,c,ep,x,y,z,v,o,i,rfl,hp12,lin,hx,hy,hz.mono (by decide),hv.mono (by decide),sa.mono (by decide),sb.mono (by decide),zo.mono (by decide),zi.mono (by decide),sd.mono (by decide),o0,i0,hz0,λT13 rb e13 hrb=>xy (λhrt=>?_) (λ_=>hN _ _ ⟨_,_,_,_,_,_,_,_,_,_,rfl⟩)⟩
   obtain⟨B3,b30,bB3,dn3⟩:=AT (w:=30) (m:=3) c30.hz c30.hl;refine⟨p,c,ep,B3,rfl,e13 _ _ hp12,c30.nd,QH c30.hl (by decide),lin.ne,c30.two,lin.n0,b30,bB3.mono (by decide),dn3.up (by decide),λT14 p14 e14 n14 x14 hn14 h14=>?_⟩
   rw [C9] at h14;have nd2:((nz (lg (z - x) (v - y) (0 - ((z - x)*x+(v - y)*y+1 / 2*(o - i))))).map (·.1)).Nodup:=fi jv;obtain⟨r2,er1,er⟩:=O0 (c:=rT n14) (c':=rT nm) (by rw [j9,hn14.keys]; exact c30.nd) (by rw [j9,hnm.keys]; exact nd2)
   rw [Aq hn14 hnm c30.nd nd2 c30.two (λp hp=>HJ p (eG.mp hp).1) lin.n0 (λp hp=>(eG.mp hp).2),show gR (nz (lg (z - x) (v - y) (0 - ((z - x)*x+(v - y)*y+1 / 2*(o - i)))))=gR (lg (z - x) (v - y) (0 - ((z - x)*x+(v - y)*y+1 / 2*(o - i)))) from funext (FD jv)] at er
   have hr2:r2=true:=er.mpr (hrb.mp hrt).2.1;subst hr2;exact .inl ⟨_,_,_,_,true,h14,x14 _ _ (e13 _ _ hm12),er1,mK (λh=>by cases h) (λ_=>hN _ _ ⟨_,_,_,_,_,_,_,_,_,_,rfl⟩)⟩
  ·intro d hd;obtain⟨z,_,rfl⟩:=P4.mp hd;exact⟨_,rfl,by omega⟩
theorem Gm (ns:List Int) (h:ns.length<=63):xu [.rl (List.map D.int ns)] (He []) (λd _=>d=.bl true):=⟨ns,rfl,h,λ_=>rfl⟩
end My
def PySem.W.Fast.tw15759710727503161109:Unit:=()
def PySem.W.Fast.tw1455652729071485599:Unit:=()
def PySem.W.Fast.tw17852436674801279040:Unit:=()
def PySem.W.Fast.tw8206779709393984557:Unit:=()
def PySem.W.Fast.tw6974842585367374282:Unit:=()
def PySem.W.Fast.tw13955516821975679408:Unit:=()
def PySem.W.Fast.tw12993401061104589338:Unit:=()
def PySem.W.Fast.tw16918706595102269431:Unit:=()
def PySem.W.Fast.tw9064418848419122538:Unit:=()
def PySem.W.Fast.tw6295009598391475871:Unit:=()
def PySem.W.Fast.tw759631352247206587:Unit:=()
def PySem.W.Fast.tw8705139632134214763:Unit:=()
def PySem.W.Fast.tw14313839408914302227:Unit:=()
def PySem.W.Fast.tw15750043565714513659:Unit:=()
def PySem.W.Fast.tw8077525840865693393:Unit:=()
def PySem.W.Fast.tw16763054144521292557:Unit:=()
def PySem.W.Fast.tw14809350043401985663:Unit:=()
def PySem.W.Fast.tw17126795548785440816:Unit:=()
def PySem.W.Fast.tw3347104383053918072:Unit:=()
def PySem.W.Fast.tw16965029554392637402:Unit:=()
def PySem.W.Fast.tw3856855308648757947:Unit:=()
def PySem.W.Fast.tw15895975397909941748:Unit:=()
def PySem.W.Fast.tw13200694329766807979:Unit:=()
def PySem.W.Fast.tw7372745871323767581:Unit:=()
def PySem.W.Fast.tw8055113041141005791:Unit:=()
def PySem.W.Fast.tw5934675022779118009:Unit:=()
def PySem.W.Fast.tw16676913634362826567:Unit:=()
def PySem.W.Fast.tw17983025487372470423:Unit:=()
def PySem.W.Fast.tw595813076240690303:Unit:=()
def PySem.W.Fast.tw8476273089103663626:Unit:=()
def PySem.W.Fast.tw7916350733567135757:Unit:=()
def PySem.W.Fast.tw8492169400330402736:Unit:=()
def PySem.W.Fast.tw12528924234660881018:Unit:=()
def PySem.W.Fast.tw918353876392848526:Unit:=()
def PySem.W.Fast.tw4648415768541419835:Unit:=()
def PySem.W.Fast.tw5604957305875741759:Unit:=()
namespace My
open PySem PySem.Spec PyProof.Rows L2 DL HM
set_option maxHeartbeats 4000000
theorem K5 {l:PySem.W.OpenLaw} {w:World} {K:Fg} {h:Heap} {mg:Str->Option Value} {fa:Addr} (X:K.In h) (G:h.Ns mainGlobals mg) (hfa:mg "law"=some (.ref fa))
  {f1 f2 f3 f4 f5 f6 f7 f8 f9 f10 f11 f12 f13 f14 f15 f16 f17 f18 f19 f20 f21 f22 f23 f24 f25 f26 f27 f28 f29 f30 f31 f32 f33 f34 f35 f36 f37 f38 f39 f40 f41 f42 f43 f44 f45 f46 f47 f48 f49 f50 f51 f52 f53 f54 f55 f56 f57 f58 f59 f60 f61 f62 f63 f64 f65 f66 f67 f68 f69 f70 f71 f72 f73 f74 f75 f76 f77 f78 f79 f80 f81 f82 f83 f84 f85 f86 f87 f88:Addr} {cd1 cd2 cd3 cd4 cd5 cd6 cd7 cd8 cd9 cd10 cd11 cd12 cd13 cd14 cd15 cd16 cd17 cd18 cd19 cd20 cd21 cd22 cd23 cd24 cd25 cd26 cd27 cd28 cd29 cd30 cd31 cd32 cd33 cd34 cd35 cd36 cd37 cd38 cd39 cd40 cd41 cd42 cd43 cd44 cd45 cd46 cd47 cd48 cd49 cd50 cd51 cd52 cd53 cd54 cd55 cd56 cd57 cd58 cd59 cd60 cd61 cd62 cd63 cd64 cd65 cd66 cd67 cd68 cd69 cd70 cd71 cd72 cd73 cd74 cd75 cd76 cd77 cd78 cd79 cd80 cd81 cd82 cd83 cd84 cd85 cd86 cd87 cd88:Value}
  {sw:Addr} {BY:Option Addr} {Bk:Array (Option Value)} {Fc:Nat} {p0_ORIGIN:Addr} {od0_ORIGIN:Option Addr} {sl0_ORIGIN:Array (Option Value)} {n0_ORIGIN:Nat} {t0_0_ORIGIN t1_0_ORIGIN:Tok} {p1_ORIGIN:Addr} {od1_ORIGIN:Option Addr} {sl1_ORIGIN:Array (Option Value)} {n1_ORIGIN:Nat} {t0_1_ORIGIN t1_1_ORIGIN:Tok}
  {sL:Addr} {Ct:Option Addr} {BC:Array (Option Value)} {EF:Nat} {BF BU:Tok}
  {FP:Addr} {JD:Option Addr} {K6:Array (Option Value)} {Ly:Nat} {Kt La:Tok}
  {aO:Addr}
  (d1:DI K "common_divisor" gG f1 cd1)
  (d2:DI K "ratio" vR f2 cd2)
  (d3:DI K "plus" yS f3 cd3)
  (d4:DI K "minus" wu f4 cd4)
  (d5:DI K "times" we f5 cd5)
  (d6:DI K "over" zk f6 cd6)
  (d7:DI K "negative" oz f7 cd7)
  (d8:DI K "without_sign" i4 f8 cd8)
  (d9:DI K "whole_root" kd f9 cd9)
  (d10:DI K "square_root_or_none" dF f10 cd10)
  (d11:DI K "root_in" qb f11 cd11)
  (d12:DI K "is_plain" nV f12 cd12)
  (d13:DI K "with_sign_of" iX f13 cd13)
  (d14:DI K "made" ze f14 cd14)
  (d15:DI K "field_base" ko f15 cd15)
  (d16:DI K "share" vV f16 cd16)
  (d17:DI K "joined" rJ f17 cd17)
  (d18:DI K "root_negative" iq f18 cd18)
  (d19:DI K "root_plus" lZ f19 cd19)
  (d20:DI K "root_minus" km f20 cd20)
  (d21:DI K "root_times" kY f21 cd21)
  (d22:DI K "sign_of" pP f22 cd22)
  (d23:DI K "root_sign" lO f23 cd23)
  (d24:DI K "root_less" lC f24 cd24)
  (d25:DI K "one_field" lJ f25 cd25)
  (d26:DI K "ask_one_field" ib f26 cd26)
  (d27:DI K "way_between" jx f27 cd27)
  (d28:DI K "square_of_way" gZ f28 cd28)
  (d29:DI K "square_apart" iY f29 cd29)
  (d30:DI K "plain_point" jH f30 cd30)
  (d31:DI K "place_of" n_ f31 cd31)
  (d32:DI K "plain_way" lB f32 cd32)
  (d33:DI K "product_of_ways" fy f33 cd33)
  (d34:DI K "moved" vE f34 cd34)
  (d35:DI K "moved_by_root" il f35 cd35)
  (d36:DI K "both_moved" kF f36 cd36)
  (d37:DI K "square_of_unlike" dw f37 cd37)
  (d38:DI K "without_noughts" fL f38 cd38)
  (d39:DI K "common_multiple" fV f39 cd39)
  (d40:DI K "common_bottom" ii f40 cd40)
  (d41:DI K "tops_over" lD f41 cd41)
  (d42:DI K "normal_of_tops" gD f42 cd42)
  (d43:DI K "normal" tj f43 cd43)
  (d44:DI K "line_from" lA f44 cd44)
  (d45:DI K "degree_of" lV f45 cd45)
  (d46:DI K "drawn_line" kE f46 cd46)
  (d47:DI K "can_reach" lT f47 cd47)
  (d48:DI K "draws" w6 f48 cd48)
  (d49:DI K "line_cell" mP f49 cd49)
  (d50:DI K "surd_times" ku f50 cd50)
  (d51:DI K "surd_power" kf f51 cd51)
  (d52:DI K "surd_over" lL f52 cd52)
  (d53:DI K "powers_over" jE f53 cd53)
  (d54:DI K "side_over" mw f54 cd54)
  (d55:DI K "on_curve" n6 f55 cd55)
  (d56:DI K "surd_plus" lU f56 cd56)
  (d57:DI K "way_times" lP f57 cd57)
  (d58:DI K "way_plus" nY f58 cd58)
  (d59:DI K "way_minus" mT f59 cd59)
  (d60:DI K "way_mirrored" iQ f60 cd60)
  (d61:DI K "wholes_over" ju f61 cd61)
  (d62:DI K "turned" rK f62 cd62)
  (d63:DI K "quotient_of" jK f63 cd63)
  (d64:DI K "quotient_moved" gq f64 cd64)
  (d65:DI K "quotient_inverted" eI f65 cd65)
  (d66:DI K "flat" zM f66 cd66)
  (d67:DI K "point_of" oh f67 cd67)
  (d68:DI K "led" EC f68 cd68)
  (d69:DI K "_law_cell_at" iZ f69 cd69)
  (d70:DI K "_law_state" kN f70 cd70)
  (d71:DI K "_law_take" mz f71 cd71)
  (d72:DI K "_law_divisor" iN f72 cd72)
  (d73:DI K "_law_ratio" kP f73 cd73)
  (d74:DI K "_law_times" kQ f74 cd74)
  (d75:DI K "_law_small" kI f75 cd75)
  (d76:DI K "_law_plus" md f76 cd76)
  (d77:DI K "_law_minus" kM f77 cd77)
  (d78:DI K "_law_plain" kG f78 cd78)
  (d79:DI K "_law_plain_point" fg f79 cd79)
  (d80:DI K "_law_above" ki f80 cd80)
  (d81:DI K "circles_meet" fP f81 cd81)
  (d82:DI K "both_ends" jo f82 cd82)
  (d83:DI K "inverting_cell" eE f83 cd83)
  (d84:DI K "round_point" jw f84 cd84)
  (d85:DI K "_law_cell_pen" gW f85 cd85)
  (d86:DI K "_law_some_line" gh f86 cd86)
  (d87:DI K "_law_runs" mF f87 cd87)
  (d88:DI K "law" EL f88 cd88)
  (qr:PySem.W.nsIn K mainGlobals "ORIGIN"=some (some (.ref sw))) (pT:K.lookup sw=some ⟨.type "tuple",BY,.seq #[.ref p0_ORIGIN,.ref p1_ORIGIN] Fc,Bk⟩) (lg0_ORIGIN:K.lookup p0_ORIGIN=some ⟨.type "tuple",od0_ORIGIN,.seq #[.int 0 t0_0_ORIGIN,.int 1 t1_0_ORIGIN] n0_ORIGIN,sl0_ORIGIN⟩) (lg1_ORIGIN:K.lookup p1_ORIGIN=some ⟨.type "tuple",od1_ORIGIN,.seq #[.int 0 t0_1_ORIGIN,.int 1 t1_1_ORIGIN] n1_ORIGIN,sl1_ORIGIN⟩)
  (pG:PySem.W.nsIn K mainGlobals "NOUGHT"=some (some (.ref sL))) (p6:K.lookup sL=some ⟨.type "tuple",Ct,.seq #[.int 0 BF,.int 1 BU] EF,BC⟩)
  (zq:PySem.W.nsIn K mainGlobals "ONE"=some (some (.ref FP))) (zH:K.lookup FP=some ⟨.type "tuple",JD,.seq #[.int 1 Kt,.int 1 La] Ly,K6⟩)
  (pL:PySem.W.nsIn K mainGlobals "NoMeet"=some (some (.ref aO)))
  (nu:PySem.W.excIn K aO [.type "ValueError",.type "Exception",.type "BaseException",.type "object"] "ValueError.__new__"=true)
  (jW:PySem.W.exmOne K (.ref aO) (.ref aO)=some true)
  (hTr:l.prog.given.tree=none)
  (Fu:PySem.W.nsIn K mainGlobals "abs"=some none) (FA:PySem.W.nsIn K mainGlobals "zip"=some none) (C0:PySem.W.nsIn K mainGlobals "max"=some none) (FN:PySem.W.nsIn K mainGlobals "len"=some none) (yK:PySem.W.nsIn K mainGlobals "list"=some none) (s_:PySem.W.nsIn K mainGlobals "sorted"=some none) (Ew:PySem.W.nsIn K mainGlobals "set"=some none) (yL:PySem.W.nsIn K mainGlobals "dict"=some none) (wX:PySem.W.nsIn K mainGlobals "range"=some none) (FI:PySem.W.nsIn K mainGlobals "min"=some none):
  ∃ fd:FuncData,(∀ (s:Shared) (v:Value),BindsTo s fd ⟨[v],[]⟩ [("script",v)])/\∀ base:Heap,K.In base->base.Ns mainGlobals mg->qL mg base->PySem.W.CodeAll [] base->aI l.prog w K mg base ca 45 fa fd ["script"] (cg K xu):=by
 have e:=hfa.symm.trans (PySem.W.mg_of X G d88.a);cases e;have nM:=QO X G Fu;have FK:=QO X G FA;have lc:=QO X G C0;have fY:=QO X G FN;have pE:=QO X G yK;have tK:=QO X G s_;have EW:=QO X G Ew;have zJ:=QO X G yL;have rB:=QO X G wX;have C_:=QO X G FI;have fD:=PySem.W.mg_of X G pL;have oU:Dg K mg "ORIGIN" [[0,1],[0,1]]:=⟨sw,_,_,_,PySem.W.mg_of X G qr,pT,rfl,rfl,Qi rfl,.cons lg0_ORIGIN rfl rfl (Qi rfl) (.cons ⟨_,rfl⟩ (.cons ⟨_,rfl⟩ (.nil))) (.cons lg1_ORIGIN rfl rfl (Qi rfl) (.cons ⟨_,rfl⟩ (.cons ⟨_,rfl⟩ (.nil))) (.nil))⟩
 have a9:t5 K mg "NOUGHT" [0,1]:=⟨sL,_,_,_,PySem.W.mg_of X G pG,p6,rfl,rfl,Qi rfl,.cons ⟨_,rfl⟩ (.cons ⟨_,rfl⟩ (.nil))⟩
 have Dk:t5 K mg "ONE" [1,1]:=⟨FP,_,_,_,PySem.W.mg_of X G zq,zH,rfl,rfl,Qi rfl,.cons ⟨_,rfl⟩ (.cons ⟨_,rfl⟩ (.nil))⟩
 obtain⟨fd,Fn,hc,hb⟩:=d88.fn;refine⟨fd,hb,λbase _ _ hBl hCA=>?_⟩
 have bh:=d1.own (P:=l.prog) (w:=w) (base:=base) (ps:=["one","other"]) (k:=1) (F:=bO) X G λ_ F _=>oF F nM
 have cZ:=d2.own (P:=l.prog) (w:=w) (base:=base) (ps:=["top","bottom"]) (k:=34) (F:=gO) X G λ_ F _=>CZ F bh hBl hTr
 have aT:=d3.own (P:=l.prog) (w:=w) (base:=base) (ps:=["one","other"]) (k:=35) (F:=fR) X G λ_ F _=>HQ F cZ
 have bo:=d4.own (P:=l.prog) (w:=w) (base:=base) (ps:=["one","other"]) (k:=35) (F:=gJ) X G λ_ F _=>Er F cZ
 have aD:=d5.own (P:=l.prog) (w:=w) (base:=base) (ps:=["one","other"]) (k:=35) (F:=dU) X G λ_ F _=>Ea F cZ
 have aY:=d6.own (P:=l.prog) (w:=w) (base:=base) (ps:=["one","other"]) (k:=35) (F:=fB) X G λ_ F _=>GG F cZ
 have aL:=d7.own (P:=l.prog) (w:=w) (base:=base) (ps:=["one"]) (k:=1) (F:=cV) X G λ_ F _=>yw F
 have aN:=d8.own (P:=l.prog) (w:=w) (base:=base) (ps:=["one"]) (k:=1) (F:=cw) X G λ_ F _=>qG F nM
 have kW:=d9.own (P:=l.prog) (w:=w) (base:=base) (ps:=["number"]) (k:=34) (F:=kr) X G λ_ F _=>uE F hBl hTr
 have cx:=d10.own (P:=l.prog) (w:=w) (base:=base) (ps:=["number"]) (k:=35) (F:=dE) X G λ_ F _=>kJ F kW
 have dP:=d11.own (P:=l.prog) (w:=w) (base:=base) (ps:=["one"]) (k:=36) (F:=j7) X G λ_ F _=>zT F cx
 have bK:=d12.own (P:=l.prog) (w:=w) (base:=base) (ps:=["one"]) (k:=1) (F:=gj) X G λ_ F _=>yr F
 have a8:=d13.own (P:=l.prog) (w:=w) (base:=base) (ps:=["one","other"]) (k:=2) (F:=da) X G λ_ F _=>qT F aL
 have qj:=d14.own (P:=l.prog) (w:=w) (base:=base) (ps:=["part","under"]) (k:=37) (F:=wF) X G λ_ F _=>GV F dP aN aT a8 a9
 have bv:=d15.own (P:=l.prog) (w:=w) (base:=base) (ps:=["one","other"]) (k:=2) (F:=ef) X G λ_ F _=>uk F aN bK
 have dI:=d16.own (P:=l.prog) (w:=w) (base:=base) (ps:=["one","base"]) (k:=37) (F:=mX) X G λ_ F _=>Fb F bK dP aY aN a8 a9
 have fQ:=d17.own (P:=l.prog) (w:=w) (base:=base) (ps:=["part","portion","base"]) (k:=36) (F:=l_) X G λ_ F _=>Bg F aD a8
 have gU:=d18.own (P:=l.prog) (w:=w) (base:=base) (ps:=["one"]) (k:=2) (F:=ie) X G λ_ F _=>p5 F aL
 have fm:=d19.own (P:=l.prog) (w:=w) (base:=base) (ps:=["one","other"]) (k:=38) (F:=jf) X G λ_ F _=>xg F bv aT dI fQ
 have dh:=d20.own (P:=l.prog) (w:=w) (base:=base) (ps:=["one","other"]) (k:=39) (F:=iG) X G λ_ F _=>uC F fm gU
 have iI:=d21.own (P:=l.prog) (w:=w) (base:=base) (ps:=["one","other"]) (k:=38) (F:=kT) X G λ_ F _=>uq F bv dI aT aD fQ
 have mZ:=d22.own (P:=l.prog) (w:=w) (base:=base) (ps:=["number"]) (k:=1) (F:=j8) X G λ_ F _=>zK F
 have mG:=d23.own (P:=l.prog) (w:=w) (base:=base) (ps:=["one"]) (k:=36) (F:=lS) X G λ_ F _=>wg F bo aN aD mZ
 have lw:=d24.own (P:=l.prog) (w:=w) (base:=base) (ps:=["one","other"]) (k:=40) (F:=lE) X G λ_ F _=>wY F mG dh
 have mC:=d25.own (P:=l.prog) (w:=w) (base:=base) (ps:=["one","other"]) (k:=37) (F:=mE) X G λ_ F _=>xl F bK dP aY aN
 have im:=d26.own (P:=l.prog) (w:=w) (base:=base) (ps:=["points"]) (k:=38) (F:=ip) X G λ_ F _=>ql F bK mC
 have jF:=d27.own (P:=l.prog) (w:=w) (base:=base) (ps:=["one","other"]) (k:=40) (F:=jz) X G λ_ F _=>rX F dh
 have ij:=d28.own (P:=l.prog) (w:=w) (base:=base) (ps:=["way"]) (k:=39) (F:=gY) X G λ_ F _=>pZ F fm iI
 have fO:=d29.own (P:=l.prog) (w:=w) (base:=base) (ps:=["one","other"]) (k:=41) (F:=i6) X G λ_ F _=>qY F im ij jF
 have aR:=d30.own (P:=l.prog) (w:=w) (base:=base) (ps:=["place"]) (k:=1) (F:=cU) X G λ_ F _=>sj F a9
 have az:=d31.own (P:=l.prog) (w:=w) (base:=base) (ps:=["point"]) (k:=1) (F:=cS) X G λ_ F _=>xX F
 have aJ:=d32.own (P:=l.prog) (w:=w) (base:=base) (ps:=["one","other"]) (k:=36) (F:=cn) X G λ_ F _=>w5 F bo
 have aq:=d33.own (P:=l.prog) (w:=w) (base:=base) (ps:=["one","other"]) (k:=36) (F:=aQ) X G λ_ F _=>nR F aT aD
 have bq:=d34.own (P:=l.prog) (w:=w) (base:=base) (ps:=["place","way","by"]) (k:=36) (F:=gL) X G λ_ F _=>Di F aT aD
 have e_:=d35.own (P:=l.prog) (w:=w) (base:=base) (ps:=["place","way","square"]) (k:=38) (F:=hJ) X G λ_ F _=>pU F aD qj a8 FK
 have d_:=d36.own (P:=l.prog) (w:=w) (base:=base) (ps:=["place","way","square"]) (k:=39) (F:=iw) X G λ_ F _=>tV F aR aL e_
 have bJ:=d37.own (P:=l.prog) (w:=w) (base:=base) (ps:=["way"]) (k:=37) (F:=df) X G λ_ F _=>nD F aq
 have eN:=d37.ownX (P:=l.prog) (w:=w) (base:=base) (ps:=["way"]) (k:=37) (F:=(eK aO)) X G λ_ F=>lG F aq fD nu
 have fw:=d38.own (P:=l.prog) (w:=w) (base:=base) (ps:=["sums"]) (k:=1) (F:=fC) X G λ_ F _=>n9 F
 have aB:=d39.own (P:=l.prog) (w:=w) (base:=base) (ps:=["one","other"]) (k:=34) (F:=bH) X G λ_ F _=>n5 F bh hBl hTr
 have cF:=d40.own (P:=l.prog) (w:=w) (base:=base) (ps:=["fractions"]) (k:=35) (F:=fc) X G λ_ F _=>pO F aB
 have fk:=d41.own (P:=l.prog) (w:=w) (base:=base) (ps:=["curve","bottom"]) (k:=1) (F:=jg) X G λ_ F _=>vO F
 have gE:=d42.own (P:=l.prog) (w:=w) (base:=base) (ps:=["tops"]) (k:=2) (F:=f') X G λ_ F _=>oW F bh lc
 have fG:=d43.own (P:=l.prog) (w:=w) (base:=base) (ps:=["curve"]) (k:=36) (F:=lI) X G λ_ F _=>BH F gE fk cF fY pE
 have mO:=d44.own (P:=l.prog) (w:=w) (base:=base) (ps:=["place","across"]) (k:=37) (F:=mL) X G λ_ F _=>xj F fw aL aq
 have fq:=d45.own (P:=l.prog) (w:=w) (base:=base) (ps:=["curve"]) (k:=1) (F:=jb) X G λ_ F _=>wN F lc
 have dZ:=d46.own (P:=l.prog) (w:=w) (base:=base) (ps:=["middle","about","power"]) (k:=38) (F:=iJ) X G λ_ F _=>uF F az aJ bJ bq aY aT fG mO
 have lY:=d47.own (P:=l.prog) (w:=w) (base:=base) (ps:=["apart","outer","inner"]) (k:=41) (F:=mJ) X G λ_ F _=>wt F qj aL aD aT lw a9
 have rf:=d48.own (P:=l.prog) (w:=w) (base:=base) (ps:=["line","middle","about","outer","inner"]) (k:=42) (F:=wb) X G λ_ F _=>CO F fq dZ bo fG aJ az lY aq
 have lW:=d49.own (P:=l.prog) (w:=w) (base:=base) (ps:=["line","middle"]) (k:=37) (F:=mS) X G λ_ F _=>wR F fq az aT aq bq aL aY aR a9
 have bT:=d50.own (P:=l.prog) (w:=w) (base:=base) (ps:=["one","other","base"]) (k:=1) (F:=fT) X G λ_ F _=>uh F
 have fJ:=d51.own (P:=l.prog) (w:=w) (base:=base) (ps:=["one","power","base"]) (k:=2) (F:=kA) X G λ_ F _=>uA F bT
 have mm:=d52.own (P:=l.prog) (w:=w) (base:=base) (ps:=["number","base"]) (k:=38) (F:=mR) X G λ_ F _=>w9 F aY dI aB
 have gN:=d53.own (P:=l.prog) (w:=w) (base:=base) (ps:=["number","powers","base"]) (k:=39) (F:=jG) X G λ_ F _=>sJ F mm bT fJ lc tK EW
 have lK:=d54.own (P:=l.prog) (w:=w) (base:=base) (ps:=["curve","point","base"]) (k:=40) (F:=mo) X G λ_ F _=>wU F gN cF fk bT pE
 have oo:=d55.own (P:=l.prog) (w:=w) (base:=base) (ps:=["curve","point"]) (k:=41) (F:=oy) X G λ_ F _=>xI F lK bv fY
 have cr:=d40.own (P:=l.prog) (w:=w) (base:=base) (ps:=["fractions"]) (k:=35) (F:=dW) X G λ_ F _=>oR F aB
 have cO:=d50.own (P:=l.prog) (w:=w) (base:=base) (ps:=["one","other","base"]) (k:=1) (F:=jO) X G λ_ F _=>sf F
 have jq:=d56.own (P:=l.prog) (w:=w) (base:=base) (ps:=["one","other"]) (k:=1) (F:=lu) X G λ_ F _=>xn F
 have bI:=d57.own (P:=l.prog) (w:=w) (base:=base) (ps:=["way","by"]) (k:=1) (F:=js) X G λ_ F _=>wj F
 have gC:=d58.own (P:=l.prog) (w:=w) (base:=base) (ps:=["one","other"]) (k:=1) (F:=k8) X G λ_ F _=>xE F
 have mh:=d59.own (P:=l.prog) (w:=w) (base:=base) (ps:=["one","other"]) (k:=1) (F:=lX) X G λ_ F _=>vq F
 have b8:=d60.own (P:=l.prog) (w:=w) (base:=base) (ps:=["way"]) (k:=1) (F:=fK) X G λ_ F _=>qV F
 have cR:=d61.own (P:=l.prog) (w:=w) (base:=base) (ps:=["fractions","bottom"]) (k:=1) (F:=gI) X G λ_ F _=>rS F
 have oB:=d62.own (P:=l.prog) (w:=w) (base:=base) (ps:=["way","by"]) (k:=36) (F:=sO) X G λ_ F _=>BX F aT aD bo
 have iK:=d52.own (P:=l.prog) (w:=w) (base:=base) (ps:=["number","base"]) (k:=38) (F:=kB) X G λ_ F _=>uH F aY dI aB
 have jy:=d63.own (P:=l.prog) (w:=w) (base:=base) (ps:=["point","base"]) (k:=39) (F:=jA) X G λ_ F _=>tz F iK aB
 have gB:=d64.own (P:=l.prog) (w:=w) (base:=base) (ps:=["quotient","move"]) (k:=36) (F:=gF) X G λ_ F _=>oK F b8 cr bI cR gC
 have eJ:=d65.own (P:=l.prog) (w:=w) (base:=base) (ps:=["quotient","middle","power"]) (k:=36) (F:=eF) X G λ_ F _=>mH F cr cR mh bI b8 gC
 have zw:=d66.own (P:=l.prog) (w:=w) (base:=base) (ps:=["lead"]) (k:=37) (F:=yM) X G λ_ F _=>Hg F aq bq aY oB aD aJ oU a9 Dk
 have om:=d67.own (P:=l.prog) (w:=w) (base:=base) (ps:=["quotient","base"]) (k:=37) (F:=nT) X G λ_ F _=>x9 F jq cO fQ cZ
 have Ei:=d68.own (P:=l.prog) (w:=w) (base:=base) (ps:=["leads","point"]) (k:=40) (F:=CP) X G λ_ F _=>Ke F bv jy eJ gB zw om
 have i8:=d69.own (P:=l.prog) (w:=w) (base:=base) (ps:=["script","k"]) (k:=1) (F:=iW) X G λ_ F _=>qZ F fY
 have kh:=d70.own (P:=l.prog) (w:=w) (base:=base) (ps:=["script","k"]) (k:=2) (F:=kC) X G λ_ F _=>ux F i8
 have cq:=d71.own (P:=l.prog) (w:=w) (base:=base) (ps:=["state","many"]) (k:=1) (F:=jk) X G λ_ F _=>wA F
 have i5:=d72.own (P:=l.prog) (w:=w) (base:=base) (ps:=["one","other"]) (k:=1) (F:=iS) X G λ_ F _=>qO F nM
 have aZ:=d73.own (P:=l.prog) (w:=w) (base:=base) (ps:=["top","bottom"]) (k:=2) (F:=cJ) X G λ_ F _=>uB F i5
 have iB:=d74.own (P:=l.prog) (w:=w) (base:=base) (ps:=["one","other"]) (k:=3) (F:=ke) X G λ_ F _=>t9 F aZ
 have bF:=d75.own (P:=l.prog) (w:=w) (base:=base) (ps:=["state"]) (k:=3) (F:=eu) X G λ_ F _=>um F aZ cq
 have fj:=d76.own (P:=l.prog) (w:=w) (base:=base) (ps:=["one","other"]) (k:=3) (F:=jj) X G λ_ F _=>xk F aZ
 have cm:=d77.own (P:=l.prog) (w:=w) (base:=base) (ps:=["one","other"]) (k:=3) (F:=fI) X G λ_ F _=>uu F aZ
 have iF:=d78.own (P:=l.prog) (w:=w) (base:=base) (ps:=["fraction"]) (k:=1) (F:=kx) X G λ_ F _=>ug F
 have du:=d79.own (P:=l.prog) (w:=w) (base:=base) (ps:=["state"]) (k:=4) (F:=ff) X G λ_ F _=>ny F iF bF
 have cG:=d80.own (P:=l.prog) (w:=w) (base:=base) (ps:=["state"]) (k:=3) (F:=fU) X G λ_ F _=>t6 F aZ cq
 have iO:=d81.own (P:=l.prog) (w:=w) (base:=base) (ps:=["one","square","other","other_square"]) (k:=40) (F:=dM) X G λ_ F _=>q_ F az aJ bJ aY aT bo aD d_ aL bq
 have hZ:=d81.ownX (P:=l.prog) (w:=w) (base:=base) (ps:=["one","square","other","other_square"]) (k:=40) (F:=(io aO)) X G λ_ F=>p8 F d_ aL bq bo aD aY aT aJ az eN
 have mB:=d82.own (P:=l.prog) (w:=w) (base:=base) (ps:=["middle","point","outer","inner"]) (k:=41) (F:=gQ) X G λ_ F _=>vL F iO fY
 have kU:=d82.ownX (P:=l.prog) (w:=w) (base:=base) (ps:=["middle","point","outer","inner"]) (k:=41) (F:=(kj aO)) X G λ_ F=>ue F hZ fY fD nu
 have BQ:=d83.own (P:=l.prog) (w:=w) (base:=base) (ps:=["middle","point","outer","inner"]) (k:=42) (F:=eD) X G λ_ F _=>pz F mB az aJ bq aY aq bo aR
 have fE:=d83.ownX (P:=l.prog) (w:=w) (base:=base) (ps:=["middle","point","outer","inner"]) (k:=42) (F:=(fH aO)) X G λ_ F=>oj F aR bq aY aq bo aJ az kU
 have jI:=d84.own (P:=l.prog) (w:=w) (base:=base) (ps:=["middle","about","way"]) (k:=37) (F:=jN) X G λ_ F _=>sk F az aY aq aJ aR bq aT
 have g9:=d85.own (P:=l.prog) (w:=w) (base:=base) (ps:=["middle","point","outer","inner"]) (k:=43) (F:=h_) X G λ_ F _=>p7 F fE fD jW
 have gw:=d86.own (P:=l.prog) (w:=w) (base:=base) (ps:=["state","middle"]) (k:=4) (F:=f_) X G λ_ F _=>oG F bF fj iB cm cG zJ
 have je:=d87.own (P:=l.prog) (w:=w) (base:=base) (ps:=["line","middle","about","squares","ways"]) (k:=44) (F:=ms) X G λ_ F _=>wH F cm jI fO Ei g9 oo
 exact KM Fn kh du gw cG bF lW rf je fj dZ cm fG rB lc C_ fY
theorem walk {l:PySem.W.OpenLaw} {q:Program} {loose:List Str} {XP:(Str->Option Value)->Heap->Prop} {YP:World->Heap->Prop} {d:DefRec} {K:Params->Fg} (himp:importsNone q=true) (hn:l.most=some 63) (hdf:d.params.defaults=[])
  (hY:∀ (w:World) (h:Heap),YP w h->(K w.params).In h)
  (hnK:∀ w:World,PySem.W.noTabs (K w.params)=true) (hT:∀ (w:World) (h:Heap),YP w h->PySem.W.TabsAt [] h)
  (F:∀ (w:World) (mg:Str->Option Value) (fa:Addr) (h:Heap),(K w.params).In h->h.Ns mainGlobals mg->mg d.name=some (.ref fa)->
   ∃ fd:FuncData,(∀ (s:Shared) (u:Value),BindsTo s fd ⟨[u],[]⟩ [("script",u)])/\∀ base:Heap,(K w.params).In base->base.Ns mainGlobals mg->qL mg base->PySem.W.CodeAll [] base->aI l.prog w (K w.params) mg base ca 45 fa fd ["script"] (cg (K w.params) xu)):
  PySem.W.WalkO q loose XP YP l.row.toRowW d [] (λf vs=>PySem.call f vs):=
 L2.Fo (n:=63) (k:=45) (x:="script") (CX:=λ_=>ca) (sp:=λw=>cg (K w.params) xu) himp hn (by decide) hdf ⟨rfl,by decide,by decide⟩ hY hnK hT F
  (λw H a ns hl ho hS=>DL.GR (tq:=[]) ho hS (by simp) (Gm ns hl)) λ_ _ _ _ _ z=>z
end My
open PySem PySem.W PyProof.Rows
set_option maxRecDepth 100000 in
set_option maxHeartbeats 0 in
theorem PySem.Challenge.cw_hingedraw_k86_whole_pens_run_on_lines_holds : PySem.Challenge.rw_hingedraw_k86_whole_pens_run_on_lines.Holds := by
 w_on; o_law; k_head; (case hw=>w_witness2)
 k_fill
 refine My.walk (l := PySem.Challenge.rw_hingedraw_k86_whole_pens_run_on_lines) ?imp rfl rfl (λw h Y => PySem.W.kIn_of Y) ?nK ?xs ?F
 case imp=>kernel_rfl
 case nK=>intro w; kernel_rfl
 case xs=>intro w h Y; exact λ_ h=>nomatch h
 case F=>
  intro w mg fa h KX G hmg;refine' My.K5 KX G hmg ?d1 ?d2 ?d3 ?d4 ?d5 ?d6 ?d7 ?d8 ?d9 ?d10 ?d11 ?d12 ?d13 ?d14 ?d15 ?d16 ?d17 ?d18 ?d19 ?d20 ?d21 ?d22 ?d23 ?d24 ?d25 ?d26 ?d27 ?d28 ?d29 ?d30 ?d31 ?d32 ?d33 ?d34 ?d35 ?d36 ?d37 ?d38 ?d39 ?d40 ?d41 ?d42 ?d43 ?d44 ?d45 ?d46 ?d47 ?d48 ?d49 ?d50 ?d51 ?d52 ?d53 ?d54 ?d55 ?d56 ?d57 ?d58 ?d59 ?d60 ?d61 ?d62 ?d63 ?d64 ?d65 ?d66 ?d67 ?d68 ?d69 ?d70 ?d71 ?d72 ?d73 ?d74 ?d75 ?d76 ?d77 ?d78 ?d79 ?d80 ?d81 ?d82 ?d83 ?d84 ?d85 ?d86 ?d87 ?d88 ?qr ?pT ?lg0_ORIGIN ?lg1_ORIGIN ?pG ?p6 ?zq ?zH ?pL ?nu ?jW ?hTr ?Fu ?FA ?C0 ?FN ?yK ?s_ ?Ew ?yL ?wX ?FI
  case d1 | d2 | d3 | d4 | d5 | d6 | d7 | d8 | d9 | d10 | d11 | d12 | d13 | d14 | d15 | d16 | d17 | d18 | d19 | d20 | d21 | d22 | d23 | d24 | d25 | d26 | d27 | d28 | d29 | d30 | d31 | d32 | d33 | d34 | d35 | d36 | d37 | d38 | d39 | d40 | d41 | d42 | d43 | d44 | d45 | d46 | d47 | d48 | d49 | d50 | d51 | d52 | d53 | d54 | d55 | d56 | d57 | d58 | d59 | d60 | d61 | d62 | d63 | d64 | d65 | d66 | d67 | d68 | d69 | d70 | d71 | d72 | d73 | d74 | d75 | d76 | d77 | d78 | d79 | d80 | d81 | d82 | d83 | d84 | d85 | d86 | d87 | d88=>refine' ⟨?a,.mk ?l,?e,?k⟩; (case a=>k_is); (case l=>k_is); (case e=>k_is); (case k=>k_is)
  (case qr=>k_is)
  (case pT=>k_is)
  (case lg0_ORIGIN=>k_is)
  (case lg1_ORIGIN=>k_is)
  (case pG=>k_is)
  (case p6=>k_is)
  (case zq=>k_is)
  (case zH=>k_is)
  (case pL=>k_is)
  (case nu=>kernel_rfl)
  (case jW=>kernel_rfl)
  (case hTr=>exact rfl)
  (case Fu=>k_is)
  (case FA=>k_is)
  (case C0=>k_is)
  (case FN=>k_is)
  (case yK=>k_is)
  (case s_=>k_is)
  (case Ew=>k_is)
  (case yL=>k_is)
  (case wX=>k_is)
  (case FI=>k_is)
