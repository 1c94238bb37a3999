import PyProof.Rows.All
import Wide.All
import OpenK.AllK
import Wide.FinOn
import Lean
import PyProof.EqAt
import PyProof.EqKinds
import PyProof.TupleCall
import PySem.Challenge.RW_hingedraw_k91_texts_written_and_read
set_option compiler.extract_closed false
set_option genSizeOfSpec false
set_option Elab.async false
set_option linter.all false
set_option maxRecDepth 100000
set_option Elab.async false
set_option linter.all false
set_option maxRecDepth 100000
abbrev Zr:=List (List Int×Rat)
theorem Zf {α β γ:Sort _} {f:α->β->γ}:∀ a b,f a b=f a b:=λ_ _=>rfl
section
open PySem PySem.Spec PyProof.Rows
abbrev gt:=@wpAny_bind
abbrev pp:=@Heap.get?_push_of_some
abbrev JU:=@wpAny_pure
abbrev JV:=@Heap.get?_push_size
abbrev JW:=@Heap.lt_size
abbrev JX:=@Nat.le_refl
abbrev JY:=@List.mem_map
abbrev JZ:=@List.length_map
abbrev J0:=@Bool.false_ne_true
abbrev J1:=@List.size_toArray
abbrev J2:=@List.mem_cons
abbrev J3:=@Nat.ne_of_lt
abbrev J4:=@List.mem_cons_self
abbrev J5:=@List.mem_cons_of_mem
abbrev J6:=@Nat.lt_of_lt_of_le
abbrev J7:=@List.mem_append_right
abbrev J8:=@List.map_cons
abbrev J9:=@List.length_cons
abbrev J_:=@List.find?_cons
abbrev Ka:=@List.not_mem_nil
abbrev Kb:=@Nat.le_of_ble_eq_true
abbrev Kc:=@List.length_append
abbrev Kd:=@Around.under_plainId
abbrev Ke:=@List.append_nil
abbrev Kf:=@wpAny_holding
abbrev Kg:=@List.getElem?_eq_getElem
abbrev Kh:=@wpAny_newObj_type
abbrev Ki:=@List.getElem?_map
abbrev Kj:=@Option.some.inj
abbrev Kk:=@codeAny_builtin
abbrev Kl:=@List.getElem?_eq_some_iff
abbrev Km:=@wpAny_mono
abbrev Kn:=@Nat.le_trans
abbrev Ko:=@Bool.and_eq_true
abbrev Kq:=@List.map_map
abbrev Kr:=@PySem.mem_of_lookup
abbrev Ks:=@List.nodup_cons
abbrev Kt:=@PySem.W.mg_none_of
abbrev Ku:=@wpAny_call_entry
abbrev Kv:=@Int.fmod_nonneg_of_pos
abbrev Kw:=@List.drop_eq_getElem_cons
abbrev Kx:=@wpAny_dictEntries
abbrev Ky:=@decide_eq_false
abbrev Kz:=@Nat.zero_le
abbrev KA:=@Nat.lt_irrefl
abbrev KB:=@Heap.size_push
abbrev KC:=@List.all_eq_true
abbrev KD:=@wpAny_callSpecial?_slot
abbrev KE:=@Int.toNat_natCast
abbrev KF:=@decide_eq_true_eq
abbrev KG:=@Array.length_toList
abbrev KH:=@Int.fmod_lt_of_pos
abbrev KI:=@Option.isSome_iff_exists
abbrev KJ:=@List.length_eq_zero_iff
end
section
open PySem PySem.Spec
abbrev KL:=Shared
abbrev KM:=Value
abbrev KN:=Addr
abbrev KO:=Option
abbrev KP:=Expr
abbrev KQ:=Program
abbrev KR:=Around
abbrev KS:=World
abbrev KT:=Heap
abbrev KU:=Stmt
abbrev KW:=Array
abbrev KY:=Bool
abbrev KZ:=String
abbrev K0:=DictEntry
abbrev K1:=Obj
end
namespace L2
open PySem PySem.Spec PyProof.Rows
abbrev sd:=Sum Int Str
def C6:sd->KM->KY
 | .inl k,v=>Value.isInt k v
 | .inr x,v=>Value.isStrOf x v
def H_ (w:KS):sd->Int
 | .inl k=>hashInt k
 | .inr x=>hashStr w x
theorem bW:∀ {k:sd} {v:KM},C6 k v=true->(∃ i t,k=Sum.inl i/\v=Value.int i t)\/(∃ x t,k=Sum.inr x/\v=Value.str x t)
 | .inl i,v,h=>by
  obtain⟨t,e⟩:=Value.isInt_shape (k:=i) (v:=v) h;exact .inl ⟨i,t,rfl,e⟩
 | .inr x,v,h=>by
  obtain⟨t,e⟩:=Value.isStrOf_shape (x:=x) (v:=v) h;exact .inr ⟨x,t,rfl,e⟩
theorem DC (a b:Int):decide ((Sum.inl a:sd)=Sum.inl b)=(a == b):=by
 by_cases e:a=b
 ·subst e; simp
 ·have h:¬ (Sum.inl a:sd)=Sum.inl b:=λq=>e (Sum.inl.inj q)
  rw [Ky h];exact(beq_eq_false_iff_ne.mpr e).symm
theorem EU (a b:Str):decide ((Sum.inr a:sd)=Sum.inr b)=decide (a=b):=by
 by_cases e:a=b
 ·subst e; simp
 ·have h:¬ (Sum.inr a:sd)=Sum.inr b:=λq=>e (Sum.inr.inj q)
  rw [Ky h,Ky e]
theorem Fk (a:Int) (b:Str):decide ((Sum.inl a:sd)=Sum.inr b)=false:=Ky (λq=>nomatch q)
theorem Es (a:Str) (b:Int):decide ((Sum.inr a:sd)=Sum.inl b)=false:=Ky (λq=>nomatch q)
def wR (prog:KQ) (w:KS):PySem.KeyKind prog w sd where
 is:=C6
 hash:=H_ w
 inj:=λv a b ha hb=>by
  rcases bW ha with ⟨i,t,rfl,rfl⟩ | ⟨x,t,rfl,rfl⟩
  ·rcases bW hb with ⟨j,u,rfl,e⟩ | ⟨y,u,rfl,e⟩
   ·injection e with e1 _; rw [e1]
   ·exact nomatch e
  ·rcases bW hb with ⟨j,u,rfl,e⟩ | ⟨y,u,rfl,e⟩
   ·exact nomatch e
   ·injection e with e1 _; rw [e1]
 byValue:=λk v h=>by
  rcases bW h with ⟨i,t,rfl,rfl⟩ | ⟨x,t,rfl,rfl⟩ <;> rfl
 pyHash:=λhv h=>by
  rcases bW hv with ⟨i,t,rfl,rfl⟩ | ⟨x,t,rfl,rfl⟩
  ·exact wpAny_pyHash_int h
  ·exact wpAny_pyHash_str h
 eqBool:=λhu hv h=>by
  rcases bW hu with ⟨i,t,rfl,rfl⟩ | ⟨x,t,rfl,rfl⟩
  ·rcases bW hv with ⟨j,u,rfl,rfl⟩ | ⟨y,u,rfl,rfl⟩
   ·rw [DC] at h; exact wpAny_eqBool_int h
   ·rw [Fk] at h; exact SeqAt.EqAt.int_str i t y u _ _ _ _ h
  ·rcases bW hv with ⟨j,u,rfl,rfl⟩ | ⟨y,u,rfl,rfl⟩
   ·rw [Es] at h; exact SeqAt.EqAt.str_int x t j u _ _ _ _ h
   ·rw [EU] at h; exact wpAny_eqBool_str h
 «strs»:=λk x t v h=>by
  rcases bW h with ⟨i,u,rfl,e⟩ | ⟨y,u,rfl,e⟩
  ·exact nomatch e
  ·injection e with e1 _
   subst e1;cases v <;> rfl
inductive V where
 | non | bl (b:KY) | int (i:Int) | str (x:Str) | byt (b:KW UInt8) | flt (b:UInt64) | ref (a:KN) | ty (n:KZ)
 deriving DecidableEq
def aW:V->KM->Prop
 | .non,u=>u=Value.none
 | .bl b,u=>u=Value.bool b
 | .int i,u=>∃ t,u=Value.int i t
 | .str x,u=>∃ t,u=Value.str x t
 | .byt b,u=>∃ t,u=Value.bytes b t
 | .flt b,u=>∃ t,u=Value.float b t
 | .ref a,u=>u=Value.ref a
 | .ty n,u=>u=Value.type n
abbrev aV:List V->List KM->Prop:=Paired aW
theorem aV.length {xs:List V} {us:List KM} (r:aV xs us):xs.length=us.length:=Paired.length r
theorem aV.get:∀ {xs:List V} {us:List KM} {i:Nat} {x:V},aV xs us->xs[i]?=some x->∃ u,us[i]?=some u/\aW x u
 | _,_,_,_,.nil,e=>by simp at e
 | _,_,0,_,.cons r _,e=>by simp at e; subst e; exact⟨_,rfl,r⟩
 | _,_,i+1,x,.cons _ t,e=>by
  obtain⟨u,h1,h2⟩:=aV.get (i:=i) (x:=x) t (by simpa using e)
  exact⟨u,by simpa using h1,h2⟩
theorem aV.set {x:V} {u:KM} (r:aW x u):∀ {xs:List V} {us:List KM} (i:Nat),aV xs us->aV (xs.set i x) (us.set i u)
 | _,_,_,.nil=>.nil
 | _,_,0,.cons _ t=>.cons r t
 | _,_,i+1,.cons q t=>.cons q (aV.set r i t)
theorem aV.append:∀ {xs ys:List V} {us ws:List KM},aV xs us->aV ys ws->aV (xs++ys) (us++ws)
 | _,_,_,_,.nil,s=>s
 | _,_,_,_,.cons r t,s=>.cons r (aV.append t s)
theorem aV.take:∀ {xs:List V} {us:List KM} (n:Nat),aV xs us->aV (xs.take n) (us.take n)
 | _,_,0,_=>.nil
 | _,_,_+1,.nil=>.nil
 | _,_,n+1,.cons r t=>.cons r (aV.take n t)
theorem aV.drop:∀ {xs:List V} {us:List KM} (n:Nat),aV xs us->aV (xs.drop n) (us.drop n)
 | _,_,0,r=>r
 | _,_,_+1,.nil=>.nil
 | _,_,n+1,.cons _ t=>aV.drop n t
def GW:KO V->KO KM->Prop
 | some v,some u=>aW v u
 | none,none=>True
 | _,_=>False
def KV {κ:Type}:List (κ×V)->List (κ×KM)->Prop:=Paired fun(p:κ×V) (q:κ×KM)=>p.1=q.1/\aW p.2 q.2
def kV:sd->V
 | .inl i=>.int i
 | .inr x=>.str x
inductive HO where
 | lst (xs:List V)
 | tup (xs:List V)
 | dK (kvs:List (sd×V)) | dT (kvs:List (List sd×V))
 | set (S:Int->KY) (n:Nat)
 | ins (C dx:KN) (fs:List (Str×V))
 | own (x:KN)
 | xd (fs:List (Str×V))
 | met (f x:KN)
 | rng (lo hi:Int)
 | frz (o:K1) (u:HO)
 | tbl (ps:KW KM)
 | ext (φ:KT->Prop)
abbrev Hp:=KN->KO HO
def br (H:Hp) (a:KN) (o:HO):Hp:=λb=>if b=a then some o else H b
theorem bo {H:Hp} {a:KN} {o:HO}:br H a o a=some o:=by unfold br; rw [if_pos rfl]
theorem aN {H:Hp} {a b:KN} {o:HO} (h:b≠a):br H a o b=H b:=by unfold br; rw [if_neg h]
theorem bO {H:Hp} {a b:KN} {o:HO} (h:H a=some o) (h':H b=none):a≠b:=by
 intro e; subst e; rw [h] at h'; cases h'
section
variable (P:KQ) (w:KS)
def dy (H:Hp) (h:KT) (a:KN):HO->Prop
 | .lst xs=>xs.length<=sizeLine/\∃ (its:List KM) (n:Nat),aV xs its/\h.get? a=some {cls:=.type "list",data:=.seq its.toArray n}
 | .tup xs=>xs.length<=sizeLine/\∃ its:List KM,aV xs its/\IsTup h a its.toArray
 | .dK kvs=>kvs.length<=sizeLine/\(a == sysModules)=false/\∃ vs,KV kvs vs/\h.DictOf (wR P w) a vs
 | .dT kvs=>kvs.length<=sizeLine/\(a == sysModules)=false/\∃ xs:List (List sd×KN×KM),
   Paired (λ(p:List sd×V) (q:List sd×KN×KM)=>p.1=q.1/\H q.2.1=some (.tup (p.1.map kV))/\aW p.2 q.2.2) kvs xs/\
   ∃ o es ep,h.get? a=some o/\o.ExactDict/\o.data=.dict es ep/\es.toList=xs.map (entryOfKey (tupleKind (wR P w)))/\(xs.map (·.1)).Nodup
 | .set S n=>h.SetOf (intKind P w) a S n
 | .ins C dx fs=>H dx=some (.own a)/\fs.length<=1000/\dx≠a/\h.get? a=some (PySem.W.instObj C dx)/\
   ∃ mA,h.Ns1 dx mA/\(∀ f,GW (fs.lookup f) (mA f))/\PySem.Within mA (fs.map (·.1))
 | .own _=>∃ o,h.get? a=some o
 | .xd fs=>∃ mA,h.Ns1 a mA/\∀ f,GW (fs.lookup f) (mA f)
 | .rng lo hi=>∃ t u v,h.get? a=some {cls:=.type "range",data:=.fields #[.int lo t,.int hi u,.int 1 v]}
 | .frz o u=>h.get? a=some o/\dy H h a u
 | .tbl ps=>h.get? a=some {cls:=.none,data:=.fields ps}
 | .met f x=>h.get? a=some (PySem.W.methodObj (.ref f) (.ref x))
 | .ext φ=>φ h/\(∃ o,h.get? a=some o)/\∀ h1 h2:KT,φ h1->(∀ o,h1.get? a=some o->h2.get? a=some o)->φ h2
def nZ (H:Hp) (h:KT):Prop:=∀ a o,H a=some o->dy P w H h a o
end
section
variable {P:KQ} {w:KS} {H H':Hp} {h h':KT} {a:KN} {o:HO}
theorem dy.lt (x:dy P w H h a o):a < h.objs.size:=by
 cases o with
 | lst xs=>obtain⟨_,_,_,_,e⟩:=x; exact JW e
 | tup xs=>obtain⟨_,_,_,p⟩:=x; exact p.lt
 | dK kvs=>obtain⟨_,_,_,_,o,_,_,e,_⟩:=x; exact JW e
 | dT kvs=>obtain⟨_,_,_,_,o,_,_,e,_⟩:=x; exact JW e
 | set S n=>obtain⟨o,_,_,_,e,_⟩:=x; exact JW e
 | ins C dx fs=>obtain⟨_,_,_,e,_⟩:=x; exact JW e
 | own y=>obtain⟨_,e⟩:=x; exact JW e
 | xd fs=>obtain⟨_,⟨_,_,_,e,_⟩,_⟩:=x; exact JW e
 | rng lo hi=>obtain⟨_,_,_,e⟩:=x; exact JW e
 | frz ob u=>obtain⟨e,_⟩:=x; exact JW e
 | tbl ps=>exact JW (show h.get? a=some _ from x)
 | met f y=>exact JW (show h.get? a=some _ from x)
 | ext φ=>obtain⟨_,⟨_,e⟩,_⟩:=x; exact JW e
theorem Paired.mapP {α β:Type} {F G:α->β->Prop}:∀ {l₁:List α} {l₂:List β},Paired F l₁ l₂->(∀ a b,F a b->G a b)->Paired G l₁ l₂
 | _,_,.nil,_=>.nil
 | _,_,.cons r t,f=>.cons (f _ _ r) (Paired.mapP t f)
theorem dy.stay (x:dy P w H h a o) (k:∀ b u,(b=a\/H b=some (.own a))->h.get? b=some u->h'.get? b=some u)
  (ho:∀ b,H b=some (.own a)->H' b=some (.own a)) (ht:∀ b xs,H b=some (.tup xs)->H' b=some (.tup xs)):dy P w H' h' a o:=by
 induction o with
 | lst xs=>obtain⟨z,its,n,r,e⟩:=x; exact⟨z,its,n,r,k _ _ (.inl rfl) e⟩
 | tup xs=>obtain⟨z,its,r,ob,e,c⟩:=x; exact⟨z,its,r,ob,k _ _ (.inl rfl) e,c⟩
 | dK kvs=>obtain⟨z,y,vs,r,ob,es,ep,e,c⟩:=x; exact⟨z,y,vs,r,ob,es,ep,k _ _ (.inl rfl) e,c⟩
 | dT kvs=>
  obtain⟨z,y,xs,r,ob,es,ep,e,c⟩:=x;exact⟨z,y,xs,Paired.mapP r λp q z=>⟨z.1,ht _ _ z.2.1,z.2.2⟩,ob,es,ep,k _ _ (.inl rfl) e,c⟩
 | set S n=>obtain⟨ob,es,ep,t,e,c⟩:=x; exact⟨ob,es,ep,t,k _ _ (.inl rfl) e,c⟩
 | ins C dx fs=>
  obtain⟨d,z,ne,e,mA,⟨od,es,ep,e2,c⟩,r⟩:=x;exact⟨ho _ d,z,ne,k _ _ (.inl rfl) e,mA,⟨od,es,ep,k _ _ (.inr d) e2,c⟩,r⟩
 | own y=>obtain⟨ob,e⟩:=x; exact⟨ob,k _ _ (.inl rfl) e⟩
 | xd fs=>obtain⟨mA,⟨od,es,ep,e,c⟩,r⟩:=x; exact⟨mA,⟨od,es,ep,k _ _ (.inl rfl) e,c⟩,r⟩
 | rng lo hi=>obtain⟨t,u,v,e⟩:=x; exact⟨t,u,v,k _ _ (.inl rfl) e⟩
 | frz ob u ih=>obtain⟨e,q⟩:=x; exact⟨k _ _ (.inl rfl) e,ih q⟩
 | tbl ps=>
  have e:h.get? a=some {cls:=.none,data:=.fields ps}:=x
  show h'.get? a=some {cls:=.none,data:=.fields ps}
  exact k a _ (.inl rfl) e
 | met f y=>
  have e:h.get? a=some (PySem.W.methodObj (.ref f) (.ref y)):=x
  show h'.get? a=some (PySem.W.methodObj (.ref f) (.ref y))
  exact k a _ (.inl rfl) e
 | ext φ=>obtain⟨p,⟨o,e⟩,st⟩:=x; exact⟨st _ _ p λo q=>k _ _ (.inl rfl) q,⟨o,k _ _ (.inl rfl) e⟩,st⟩
theorem nZ.lt (x:nZ P w H h) (e:H a=some o):a < h.objs.size:=(x a o e).lt
theorem nZ.fresh (x:nZ P w H h) (e:h.objs.size<=a):H a=none:=by
 cases q:H a with
 | none=>rfl
 | some u=>exact absurd (J6 (x.lt q) e) (KA _)
theorem nZ.kept (x:nZ P w H h) (k:∀ b u,h.get? b=some u->h'.get? b=some u):nZ P w H h':=λa o e=>
 (x a o e).stay (λb u _ q=>k b u q) (λ_ q=>q) λ_ _ q=>q
theorem nZ.laid (x:nZ P w H h) (k:∀ b u,h.get? b=some u->h'.get? b=some u) (hp:h.objs.size<=a) (new:dy P w (br H a o) h' a o):nZ P w (br H a o) h':=λb u e=>by
 have hn:=x.fresh hp
 by_cases hb:b=a
 ·subst hb; rw [bo] at e; cases e; exact new
 ·rw [aN hb] at e;exact(x b u e).stay (λc v _ q=>k c v q) (λc q=>by rw [aN (bO q hn)]; exact q) λc xs q=>by rw [aN (bO q hn)]; exact q
end
def Rd (H:Hp) (a:KN) (u:HO):Prop:=H a=some u\/∃ o,H a=some (.frz o u)
theorem Rd.ok {P:KQ} {w:KS} {H:Hp} {h:KT} {a:KN} {u:HO} (r:Rd H a u) (x:nZ P w H h):dy P w H h a u:=by
 rcases r with r | ⟨o,r⟩
 ·exact x a u r
 ·obtain⟨_,q⟩:=x a _ r;exact q
def Hi:KO HO->Prop
 | some (.lst _)=>True
 | some (.dK _)=>True
 | some (.dT _)=>True
 | some (.set _ _)=>True
 | some (.ins _ _ _)=>True
 | some (.ext _)=>True
 | _=>False
section
variable {P:KQ} {w:KS} {H:Hp} {h h':KT} {x e:KN} {o':HO}
theorem nZ.write (ok:nZ P w H h) (mu:Hi (H x)) (he:e=x\/H e=some (.own x)) (k:∀ b u,b≠e->h.get? b=some u->h'.get? b=some u) (heo:∃ u,h'.get? e=some u)
  (new:dy P w (br H x o') h' x o'):nZ P w (br H x o') h':=λb u q=>by
 have nown:∀ c y,H c=some (.own y)->c≠x:=λc y r z=>by subst z; rw [r] at mu; exact mu
 have ntup:∀ c xs,H c=some (.tup xs)->c≠x:=λc xs r z=>by subst z; rw [r] at mu; exact mu
 by_cases hb:b=x
 ·subst hb; rw [bo] at q; cases q; exact new
 ·rw [aN hb] at q
  by_cases hbe:b=e
  ·have q':H b=some (.own x):=by
    rcases he with z | z
    ·exact absurd (hbe.trans z) hb
    ·rw [hbe]; exact z
   rw [q] at q'; cases q'
   obtain⟨v,hv⟩:=heo;exact⟨v,by rw [hbe]; exact hv⟩
  ·refine(ok b u q).stay (λc v hc r=>k c v ?_ r) (λc r=>by rw [aN (nown c b r)]; exact r) λc xs r=>by rw [aN (ntup c xs r)]; exact r
   rcases hc with rfl | hc
   ·exact hbe
   ·rintro rfl;rcases he with z | z
    ·exact nown c b hc z
    ·rw [hc] at z; cases z; exact hb rfl
end
structure Un (fs ex:List KN) (H H':Hp) (h h':KT):Prop where
 keep:∀ b o,h.get? b=some o->H b=none->b∉fs->b∉ex->h'.get? b=some o
 slot:∀ b o,h.get? b=some o->H b=none->b∈fs->b∉ex->∃ sl,h'.get? b=some {o with slots:=sl}
 free:∀ b o,h.get? b=some o->H b=none->b∉ex->H' b=none
 there:∀ b o,h.get? b=some o->b∉ex->∃ o',h'.get? b=some o'
 tups:∀ b xs,H b=some (.tup xs)->H' b=some (.tup xs)
 frzs:∀ b o u,H b=some (.frz o u)->H' b=some (.frz o u)
 tbls:∀ b ps,H b=some (.tbl ps)->∃ more,H' b=some (.tbl (ps++more))
section
variable {fs fs' ex ex':List KN} {H H1 H2:Hp} {h h1 h2 h':KT} {a x e:KN} {o:HO}
theorem Un.any (u:Un fs ex H H1 h h1) {b:KN} {ob:K1} (q:h.get? b=some ob) (n:H b=none) (hx:b∉ex):∃ sl,h1.get? b=some {ob with slots:=sl}:=by
 by_cases hb:b∈fs
 ·exact u.slot b ob q n hb hx
 ·exact⟨ob.slots,u.keep b ob q n hb hx⟩
theorem Un.trans (a:Un fs ex H H1 h h1) (b:Un fs ex H1 H2 h1 h2):Un fs ex H H2 h h2 where
 keep:=λc ob q n hc hx=>b.keep c ob (a.keep c ob q n hc hx) (a.free c ob q n hx) hc hx
 slot:=λc ob q n hc hx=>by
  obtain⟨sl,e1⟩:=a.slot c ob q n hc hx;obtain⟨sl',e2⟩:=b.slot c _ e1 (a.free c ob q n hx) hc hx;exact⟨sl',e2⟩
 free:=λc ob q n hx=>by
  obtain⟨o',e1⟩:=a.there c ob q hx;exact b.free c o' e1 (a.free c ob q n hx) hx
 there:=λc ob q hx=>by
  obtain⟨o',e1⟩:=a.there c ob q hx;exact b.there c o' e1 hx
 tups:=λc xs q=>b.tups c xs (a.tups c xs q)
 frzs:=λc ob xs q=>b.frzs c ob xs (a.frzs c ob xs q)
 tbls:=λc ps q=>by
  obtain⟨m1,e1⟩:=a.tbls c ps q;obtain⟨m2,e2⟩:=b.tbls c _ e1;exact⟨m1++m2,by rw [e2,Array.append_assoc]⟩
theorem Un.kept (k:∀ b u,h.get? b=some u->h'.get? b=some u):Un fs ex H H h h':=
 ⟨λb ob q _ _ _=>k b ob q,λb ob q _ _ _=>⟨ob.slots,k b ob q⟩,λ_ _ _ n _=>n,λb ob q _=>⟨ob,k b ob q⟩,λ_ _ q=>q,λ_ _ _ q=>q,λ_ ps q=>⟨#[],by rw [q]; simp⟩⟩
theorem Un.refl:Un fs ex H H h h:=Un.kept λ_ _ q=>q
theorem Un.laid (k:∀ b u,h.get? b=some u->h'.get? b=some u) (hp:h.objs.size<=a) (hn:H a=none):Un fs ex H (br H a o) h h' where
 keep:=λb u q _ _ _=>k b u q
 slot:=λb u q _ _ _=>⟨u.slots,k b u q⟩
 free:=λb u q n _=>by rw [aN (J3 (J6 (JW q) hp))]; exact n
 there:=λb u q _=>⟨u,k b u q⟩
 tups:=λb xs q=>by rw [aN (bO q hn)]; exact q
 frzs:=λb u xs q=>by rw [aN (bO q hn)]; exact q
 tbls:=λb ps q=>⟨#[],by rw [aN (bO q hn),q]; simp⟩
theorem Un.write (mu:Hi (H x)) (he:e=x\/H e=some (.own x)) (k:∀ b u,b≠e->h.get? b=some u->h'.get? b=some u) (heo:∃ u,h'.get? e=some u):Un fs ex H (br H x o) h h':=by
 have hx:∀ b,H b=none->b≠x:=λb n z=>by subst z; rw [n] at mu; exact mu
 have hb:∀ b,H b=none->b≠e:=λb n z=>by
  subst z;rcases he with r | r
  ·exact hx b n r
  ·rw [n] at r; cases r
 have hm:∀ b u,H b=some u->¬ Hi (some u)->b≠x:=λb u q nm z=>by subst z; rw [q] at mu; exact nm mu
 refine⟨λb u q n _ _=>k b u (hb b n) q,λb u q n _ _=>⟨u.slots,k b u (hb b n) q⟩,λb u q n _=>by rw [aN (hx b n)]; exact n,λb u q _=>?_,
  λb xs q=>by rw [aN (hm b _ q λz=>z)]; exact q,λb u xs q=>by rw [aN (hm b _ q λz=>z)]; exact q,λb ps q=>⟨#[],by rw [aN (hm b _ q λz=>z),q]; simp⟩⟩
 by_cases hbe:b=e
 ·subst hbe; exact heo
 ·exact⟨u,k b u hbe q⟩
end
def HK (h:KT) (H:Hp):List KN:=(List.range h.objs.size).filter λa=>(H a).isSome
def rL (h:KT) (H:Hp):KT:=PySem.W.hideAll h (HK h H)
theorem xO (h:KT) (H:Hp):(rL h H).objs.size=h.objs.size:=PySem.W.hideAll_size _ _
theorem Aq {h:KT} {H:Hp} {b:KN} {o:K1} (e:h.get? b=some o) (n:H b=none):(rL h H).get? b=some o:=
 PySem.W.hideAll_get _ e λhm=>by
  have q:(H b).isSome=true:=(List.mem_filter.mp hm).2;rw [n] at q; simp at q
theorem Cy {h:KT} {H:Hp} {b:KN} {o:K1} (e:(rL h H).get? b=some o):h.get? b=some o/\H b=none:=by
 have e':h.get? b=some o:=PySem.W.of_hideAll (HK h H) e;refine⟨e',?_⟩;cases q:H b with
 | none=>rfl
 | some x=>
  have hm:b∈HK h H:=List.mem_filter.mpr ⟨List.mem_range.mpr (JW e'),by simp [q]⟩
  have z:(rL h H).get? b=none:=PySem.W.hideAll_none (HK h H) hm;rw [z] at e; cases e
def Ci (g h:KT) (L:KN):List (KN×K1):=(List.range h.objs.size).filterMap λa=>if a=L\/(g.get? a).isSome=true then none else(h.get? a).map λo=>(a,o)
def a_ (g h:KT) (L d:KN):List (KN×K1):=(Ci g h L).filter λp=>decide (p.1≠d)
structure Mod (K:PySem.W.Frag) (mg:Str->KO KM) (base:KT):Prop where
 kin:K.In base
 glob:base.Ns mainGlobals mg
 blt:∃ mb,base.Ns builtinsNs mb/\∀ x:Str,x≠"__name__"->mb x=bootBuiltins x
 nolimit:base.NoLimit
structure Cx where
 prog:KQ
 w:KS
 K:PySem.W.Frag
 mg:Str->KO KM
 base:KT
 A:KR
 N:List Str
 s₀:KL
 H₀:Hp
 env:Env
 outer:List Env
 stack:List Env
 ex:List KN
 fn:Str->KY
 calm:KY
 pn:List (KN×K1)
 xe:KM->KL->Prop
def tu (l:List Env):List KN:=l.filterMap (·.frame)
abbrev Cx.fs (X:Cx):List KN:=tu X.outer
def GM (sc:Scope) (x:Str):Prop:=sc.names.lookup x=some .local\/sc.names.lookup x=some .cell\/sc.names.lookup x=some .free
def FQ (sc:Scope) (x:Str):Prop:=sc.names.lookup x=some .local\/sc.names.lookup x=some .cell
def IW (env:Env) (h:KT) (m:Str->KO KM) (x:Str) (u:KM):Prop:=
 (env.kindOf x=some .local/\m x=some u)\/((env.kindOf x=some .cell\/env.kindOf x=some .free)/\∃ c,env.cells.lookup x=some c/\h.IsCell c (some u))
structure Cx.Ok (X:Cx):Prop where
 mod:Mod X.K X.mg X.base
 kind:X.env.scope.kind=.function
 glob:X.env.globals=mainGlobals
 blt:X.env.builtins=builtinsNs
 above:X.s₀.heap.objs.size<=X.env.locals
 inj:∀ x y c,X.env.cells.lookup x=some c->X.env.cells.lookup y=some c->x=y
 has:∀ x,(X.env.kindOf x=some .cell\/X.env.kindOf x=some .free)->∃ c,X.env.cells.lookup x=some c
 cab:∀ x c,X.fn x=true->X.env.cells.lookup x=some c->X.s₀.heap.objs.size<=c
 hd:X.calm=true->X.A.handled=none
 frames:X.A.frames=some X.stack
 stk:X.stack=X.outer\/(X.stack=X.env::X.outer/\X.env.frame=some X.env.locals)
 exf:∀ b∈X.ex,b≠X.env.locals/\∀ x c,X.env.cells.lookup x=some c->c≠b
 bs:∀ b o,X.base.get? b=some o->X.s₀.heap.get? b=some o/\X.H₀ b=none
 bsz:X.base.objs.size<=X.s₀.heap.objs.size
 noex:∀ b o,X.base.get? b=some o->b∉X.ex
 exfs:∀ b∈X.ex,b∉X.fs
 funs:X.s₀.heap.FunFrames X.base X.outer
 frf:∀ b∈X.fs,X.H₀ b=none
structure aE (X:Cx) (K2:List (KN×K1)) (σ:List (KO V)) (H:Hp) (s:KL):Prop where
 ok:X.Ok
 os:s.os=X.s₀.os
 bare:AllBare s.gens
 base:Un X.fs X.ex X.H₀ H X.s₀.heap s.heap
 loc:∃ m,s.heap.Ns X.env.locals m/\∀ (i:Nat) (x:Str) (v:V),X.N[i]?=some x->σ[i]?=some (some v)->GM X.env.scope x->∃ u,aW v u/\IW X.env s.heap m x u
 cell:∀ x c,X.env.cells.lookup x=some c->∃ v,s.heap.IsCell c v
 free:H X.env.locals=none
 freeC:∀ x c,X.env.cells.lookup x=some c->H c=none
 pin:∀ p∈X.pn++K2,s.heap.get? p.1=some p.2/\H p.1=none/\p.1≠X.env.locals/\p.1∉X.fs/\∀ v,p.2.data≠.cell v
 hok:nZ X.prog X.w H s.heap
 len:σ.length=X.N.length
section
variable {X:Cx} {K2:List (KN×K1)} {σ:List (KO V)} {H H':Hp} {s:KL} {h':KT}
theorem Cx.Ok.nofr (ok:X.Ok) {b:KN} {o:K1} (e:X.base.get? b=some o):b∉X.fs:=λhb=>by
 have:=(ok.funs.mem hb).1;rw [e] at this; cases this
theorem aE.bs (I:aE X K2 σ H s):∀ b o,X.base.get? b=some o->s.heap.get? b=some o/\H b=none:=λb o e=>
 ⟨I.base.keep b o (I.ok.bs b o e).1 (I.ok.bs b o e).2 (I.ok.nofr e) (I.ok.noex b o e),I.base.free b o (I.ok.bs b o e).1 (I.ok.bs b o e).2 (I.ok.noex b o e)⟩
theorem aE.bk (I:aE X K2 σ H s):∀ b o,X.base.get? b=some o->s.heap.get? b=some o:=λb o e=>(I.bs b o e).1
theorem aE.mod (I:aE X K2 σ H s):Mod X.K X.mg X.base:=I.ok.mod
theorem aE.kIn (I:aE X K2 σ H s):X.K.In s.heap:=I.ok.mod.kin.keeps I.bk
theorem aE.lt (I:aE X K2 σ H s):X.env.locals < s.heap.objs.size:=let ⟨_,hn,_⟩:=I.loc; hn.lt
theorem aE.sz (I:aE X K2 σ H s):X.s₀.heap.objs.size<=s.heap.objs.size:=Kn I.ok.above (Nat.le_of_lt I.lt)
theorem aE.nofs (I:aE X K2 σ H s) {a:KN} (h:s.heap.objs.size<=a):a∉X.fs:=λhb=>by
 obtain⟨_,o,ho,_⟩:=I.ok.funs.mem hb;exact absurd (J6 (JW ho) (Kn I.sz h)) (KA _)
theorem aE.cne (I:aE X K2 σ H s):∀ x c,X.env.cells.lookup x=some c->c≠X.env.locals:=λx c e z=>by
 obtain⟨v,o,ho,hd⟩:=I.cell x c e;obtain⟨m,⟨o',es,ep,ho',hd',_⟩,_⟩:=I.loc;rw [z,ho'] at ho; cases ho; rw [hd'] at hd; cases hd
theorem aE.funs (I:aE X K2 σ H s):s.heap.FunFrames X.base X.outer:=by
 have all:∀ (l:List Env),(∀ b∈tu l,b∈X.fs)->X.s₀.heap.FunFrames X.base l->s.heap.FunFrames X.base l:=by
  intro l
  induction l with
  | nil=>intro _ _; trivial
  | cons env r ih=>
   intro hs hl;obtain⟨hk,⟨L,o,hf,hn,ho,hd⟩,hr⟩:=hl;have hL:L∈X.fs:=hs L (by unfold tu; rw [List.filterMap_cons,hf]; exact J4)
   obtain⟨sl,e⟩:=I.base.slot L o ho (I.ok.frf L hL) hL λz=>I.ok.exfs L z hL
   exact⟨hk,⟨L,_,hf,hn,e,hd⟩,ih (λb hb=>hs b (by unfold tu; rw [List.filterMap_cons,hf]; exact J5 _ hb)) hr⟩
 exact all X.outer (λ_ hb=>hb) I.ok.funs
theorem aE.stack (I:aE X K2 σ H s):s.heap.FunFrames X.base X.stack:=by
 rcases I.ok.stk with e | ⟨e,hf⟩
 ·rw [e]; exact I.funs
 ·rw [e];obtain⟨m,hn,_⟩:=I.loc;refine .cons (by rw [I.ok.kind]; decide) hf hn ?_ I.funs
  exact Heap.get?_none_of_le (Kn I.ok.bsz I.ok.above)
theorem aE.stkSub (I:aE X K2 σ H s):∀ b∈tu X.stack,b∈X.env.locals::X.fs:=λb hb=>by
 rcases I.ok.stk with e | ⟨e,hf⟩
 ·rw [e] at hb; exact J5 _ hb
 ·rw [e] at hb;unfold tu at hb;rw [List.filterMap_cons,hf] at hb;exact hb
theorem aE.stkFree (I:aE X K2 σ H s):∀ b∈tu X.stack,H b=none:=λb hb=>by
 rcases J2.mp (I.stkSub b hb) with e | hb
 ·rw [e]; exact I.free
 ·obtain⟨_,o,ho,_⟩:=I.ok.funs.mem hb;exact I.base.free b o ho (I.ok.frf b hb) λz=>I.ok.exfs b z hb
theorem aE.step {g':KW GenState} {t':Nat} {d':Drawn} {ch:List KN} (I:aE X K2 σ H s)
  (hch:∀ b∈ch,(b∈X.ex\/X.s₀.heap.objs.size<=b)/\b≠X.env.locals/\(∀ x c,X.env.cells.lookup x=some c->c≠b)/\∀ p∈X.pn++K2,p.1≠b)
  (keep:∀ b o,b≠X.env.locals->b∉X.fs->b∉ch->s.heap.get? b=some o->H b=none->h'.get? b=some o)
  (slot:∀ b o,b≠X.env.locals->b∈X.fs->b∉ch->s.heap.get? b=some o->H b=none->∃ sl,h'.get? b=some {o with slots:=sl}) (free:∀ b o,b∉ch->s.heap.get? b=some o->H b=none->H' b=none)
  (there:∀ b o,b∉ch->s.heap.get? b=some o->∃ o',h'.get? b=some o')
  (tups:∀ b xs,H b=some (.tup xs)->H' b=some (.tup xs)) (frzs:∀ b o u,H b=some (.frz o u)->H' b=some (.frz o u)) (tbls:∀ b ps,H b=some (.tbl ps)->∃ more,H' b=some (.tbl (ps++more)))
  (ns:∀ m,s.heap.Ns X.env.locals m->h'.Ns X.env.locals m) (hok:nZ X.prog X.w H' h') (hg:AllBare g'):
  aE X K2 σ H' {s with heap:=h',gens:=g',drawn:=d',toks:=t'}:=by
 have neL:∀ b o,X.s₀.heap.get? b=some o->b≠X.env.locals:=λb o e=>J3 (J6 (JW e) I.ok.above)
 have neC:∀ b o,X.s₀.heap.get? b=some o->b∉X.ex->b∉ch:=λb o e hx hb=>by
  rcases(hch b hb).1 with z | z
  ·exact hx z
  ·exact absurd (J6 (JW e) z) (KA _)
 have cellK:∀ x c,X.env.cells.lookup x=some c->∀ v,s.heap.IsCell c v->h'.IsCell c v:=λx c e v ⟨o,ho,hd⟩=>by
  have nch:c∉ch:=λz=>(hch c z).2.2.1 x c e rfl
  by_cases hc:c∈X.fs
  ·obtain⟨sl,q⟩:=slot c o (I.cne x c e) hc nch ho (I.freeC x c e);exact⟨_,q,hd⟩
  ·exact⟨o,keep c o (I.cne x c e) hc nch ho (I.freeC x c e),hd⟩
 refine⟨I.ok,I.os,hg,⟨λb o e n hb hx=>?_,λb o e n hb hx=>?_,λb o e n hx=>?_,λb o e hx=>?_,λb xs e=>tups b xs (I.base.tups b xs e),λb o xs e=>frzs b o xs (I.base.frzs b o xs e),λb ps e=>?_⟩,?_,λx c e=>?_,?_,λx c e=>?_,λp hp=>?_,hok,I.len⟩
 ·exact keep b o (neL b o e) hb (neC b o e hx) (I.base.keep b o e n hb hx) (I.base.free b o e n hx)
 ·obtain⟨sl,e1⟩:=I.base.slot b o e n hb hx;obtain⟨sl',e2⟩:=slot b _ (neL b o e) hb (neC b o e hx) e1 (I.base.free b o e n hx);exact⟨sl',e2⟩
 ·obtain⟨o',e1⟩:=I.base.there b o e hx;exact free b o' (neC b o e hx) e1 (I.base.free b o e n hx)
 ·obtain⟨o',e1⟩:=I.base.there b o e hx;exact there b o' (neC b o e hx) e1
 ·obtain⟨m1,e1⟩:=I.base.tbls b ps e;obtain⟨m2,e2⟩:=tbls b _ e1;exact⟨m1++m2,by rw [e2,Array.append_assoc]⟩
 ·obtain⟨m,hn,hl⟩:=I.loc;refine⟨m,ns m hn,λi x v e1 e2 e3=>?_⟩
  obtain⟨u,r,l⟩:=hl i x v e1 e2 e3;refine⟨u,r,?_⟩;rcases l with l | ⟨k,c,e,z⟩
  ·exact .inl l
  ·exact .inr ⟨k,c,e,cellK x c e _ z⟩
 ·obtain⟨v,z⟩:=I.cell x c e;exact⟨v,cellK x c e v z⟩
 ·obtain⟨m,⟨o,_,_,ho,_⟩,_⟩:=I.loc;exact free _ o (λz=>(hch _ z).2.1 rfl) ho I.free
 ·obtain⟨v,o,ho,hd⟩:=I.cell x c e;exact free c o (λz=>(hch c z).2.2.1 x c e rfl) ho (I.freeC x c e)
 ·obtain⟨e,n,ne,nf,d⟩:=I.pin p hp;have nch:p.1∉ch:=λz=>(hch p.1 z).2.2.2 p hp rfl
  exact⟨keep p.1 p.2 ne nf nch e n,free p.1 p.2 nch e n,ne,nf,d⟩
theorem aE.un {t':Nat} (I:aE X K2 σ H s) (u:Un X.fs [] H H' s.heap h') (hok:nZ X.prog X.w H' h'):aE X K2 σ H' {s with heap:=h',toks:=t'}:=by
 obtain⟨m,⟨o,es,ep,ho,r⟩,_⟩:=id I.loc;obtain⟨sl,hL⟩:=u.any ho I.free (by simp)
 exact I.step (g':=s.gens) (d':=s.drawn) (ch:=[]) (λ_ z=>nomatch z) (λb o _ hb _ e n=>u.keep b o e n hb (by simp)) (λb o _ hb _ e n=>u.slot b o e n hb (by simp)) (λb o _ e n=>u.free b o e n (by simp)) (λb o _ e=>u.there b o e (by simp)) u.tups u.frzs u.tbls (λm' hm=>by
  obtain⟨o',es',ep',ho',r'⟩:=hm;rw [ho] at ho'; cases ho'
  exact⟨_,es',ep',hL,r'⟩) hok I.bare
theorem aE.call {g':KW GenState} {t':Nat} {d':Drawn} {ch:List KN} (I:aE X K2 σ H s) (u:Un (tu X.stack) ch H H' s.heap h') (hok:nZ X.prog X.w H' h') (hg:AllBare g')
  (hch:∀ b∈ch,(b∈X.ex\/X.s₀.heap.objs.size<=b)/\b≠X.env.locals/\(∀ x c,X.env.cells.lookup x=some c->c≠b)/\∀ p∈X.pn++K2,p.1≠b):
  aE X K2 σ H' {s with heap:=h',gens:=g',drawn:=d',toks:=t'}:=by
 obtain⟨m,⟨o,es,ep,ho,r⟩,_⟩:=id I.loc;obtain⟨sl,hL⟩:=u.any ho I.free λz=>(hch _ z).2.1 rfl
 exact I.step (ch:=ch) hch (λb o hL hb hc e n=>u.keep b o e n (λz=>(J2.mp (I.stkSub b z)).elim hL hb) hc) (λb o _ _ hc e n=>u.any e n hc) (λb o hc e n=>u.free b o e n hc) (λb o hc e=>u.there b o e hc) u.tups u.frzs u.tbls (λm' hm=>by
  obtain⟨o',es',ep',ho',r'⟩:=hm;rw [ho] at ho'; cases ho'
  exact⟨_,es',ep',hL,r'⟩) hok hg
theorem aE.turned {t':Nat} {it:KN} (I:aE X K2 σ H s) (k:∀ b o,b≠it->s.heap.get? b=some o->h'.get? b=some o) (hn:H it=none) (hL:it≠X.env.locals)
  (h1:it∈X.ex\/X.s₀.heap.objs.size<=it) (h2:∀ x c,X.env.cells.lookup x=some c->c≠it) (h3:∀ p∈X.pn++K2,p.1≠it):aE X K2 σ H {s with heap:=h',toks:=t'}:=by
 have nit:∀ b u,H b=some u->b≠it:=λb u e z=>by rw [z,hn] at e; cases e
 refine I.step (g':=s.gens) (d':=s.drawn) (ch:=[it]) (λb hb=>?_) (λb o _ _ hc e _=>k b o (λz=>hc (by simp [z])) e) (λb o _ _ hc e _=>⟨o.slots,k b o (λz=>hc (by simp [z])) e⟩) (λ_ _ _ _ n=>n)
  (λb o hc e=>⟨o,k b o (λz=>hc (by simp [z])) e⟩) (λ_ _ e=>e) (λ_ _ _ e=>e) (λb ps e=>⟨#[],by rw [e]; simp⟩) (λm hm=>?_) (λb u e=>?_) I.bare
 ·have e:b=it:=by simpa using hb
  subst e;exact⟨h1,hL,h2,h3⟩
 ·obtain⟨o,es,ep,ho,r⟩:=hm;exact⟨o,es,ep,k _ o (Ne.symm hL) ho,r⟩
 ·refine(I.hok b u e).stay (λc v hc q=>k c v ?_ q) (λ_ q=>q) λ_ _ q=>q
  rcases hc with z | z
  ·rw [z]; exact nit b u e
  ·exact nit c _ z
theorem aE.tok (I:aE X K2 σ H s) (t:Nat):aE X K2 σ H {s with toks:=t}:=I.un (h':=s.heap) (t':=t) Un.refl I.hok
theorem aE.kept {t':Nat} (I:aE X K2 σ H s) (k:∀ b u,s.heap.get? b=some u->h'.get? b=some u):aE X K2 σ H {s with heap:=h',toks:=t'}:=I.un (Un.kept k) (I.hok.kept k)
theorem aE.laid {a:KN} {o:HO} {t':Nat} (I:aE X K2 σ H s) (k:∀ b u,s.heap.get? b=some u->h'.get? b=some u) (hp:s.heap.objs.size<=a) (new:dy X.prog X.w (br H a o) h' a o):
  aE X K2 σ (br H a o) {s with heap:=h',toks:=t'}:=I.un (Un.laid k hp (I.hok.fresh hp)) (I.hok.laid k hp new)
theorem aE.write {x e:KN} {o:HO} {t':Nat} (I:aE X K2 σ H s) (mu:Hi (H x)) (he:e=x\/H e=some (.own x)) (k:∀ b u,b≠e->s.heap.get? b=some u->h'.get? b=some u) (heo:∃ u,h'.get? e=some u)
  (new:dy X.prog X.w (br H x o) h' x o):aE X K2 σ (br H x o) {s with heap:=h',toks:=t'}:=I.un (Un.write mu he k heo) (I.hok.write mu he k heo new)
theorem aE.pins_of {pins':List (KN×K1)} (I:aE X K2 σ H s) (h:∀ p∈pins',s.heap.get? p.1=some p.2/\H p.1=none/\p.1≠X.env.locals/\p.1∉X.fs/\∀ v,p.2.data≠.cell v):aE X pins' σ H s:=
 ⟨I.ok,I.os,I.bare,I.base,I.loc,I.cell,I.free,I.freeC,λp hp=>(List.mem_append.mp hp).elim (λz=>I.pin p (List.mem_append_left _ z)) (h p),I.hok,I.len⟩
theorem uo {N:List Str} (hN:N.Nodup) {i j:Nat} {x:Str} (a:N[i]?=some x) (b:N[j]?=some x):i=j:=by
 obtain⟨h1,e1⟩:=Kl.mp a;obtain⟨h2,e2⟩:=Kl.mp b;exact(List.getElem_inj hN).mp (e1.trans e2.symm)
theorem xB {M:Model} {A:KR} {E:KM->KL->Prop} {i:Nat} {x:Str} {v:V} {u:KM} {Q:Unit->KL->Prop} (I:aE X K2 σ H s) (hN:X.N.Nodup) (hi:X.N[i]?=some x) (hx:FQ X.env.scope x) (r:aW v u)
  (h:∀ s',aE X K2 (σ.set i (some v)) H s'->(∃ a,Heap.SameBut a s.heap s'.heap/\(a=X.env.locals\/X.env.cells.lookup x=some a))->Q () s') (hf:X.fn x=true\/X.env.scope.names.lookup x=some .local:=by first | exact .inl rfl | exact .inr rfl | assumption):wpAny M A (storeName X.env x u) Q E s:=by
 obtain⟨m,hn,hl⟩:=id I.loc;have hcls:(X.env.scope.kind == .class || (X.env.scope.kind == .module && X.env.locals != X.env.globals))=false:=by rw [I.ok.kind]; rfl
 have hiσ:i < σ.length:=by rw [I.len]; exact(Kl.mp hi).1
 have cne:=I.cne;have tracked:∀ {a:KN} {h':KT},(∃ o,s.heap.get? a=some o/\H a=none)->Heap.SameBut a s.heap h'->nZ X.prog X.w H h':=λ{a h'} ha hs b ob e=>by
  obtain⟨_,_,hfree⟩:=ha;refine(I.hok b ob e).stay (λc w' hc q=>(hs.2 c ?_).trans q) (λ_ q=>q) λ_ _ q=>q
  rintro rfl;rcases hc with rfl | hc
  ·rw [hfree] at e; cases e
  ·rw [hfree] at hc; cases hc
 rcases hx with hk | hk
 ·refine wpAny_storeName_local hk hn (λh' hn' hs=>?_) hcls
  obtain⟨oL,_,_,hoL,_⟩:=id hn;refine h _ ⟨I.ok,I.os,I.bare,⟨λb o e n hb hx=>?_,λb o e n hb hx=>?_,I.base.free,λb o e hx=>?_,I.base.tups,I.base.frzs,I.base.tbls⟩,⟨_,hn',λj y v' e1 e2 e3=>?_⟩,λy c e=>?_,I.free,I.freeC,λp hp=>?_,tracked ⟨oL,hoL,I.free⟩ hs,by simpa using I.len⟩ ⟨_,hs,.inl rfl⟩
  ·exact(hs.2 b (J3 (J6 (JW e) I.ok.above))).trans (I.base.keep b o e n hb hx)
  ·obtain⟨sl,e1⟩:=I.base.slot b o e n hb hx;exact⟨sl,(hs.2 b (J3 (J6 (JW e) I.ok.above))).trans e1⟩
  ·obtain⟨o',e1⟩:=I.base.there b o e hx;exact⟨o',(hs.2 b (J3 (J6 (JW e) I.ok.above))).trans e1⟩
  ·by_cases hj:j=i
   ·subst hj;rw [hi] at e1; cases e1
    rw [List.getElem?_set_self hiσ] at e2;cases e2;exact⟨u,r,.inl ⟨hk,by simp⟩⟩
   ·rw [List.getElem?_set_ne (Ne.symm hj)] at e2;obtain⟨u',r',q⟩:=hl j y v' e1 e2 e3;refine⟨u',r',?_⟩;rcases q with ⟨k,e⟩ | ⟨k,c,e,z⟩
    ·refine .inl ⟨k,?_⟩;have:y≠x:=λe=>hj (uo hN e1 (e▸hi))
     simp [this,e]
    ·exact .inr ⟨k,c,e,z.sameBut hs (cne y c e)⟩
  ·obtain⟨w',z⟩:=I.cell y c e;exact⟨w',z.sameBut hs (cne y c e)⟩
  ·obtain⟨e,n,ne,nf,d⟩:=I.pin p hp;exact⟨(hs.2 p.1 ne).trans e,n,ne,nf,d⟩
 ·have hfn:X.fn x=true:=by
   rcases hf with z | z
   ·exact z
   ·rw [z] at hk; cases hk
  obtain⟨c,hc⟩:=I.ok.has x (.inl hk);obtain⟨w',z⟩:=I.cell x c hc;refine wpAny_storeName_cell I.ok.kind hk hc z (λh' hc' hs=>?_)
  obtain⟨oc,hoc,hocd⟩:=id z;refine h {s with heap:=h'} ⟨I.ok,I.os,I.bare,⟨λb o e n hb hx=>?_,λb o e n hb hx=>?_,I.base.free,λb o e hx=>?_,I.base.tups,I.base.frzs,I.base.tbls⟩,⟨m,hn.sameBut hs (Ne.symm (cne x c hc)),λj y v' e1 e2 e3=>?_⟩,λy c' e=>?_,I.free,I.freeC,λp hp=>?_,tracked ⟨oc,hoc,I.freeC x c hc⟩ hs,by simpa using I.len⟩ ⟨c,hs,.inr hc⟩
  ·exact(hs.2 b (J3 (J6 (JW e) (I.ok.cab x c hfn hc)))).trans (I.base.keep b o e n hb hx)
  ·obtain⟨sl,e1⟩:=I.base.slot b o e n hb hx;exact⟨sl,(hs.2 b (J3 (J6 (JW e) (I.ok.cab x c hfn hc)))).trans e1⟩
  ·obtain⟨o',e1⟩:=I.base.there b o e hx;exact⟨o',(hs.2 b (J3 (J6 (JW e) (I.ok.cab x c hfn hc)))).trans e1⟩
  ·by_cases hj:j=i
   ·subst hj;rw [hi] at e1; cases e1
    rw [List.getElem?_set_self hiσ] at e2;cases e2;exact⟨u,r,.inr ⟨.inl hk,c,hc,hc'⟩⟩
   ·rw [List.getElem?_set_ne (Ne.symm hj)] at e2;obtain⟨u',r',q⟩:=hl j y v' e1 e2 e3;refine⟨u',r',?_⟩;rcases q with q | ⟨k,c',e,z'⟩
    ·exact .inl q
    ·refine .inr ⟨k,c',e,z'.sameBut hs ?_⟩;rintro rfl;exact hj (uo hN e1 (I.ok.inj _ _ _ e hc▸hi))
  ·by_cases hcc:c'=c
   ·subst hcc; exact⟨_,hc'⟩
   ·obtain⟨w2,z2⟩:=I.cell y c' e;exact⟨w2,z2.sameBut hs hcc⟩
  ·obtain⟨e,n,ne,nf,d⟩:=I.pin p hp;refine⟨(hs.2 p.1 ?_).trans e,n,ne,nf,d⟩;intro q;rw [q,hoc] at e;have q':oc=p.2:=Kj e;exact d w' (by rw [<- q']; exact hocd)
theorem mh {M:Model} {A:KR} {E:KM->KL->Prop} {i:Nat} {x:Str} {v:V} {u:KM} {Q:Unit->KL->Prop} (I:aE X K2 σ H s) (hN:X.N.Nodup) (hi:X.N[i]?=some x) (hx:FQ X.env.scope x) (r:aW v u)
  (h:∀ s',aE X K2 (σ.set i (some v)) H s'->Q () s') (hf:X.fn x=true\/X.env.scope.names.lookup x=some .local:=by first | exact .inl rfl | exact .inr rfl | assumption):wpAny M A (storeName X.env x u) Q E s:=
 xB I hN hi hx r (λs' I' _=>h s' I') hf
theorem aE.call' {s':KL} {ch:List KN} (I:aE X K2 σ H s) (ho:s'.os=s.os) (u:Un (tu X.stack) ch H H' s.heap s'.heap) (hok:nZ X.prog X.w H' s'.heap) (hg:AllBare s'.gens)
  (hch:∀ b∈ch,(b∈X.ex\/X.s₀.heap.objs.size<=b)/\b≠X.env.locals/\(∀ x c,X.env.cells.lookup x=some c->c≠b)/\∀ p∈X.pn++K2,p.1≠b):aE X K2 σ H' s':=by
 obtain⟨h',g',d',t',o'⟩:=s';have e:o'=s.os:=ho;subst e;exact I.call (g':=g') (t':=t') (d':=d') u hok hg hch
end
abbrev XK:=KM->KO KN->Hp->Prop
abbrev St:=List (KO V)
abbrev VK:=V->Hp->Prop
abbrev TE:=St->Hp->VK->Prop
abbrev TT:=St->Hp->(KY->Hp->Prop)->Prop
abbrev TA:=St->Hp->(List V->Hp->Prop)->Prop
structure qi where
 nx:St->Hp->Prop
 rt:VK
 bk:St->Hp->Prop:=λ_ _=>False
 ct:St->Hp->Prop:=λ_ _=>False
abbrev TS:=qi->St->Hp->Prop
def EP (X:Cx) (K2:List (KN×K1)) (σ:St) (Q:VK) (u:KM) (s':KL):Prop:=∃ v H',aE X K2 σ H' s'/\aW v u/\Q v H'
def TP (X:Cx) (K2:List (KN×K1)) (σ:St) (Q:KY->Hp->Prop) (b:KY) (s':KL):Prop:=∃ H',aE X K2 σ H' s'/\Q b H'
def AP (X:Cx) (K2:List (KN×K1)) (σ:St) (Q:List V->Hp->Prop) (us:List KM) (s':KL):Prop:=∃ vs H',aE X K2 σ H' s'/\aV vs us/\Q vs H'
def SP (X:Cx) (K2:List (KN×K1)) (D:qi) (f:Flow) (s':KL):Prop:=
 match f with
 | .next=>∃ σ' H',aE X K2 σ' H' s'/\D.nx σ' H'
 | .brk=>∃ σ' H',aE X K2 σ' H' s'/\D.bk σ' H'
 | .cont=>∃ σ' H',aE X K2 σ' H' s'/\D.ct σ' H'
 | .ret u=>∃ v σ' H',aE X K2 σ' H' s'/\aW v u/\D.rt v H'
def PE (X:Cx) (e:KP) (t:TE):Prop:=
 ∀ (K2:List (KN×K1)) (s:KL) (σ:St) (H:Hp) (Q:VK),aE X K2 σ H s->t σ H Q->wpAny (model X.prog X.w) X.A (eval e X.env) (EP X K2 σ Q) X.xe s
def PT (X:Cx) (e:KP) (t:TT):Prop:=
 ∀ (K2:List (KN×K1)) (s:KL) (σ:St) (H:Hp) (Q:KY->Hp->Prop),aE X K2 σ H s->t σ H Q->wpAny (model X.prog X.w) X.A (isTrue e X.env (eval e X.env)) (TP X K2 σ Q) X.xe s
def PW (X:Cx) (e:KP) (t:TT):Prop:=
 ∀ (whole:Sem KM) (K2:List (KN×K1)) (s:KL) (σ:St) (H:Hp) (Q:KY->Hp->Prop),aE X K2 σ H s->t σ H Q->wpAny (model X.prog X.w) X.A (isTrue e X.env whole) (TP X K2 σ Q) X.xe s
theorem PW.pt {X:Cx} {e:KP} {t:TT} (h:PW X e t):PT X e t:=h _
def PA (X:Cx) (es:List KP) (t:TA):Prop:=
 ∀ (pos:Pos) (K2:List (KN×K1)) (s:KL) (σ:St) (H:Hp) (Q:List V->Hp->Prop),aE X K2 σ H s->t σ H Q->wpAny (model X.prog X.w) X.A (spliced (backTo pos (starEach es X.env))) (AP X K2 σ Q) X.xe s
def PS (X:Cx) (st:KU) (t:TS):Prop:=
 ∀ (K2:List (KN×K1)) (s:KL) (σ:St) (H:Hp) (D:qi),aE X K2 σ H s->t D σ H->wpAny (model X.prog X.w) X.A (exec st X.env) (SP X K2 D) X.xe s
def rC (X:Cx) (st:List KU) (t:TS):Prop:=
 ∀ (K2:List (KN×K1)) (s:KL) (σ:St) (H:Hp) (D:qi),aE X K2 σ H s->t D σ H->wpAny (model X.prog X.w) X.A (execs st X.env) (SP X K2 D) X.xe s
theorem bc {α:Type} {t:Sem α} {Q Q':α->KL->Prop} {M:Model} {A:KR} {E:KM->KL->Prop} {s:KL} (h:wpAny M A t Q E s) (hQ:∀ a s,Q a s->Q' a s):wpAny M A t Q' E s:=Km h hQ λ_ _ x=>x
section
variable {X:Cx}
def IY (i:Nat):TE:=fun σ H Q=>∃ v,σ[i]?=some (some v)/\Q v H
def tC (v:V):TE:=λ_ H Q=>Q v H
theorem DQ {i:Nat} {x:Str} {pos:Pos} (hN:X.N[i]?=some x) (hv:GM X.env.scope x) (hd:(x == ("__debug__":Str))=false:=by decide) (hcd:(x == ("__classdict__":Str))=false:=by decide):PE X (.Name x pos) (IY i):=by
 intro K2 s σ H Q I h;obtain⟨v,e,h⟩:=h;obtain⟨m,hn,hl⟩:=I.loc;obtain⟨u,r,l⟩:=hl i x v hN e hv;have fin:EP X K2 σ Q u s:=⟨v,H,I,r,h⟩;rcases l with ⟨hk,hm⟩ | ⟨hk,c,hc,hcell⟩
 ·exact wpAny_Name (wpAny_loadName_local I.ok.kind hk hn hm fin) hd
 ·rcases hk with hk | hk
  ·exact wpAny_Name (wpAny_loadName_cell I.ok.kind hk hc hcell fin) hd
  ·exact wpAny_Name (wpAny_loadName_free I.ok.kind hk hc hcell fin hcd) hd
theorem EE {i j pos}:PE X (.Constant (.int i) j pos) (tC (.int i)):=λ_ _ _ H _ I h=>wpAny_Constant_int ⟨.int i,H,I.tok _,⟨_,rfl⟩,h⟩
theorem GS {b j pos}:PE X (.Constant (.bool b) j pos) (tC (.bl b)):=λ_ _ _ H _ I h=>Constant_bool ⟨.bl b,H,I,rfl,h⟩
theorem C_ {j pos}:PE X (.Constant .none j pos) (tC .non):=λ_ _ _ H _ I h=>Constant_none ⟨.non,H,I,rfl,h⟩
theorem DZ {x j pos}:PE X (.Constant (.str x) j pos) (tC (.str x)):=λ_ _ _ H _ I h=>Calls.Constant_str ⟨.str x,H,I.tok _,⟨_,rfl⟩,h⟩
def Gl (X:Cx) (x:Str):Prop:=X.env.kindOf x=some .globalImplicit
theorem xt {E:KM->KL->Prop} {K2:List (KN×K1)} {s:KL} {σ:St} {H:Hp} {x:Str} {u:KM} {pos:Pos} {Q:KM->KL->Prop} (I:aE X K2 σ H s) (hg:Gl X x) (hm:X.mg x=some u) (h:Q u s)
  (hd:(x == ("__debug__":Str))=false:=by decide):wpAny (model X.prog X.w) X.A (eval (.Name x pos) X.env) Q E s:=
 Calls.Name_function_global I.ok.kind hg (Calls.loadGlobal_global (by rw [I.ok.glob]; exact I.mod.glob.keeps I.bk) hm h) hd
theorem iI {E:KM->KL->Prop} {K2:List (KN×K1)} {s:KL} {σ:St} {H:Hp} {x:Str} {u:KM} {pos:Pos} {Q:KM->KL->Prop} (I:aE X K2 σ H s) (hg:Gl X x) (hm:X.mg x=none) (hv:bootBuiltins x=some u) (h:Q u s)
  (hn:x≠"__name__":=by decide) (hd:(x == ("__debug__":Str))=false:=by decide):wpAny (model X.prog X.w) X.A (eval (.Name x pos) X.env) Q E s:=by
 obtain⟨mb,h1,h2⟩:=I.mod.blt;exact Calls.Name_function_global I.ok.kind hg (Calls.loadGlobal_builtin (by rw [I.ok.glob]; exact I.mod.glob.keeps I.bk) hm (by rw [I.ok.blt]; exact h1.keeps I.bk) ((h2 x hn).trans hv) h) hd
theorem oE {x:Str} {v:V} {u:KM} {pos:Pos} (hg:Gl X x) (hm:X.mg x=some u) (r:aW v u) (hd:(x == ("__debug__":Str))=false:=by decide):PE X (.Name x pos) (tC v):=
 λ_ _ _ H _ I h=>xt I hg hm ⟨v,H,I,r,h⟩ hd
theorem Cv {x:Str} {v:V} {u:KM} {pos:Pos} (hg:Gl X x) (hm:X.mg x=none) (hv:bootBuiltins x=some u) (r:aW v u) (hn:x≠"__name__":=by decide) (hd:(x == ("__debug__":Str))=false:=by decide):PE X (.Name x pos) (tC v):=
 λ_ _ _ H _ I h=>iI I hg hm hv ⟨v,H,I,r,h⟩ hn hd
variable {a b:KP} {ta tb:TE} {pos:Pos}
def tB (t:TE):TT:=fun σ H Q=>t σ H λx H1=>∃ c,x=.bl c/\Q c H1
theorem Df {e:KP} {t:TE} (h:PE X e t) (he:∀ whole,isTrue e X.env whole=(do let v <- whole; standAt e.pos; holding [v] (truthy v)):=by intro _; rfl):PT X e (tB t):=by
 intro K2 s σ H Q I hw;refine isTrue_plain (bc (h K2 s σ H _ I hw) λv s1 ⟨x,H1,I1,r1,q1⟩=>?_) (he _)
 obtain⟨d,rfl,q⟩:=q1;cases r1;exact wpAny_truthy_bool ⟨H1,I1,q⟩
variable {tA tB':TT} {a_:List KP}
def IC (t u:TT):TT:=fun σ H Q=>t σ H λc H1=>if c=true then u σ H1 Q else Q false H1
def JR (t u:TT):TT:=fun σ H Q=>t σ H λc H1=>if c=true then Q true H1 else u σ H1 Q
def HU (t:TT):TT:=fun σ H Q=>t σ H λc H1=>Q (!c) H1
theorem Bi (ha:PT X a tA):PW X (.BoolOp .And [a] pos) tA:=by
 intro wh K2 s σ H Q I h;refine isTrue_and (bc (ha K2 s σ H Q I h) λc s1 e=>?_)
 cases c with
 | true=>exact isTrue_and_nil e
 | false=>exact e
theorem Fq (ha:PT X a tA):PW X (.BoolOp .Or [a] pos) tA:=by
 intro wh K2 s σ H Q I h;refine isTrue_or (bc (ha K2 s σ H Q I h) λc s1 e=>?_)
 cases c with
 | false=>exact isTrue_or_nil e
 | true=>exact e
theorem Fx (ha:PT X a tA) (hb:PW X (.BoolOp .And (b::a_) pos) tB'):PW X (.BoolOp .And (a::b::a_) pos) (IC tA tB'):=by
 intro wh K2 s σ H Q I h;refine isTrue_and (bc (ha K2 s σ H _ I h) λc s1 z9=>?_)
 obtain⟨H1,I1,q1⟩:=z9;cases c with
 | true=>exact hb wh K2 s1 σ H1 Q I1 q1
 | false=>exact⟨H1,I1,q1⟩
theorem Ht (ha:PT X a tA) (hb:PW X (.BoolOp .Or (b::a_) pos) tB'):PW X (.BoolOp .Or (a::b::a_) pos) (JR tA tB'):=by
 intro wh K2 s σ H Q I h;refine isTrue_or (bc (ha K2 s σ H _ I h) λc s1 z9=>?_)
 obtain⟨H1,I1,q1⟩:=z9;cases c with
 | true=>exact⟨H1,I1,q1⟩
 | false=>exact hb wh K2 s1 σ H1 Q I1 q1
theorem D_ (ha:PT X a tA):PT X (.UnaryOp .Not a pos) (HU tA):=by
 intro K2 s σ H Q I h;exact isTrue_not (ha K2 s σ H (λc H1=>Q (!c) H1) I h)
def HC (ta tb:TE):TE:=fun σ H Q=>ta σ H λx H1=>∃ c,x=.bl c/\if c=true then tb σ H1 Q else Q (.bl false) H1
def Jb (ta tb:TE):TE:=fun σ H Q=>ta σ H λx H1=>∃ c,x=.bl c/\if c=true then Q (.bl true) H1 else tb σ H1 Q
def Gn (ta:TE):TE:=fun σ H Q=>ta σ H λx H1=>∃ c,x=.bl c/\Q (.bl (!c)) H1
theorem Ex {op} {t:TE} (h:PE X a t):PE X (.BoolOp op [a] pos) t:=λK2 s σ H Q I hw=>BoolOp_one (h K2 s σ H Q I hw)
theorem Dm (ha:PE X a ta) (hb:PE X (.BoolOp .And (b::a_) pos) tb):PE X (.BoolOp .And (a::b::a_) pos) (HC ta tb):=by
 intro K2 s σ H Q I h;refine BoolOp_and (bc (ha K2 s σ H _ I h) λv s1 z9=>?_)
 obtain⟨x,H1,I1,r1,q1⟩:=z9;obtain⟨c,rfl,q1⟩:=q1;cases r1;refine wpAny_truthy_bool ?_;cases c with
 | true=>exact hb K2 s1 σ H1 Q I1 q1
 | false=>exact⟨.bl false,H1,I1,rfl,q1⟩
theorem Gk (ha:PE X a ta) (hb:PE X (.BoolOp .Or (b::a_) pos) tb):PE X (.BoolOp .Or (a::b::a_) pos) (Jb ta tb):=by
 intro K2 s σ H Q I h;refine BoolOp_or (bc (ha K2 s σ H _ I h) λv s1 z9=>?_)
 obtain⟨x,H1,I1,r1,q1⟩:=z9;obtain⟨c,rfl,q1⟩:=q1;cases r1;refine wpAny_truthy_bool ?_;cases c with
 | false=>exact hb K2 s1 σ H1 Q I1 q1
 | true=>exact⟨.bl true,H1,I1,rfl,q1⟩
theorem E2 (ha:PE X a ta):PE X (.UnaryOp .Not a pos) (Gn ta):=by
 intro K2 s σ H Q I h;refine UnaryOp_ (bc (ha K2 s σ H _ I h) λv s1 z9=>?_)
 obtain⟨x,H1,I1,r1,q1⟩:=z9;obtain⟨c,rfl,q1⟩:=q1;cases r1;exact not_of (wpAny_truthy_bool ⟨.bl (!c),H1,I1,rfl,q1⟩)
def Jq (t:TT) (ta tb:TE):TE:=fun σ H Q=>t σ H λc H1=>if c=true then ta σ H1 Q else tb σ H1 Q
theorem AA {c:KP} (hc:PT X c tA) (ha:PE X a ta) (hb:PE X b tb):PE X (.IfExp c a b pos) (Jq tA ta tb):=by
 intro K2 s σ H Q I h;refine wpAny_IfExp (bc (hc K2 s σ H _ I h) λd s1 z9=>?_)
 obtain⟨H1,I1,q1⟩:=z9;cases d with
 | true=>exact ha K2 s1 σ H1 Q I1 q1
 | false=>exact hb K2 s1 σ H1 Q I1 q1
end
def eH (K:PySem.W.Frag) (H:Hp) (a:KN) (xs:List V):Prop:=
 Rd H a (.lst xs)\/
  ∃ (o:K1) (its:KW KM) (n:Nat),K.lookup a=some o/\o.cls=.type "list"/\o.dict=none/\o.data=.seq its n/\its.size<=sizeLine/\aV xs its.toList
def gZ (K:PySem.W.Frag) (H:Hp) (a:KN) (xs:List V):Prop:=
 Rd H a (.tup xs)\/
  ∃ (o:K1) (its:KW KM) (n:Nat),K.lookup a=some o/\o.cls=.type "tuple"/\o.data=.seq its n/\its.size<=sizeLine/\aV xs its.toList
def IM:KM->KO V
 | .none=>some .non
 | .bool b=>some (.bl b)
 | .int i _=>some (.int i)
 | .str x _=>some (.str x)
 | .bytes b _=>some (.byt b)
 | .float b _=>some (.flt b)
 | .ref a=>some (.ref a)
 | .type n=>some (.ty n)
 | _=>none
theorem aW.abs {x:V} {u:KM} (r:aW x u):IM u=some x:=by
 cases x with
 | non=>cases r; rfl
 | bl _=>cases r; rfl
 | int _=>obtain⟨t,rfl⟩:=r; rfl
 | str _=>obtain⟨t,rfl⟩:=r; rfl
 | byt _=>obtain⟨t,rfl⟩:=r; rfl
 | flt _=>obtain⟨t,rfl⟩:=r; rfl
 | ref _=>cases r; rfl
 | ty _=>cases r; rfl
theorem aW.inj {x y:V} {u:KM} (r:aW x u) (q:aW y u):x=y:=Kj (r.abs.symm.trans q.abs)
theorem aV.inj:∀ {xs ys:List V} {us:List KM},aV xs us->aV ys us->xs=ys
 | _,_,_,.nil,.nil=>rfl
 | _,_,_,.cons r t,.cons r' t'=>by rw [r.inj r',aV.inj t t']
section
variable {X:Cx} {K2:List (KN×K1)} {σ:St} {H:Hp} {s:KL} {a:KN} {xs ys:List V}
theorem eH.of {K:PySem.W.Frag} (h:H a=some (.lst xs)):eH K H a xs:=.inl (.inl h)
theorem gZ.of {K:PySem.W.Frag} (h:H a=some (.tup xs)):gZ K H a xs:=.inl (.inl h)
theorem aE.list (I:aE X K2 σ H s) (h:eH X.K H a xs):∃ its:List KM,aV xs its/\PlainL s.heap a its.toArray/\xs.length<=sizeLine:=by
 rcases h with h | ⟨o,its,n,hk,hc,hd,hs,hz,r⟩
 ·obtain⟨z,its,n,r,e⟩:=h.ok I.hok;exact⟨its,r,⟨_,n,e,rfl,rfl,rfl⟩,z⟩
 ·refine⟨its.toList,r,⟨o,n,I.kIn a o hk,hc,hd,by simpa using hs⟩,?_⟩
  have e:=r.length;simp only [KG] at e;omega
theorem aE.tuple (I:aE X K2 σ H s) (h:gZ X.K H a xs):∃ its:List KM,aV xs its/\IsTup s.heap a its.toArray/\xs.length<=sizeLine:=by
 rcases h with h | ⟨o,its,n,hk,hc,hs,hz,r⟩
 ·obtain⟨z,its,r,p⟩:=h.ok I.hok;exact⟨its,r,p,z⟩
 ·refine⟨its.toList,r,⟨o,I.kIn a o hk,hc,n,by simpa using hs⟩,?_⟩
  have e:=r.length;simp only [KG] at e;omega
theorem aE.list_inj (I:aE X K2 σ H s) (h:eH X.K H a xs) (h':eH X.K H a ys):xs=ys:=by
 obtain⟨its,r,⟨o,n,e,_,_,d⟩,_⟩:=I.list h;obtain⟨its',r',⟨o',n',e',_,_,d'⟩,_⟩:=I.list h';rw [e] at e'; cases e'
 rw [d] at d';injection d' with d1 _
 have:its=its':=by simpa using congrArg Array.toList d1
 subst this;exact r.inj r'
theorem aE.tuple_inj (I:aE X K2 σ H s) (h:gZ X.K H a xs) (h':gZ X.K H a ys):xs=ys:=by
 obtain⟨its,r,⟨o,e,_,n,d⟩,_⟩:=I.tuple h;obtain⟨its',r',⟨o',e',_,n',d'⟩,_⟩:=I.tuple h';rw [e] at e'; cases e'
 rw [d] at d';injection d' with d1 _
 have:its=its':=by simpa using congrArg Array.toList d1
 subst this;exact r.inj r'
end
abbrev Cx.wish (X:Cx) (E:KM->KL->Prop):Cx:={X with xe:=E}
abbrev Cx.nox (X:Cx):Cx:=X.wish λ_ _=>False
theorem Cx.Ok.wish {X:Cx} (ok:X.Ok) (E:KM->KL->Prop):(X.wish E).Ok:=
 ⟨ok.mod,ok.kind,ok.glob,ok.blt,ok.above,ok.inj,ok.has,ok.cab,ok.hd,ok.frames,ok.stk,ok.exf,ok.bs,ok.bsz,ok.noex,ok.exfs,ok.funs,ok.frf⟩
theorem Cx.Ok.unwish {X:Cx} {E:KM->KL->Prop} (ok:(X.wish E).Ok):X.Ok:=
 ⟨ok.mod,ok.kind,ok.glob,ok.blt,ok.above,ok.inj,ok.has,ok.cab,ok.hd,ok.frames,ok.stk,ok.exf,ok.bs,ok.bsz,ok.noex,ok.exfs,ok.funs,ok.frf⟩
section
variable {X:Cx} {K2:List (KN×K1)} {σ:St} {H:Hp} {s:KL} {E:KM->KL->Prop}
theorem aE.wish (I:aE X K2 σ H s) (E:KM->KL->Prop):aE (X.wish E) K2 σ H s:=⟨I.ok.wish E,I.os,I.bare,I.base,I.loc,I.cell,I.free,I.freeC,I.pin,I.hok,I.len⟩
theorem aE.unwish (I:aE (X.wish E) K2 σ H s):aE X K2 σ H s:=⟨I.ok.unwish,I.os,I.bare,I.base,I.loc,I.cell,I.free,I.freeC,I.pin,I.hok,I.len⟩
theorem SP.unwish {D:qi} {f:Flow} {s':KL} (h:SP (X.wish E) K2 D f s'):SP X K2 D f s':=by
 cases f with
 | next=>obtain⟨σ',H',I,q⟩:=h; exact⟨σ',H',I.unwish,q⟩
 | brk=>obtain⟨σ',H',I,q⟩:=h; exact⟨σ',H',I.unwish,q⟩
 | cont=>obtain⟨σ',H',I,q⟩:=h; exact⟨σ',H',I.unwish,q⟩
 | ret u=>obtain⟨v,σ',H',I,r,q⟩:=h; exact⟨v,σ',H',I.unwish,r,q⟩
theorem rC.nox {st:List KU} {t:TS} (h:rC X.nox st t):rC X st t:=λK2 s σ H D I hw=>
 Km (h K2 s σ H D (I.wish _) hw) (λ_ _ q=>q.unwish) λ_ _ z=>False.elim z
end
section
variable {X:Cx} {st:KU} {a_:List KU} {t u:TS} {e:KP} {te:TE} {pos:Pos}
def F3:TS:=λD σ H=>D.nx σ H
def GY (t u:TS):TS:=λD σ H=>t {D with nx:=u D} σ H
theorem BY:rC X [] F3:=λ_ _ σ H _ I h=>wpAny_execs_nil ⟨σ,H,I,h⟩
theorem y6 (h1:PS X st t) (h2:rC X a_ u):rC X (st::a_) (GY t u):=by
 intro K2 s σ H D I h;refine wpAny_execs_cons (bc (h1 K2 s σ H {D with nx:=u D} I h) λf s1 q=>?_)
 cases f with
 | next=>
  obtain⟨σ',H',I',q⟩:=q;exact h2 K2 s1 σ' H' D I' q
 | ret v=>exact q
 | brk=>exact q
 | cont=>exact q
theorem Cc (h1:PS X st t):rC X [st] t:=by
 intro K2 s σ H D I h;refine wpAny_execs_cons (bc (h1 K2 s σ H D I h) λf s1 q=>?_)
 cases f with
 | next=>exact wpAny_execs_nil q
 | ret v=>exact q
 | brk=>exact q
 | cont=>exact q
theorem aE.quiet {K2:List (KN×K1)} {σ:St} {H:Hp} {s:KL} (I:aE X K2 σ H s):interactive X.env=false:=by simp [interactive,I.ok.kind]
def G0 (te:TE):TS:=λD σ H=>te σ H λ_ H1=>D.nx σ H1
theorem Bx (he:PE X e te) (hs:swapsWith e none pos.line X.env=pure false:=by rfl):PS X (.Expr e pos) (G0 te):=by
 intro K2 s σ H D I h;exact wpAny_Expr_any (bc (he K2 s σ H _ I h) λv s1 z9=>by obtain⟨x,H1,I1,r1,q1⟩:=z9; exact⟨σ,H1,I1,q1⟩) I.quiet hs
def Ij (te:TE):TS:=λD σ H=>te σ H D.rt
theorem Ei (he:PE X e te):PS X (.Return (some e) pos) (Ij te):=by
 intro K2 s σ H D I h;exact wpAny_Return_some (bc (he K2 s σ H _ I h) λv s1 z9=>by obtain⟨x,H1,I1,r1,q1⟩:=z9; exact⟨x,σ,H1,I1,r1,q1⟩)
def IK (c:TT) (t u:TS):TS:=λD σ H=>c σ H λb H1=>if b=true then t D σ H1 else u D σ H1
theorem Gz {c:KP} {a b:List KU} {tc:TT} (hc:PT X c tc) (ha:rC X a t) (hb:rC X b u):PS X (.If c a b pos) (IK tc t u):=by
 intro K2 s σ H D I h;refine wpAny_If (bc (hc K2 s σ H _ I h) λd s1 z9=>?_)
 obtain⟨H1,I1,q1⟩:=z9;cases d with
 | true=>exact ha K2 s1 σ H1 D I1 q1
 | false=>exact hb K2 s1 σ H1 D I1 q1
def DR:TS:=λ_ _ _=>False
theorem An:PS X st DR:=λ_ _ _ _ _ _ h=>h.elim
end
abbrev TG:=V->St->Hp->(St->Hp->Prop)->Prop
abbrev zB:=List V->St->Hp->(St->Hp->Prop)->Prop
def PG (X:Cx) (target:KP) (t:TG):Prop:=
 ∀ (K2:List (KN×K1)) (s:KL) (σ:St) (H:Hp) (v:V) (u:KM) (Q:St->Hp->Prop),aE X K2 σ H s->aW v u->t v σ H Q->
  wpAny (model X.prog X.w) X.A (assign target X.env u) (λ_ s'=>∃ σ' H',aE X K2 σ' H' s'/\Q σ' H') X.xe s
def zg (X:Cx) (ts:List KP) (t:zB):Prop:=
 ∀ (K2:List (KN×K1)) (s:KL) (σ:St) (H:Hp) (vs:List V) (us:List KM) (Q:St->Hp->Prop),aE X K2 σ H s->aV vs us->t vs σ H Q->
  wpAny (model X.prog X.w) X.A (assignInOrder ((assignEach ts X.env).map (·.2)) us) (λ_ s'=>∃ σ' H',aE X K2 σ' H' s'/\Q σ' H') X.xe s
abbrev B8:=V->V->V->Hp->(Hp->Prop)->Prop
def EV (X:Cx) (t:B8):Prop:=
 ∀ (K2:List (KN×K1)) (s:KL) (σ:St) (H:Hp) (o i v:V) (ov iv u:KM) (Q:Hp->Prop),aE X K2 σ H s->aW o ov->aW i iv->aW v u->t o i v H Q->
  wpAny (model X.prog X.w) X.A (setItem ov iv u) (λ_ s'=>∃ H',aE X K2 σ H' s'/\Q H') X.xe s
section
variable {X:Cx} {pos:Pos}
def nY (i:Nat):TG:=λv σ H Q=>Q (σ.set i (some v)) H
theorem sr {i:Nat} {x:Str} (hN:X.N.Nodup) (hi:X.N[i]?=some x) (hx:FQ X.env.scope x) (hf:X.fn x=true\/X.env.scope.names.lookup x=some .local:=by first | exact .inl rfl | exact .inr rfl | assumption):PG X (.Name x pos) (nY i):=by
 intro K2 s σ H v u Q I r h;exact wpAny_assign_Name (mh I hN hi hx r (λs' I'=>⟨_,H,I',h⟩) hf)
def HZ:zB:=λvs σ H Q=>vs=[]/\Q σ H
def Gg (t:TG) (u:zB):zB:=λvs σ H Q=>∃ v r,vs=v::r/\t v σ H fun σ' H'=>u r σ' H' Q
theorem Cw:zg X [] HZ:=by
 intro K2 s σ H vs us Q I r h;obtain⟨e,h⟩:=h;subst e;cases r;exact assignInOrder_nil ⟨σ,H,I,h⟩
theorem y9 {e:KP} {es:List KP} {t:TG} {u:zB} (h1:PG X e t) (h2:zg X es u)
  (hs:(assignEach (e::es) X.env).map (·.2)=assign e X.env::(assignEach es X.env).map (·.2):=by rfl):zg X (e::es) (Gg t u):=by
 intro K2 s σ H vs us Q I r h;obtain⟨v,vr,e1,h⟩:=h;subst e1;cases r with
 | cons r rr=>
  rw [hs];refine assignInOrder_cons (bc (h1 K2 s σ H _ _ _ I r h) λ_ s1 z9=>?_)
  obtain⟨σ1,H1,I1,q1⟩:=z9;exact h2 K2 s1 σ1 H1 _ _ Q I1 rr q1
def II (K:PySem.W.Frag) (n:Nat) (t:zB):TG:=λv σ H Q=>∃ a xs,v=.ref a/\gZ K H a xs/\xs.length=n/\t xs σ H Q
theorem Dh {es:List KP} {k:Nat} {t:zB} {n:Nat} (hc:X.calm=true) (h:zg X es t)
  (hn:(assignEach es X.env).length=n:=by rfl) (hst:(assignEach es X.env).findIdx? (·.1)=none:=by rfl):PG X (.Tuple es k pos) (II X.K n t):=by
 intro K2 s σ H v u Q I r hw;obtain⟨a,xs,e1,hq,hl,hw⟩:=hw;subst e1;cases r;obtain⟨its,rv,ht,hz⟩:=I.tuple hq;refine assign_Tuple_tuple (I.ok.hd hc) ht (by simp [hn,<- hl,rv.length]) hst λh' hx=>?_
 have I1:aE X K2 σ H {s with heap:=h'}:=I.kept (t':=s.toks) λb o e=>hx b o (J3 (JW e)) e
 exact h K2 _ σ H xs _ Q I1 (by simpa using rv) hw
def IQ (to ti:TE) (t:B8):TG:=λv σ H Q=>to σ H λo H1=>ti σ H1 λi H2=>t o i v H2 λH3=>Q σ H3
theorem zt {o i:KP} {to ti:TE} {t:B8} (ho:PE X o to) (hi:PE X i ti) (hs:EV X t)
  (ha:∀ v,assign (.Subscript o i pos) X.env v=(do
   let ov <- holding [v] (eval o X.env)
   let iv <- holding [v,ov] (eval i X.env)
   standAt pos
   holding [v,ov,iv] (setItem ov iv v)
   release [v,ov,iv] []):=by intro _; rfl):PG X (.Subscript o i pos) (IQ to ti t):=by
 intro K2 s σ H v u Q I r h;rw [ha];refine gt (Kf (bc (ho K2 s σ H _ I h) λov s1 z9=>?_))
 obtain⟨x,H1,I1,r1,q1⟩:=z9;refine gt (Kf (bc (hi K2 s1 σ H1 _ I1 q1) λiv s2 z9=>?_))
 obtain⟨y,H2,I2,r2,q2⟩:=z9;refine gt (wpAny_standAt (gt (Kf (bc (hs K2 s2 σ H2 x y v ov iv u _ I2 r1 r2 r q2) λ_ s3 z9=>?_))))
 obtain⟨H3,I3,q3⟩:=z9;exact wpAny_release ⟨σ,H3,I3,q3⟩
def yO (te:TE) (g:TG):TS:=λD σ H=>te σ H λx H1=>g x σ H1 D.nx
theorem E1 {tg e:KP} {te:TE} {g:TG} (he:PE X e te) (hg:PG X tg g) (hs:swapsWithSole [tg] e pos.line X.env=pure false:=by rfl) (hw:swappedStores [tg] e X.env=pure none:=by rfl)
  (h1:(assignEach [tg] X.env).map (·.2)=[assign tg X.env]:=by rfl):PS X (.Assign [tg] e pos) (yO te g):=by
 intro K2 s σ H D I h;refine wpAny_Assign_stores (bc (he K2 s σ H _ I h) λv s1 ⟨x,H1,I1,r1,q1⟩=>?_) hs hw
 rw [h1];exact bc (hg K2 s1 σ H1 x v _ I1 r1 q1) λ_ s2 q=>q
theorem Dw {i:Nat} {x:Str} {e:KP} {te:TE} {pos':Pos} (hN:X.N.Nodup) (hi:X.N[i]?=some x) (hx:FQ X.env.scope x) (he:PE X e te) (hs:swapsWith e (some (.Name x pos')) pos.line X.env=pure false:=by rfl) (hf:X.fn x=true\/X.env.scope.names.lookup x=some .local:=by first | exact .inl rfl | exact .inr rfl | assumption):
  PS X (.Assign [.Name x pos'] e pos) (yO te (nY i)):=by
 intro K2 s σ H D I h;refine wpAny_Assign_Name (bc (he K2 s σ H _ I h) λv s1 ⟨y,H1,I1,r1,q1⟩=>?_) hs
 exact mh I1 hN hi hx r1 (λs2 I2=>⟨_,H1,I2,q1⟩) hf
def IZ (i j:Nat) (ta:TA):TS:=λD σ H=>ta σ H λvs H1=>∃ v w,vs=[v,w]/\D.nx ((σ.set i (some v)).set j (some w)) H1
theorem Fw {i j:Nat} {x y:Str} {a b:KP} {ta:TA} {px py pt:Pos} {kt k2 pt2} (hc:X.calm=true) (hN:X.N.Nodup) (hi:X.N[i]?=some x) (hj:X.N[j]?=some y) (hij:i≠j)
  (hx:X.env.scope.names.lookup x=some .local) (hy:X.env.scope.names.lookup y=some .local) (ha:PA X [a,b] ta)
  (hw:swappedStores [.Tuple [.Name x px,.Name y py] kt pt] (.Tuple [a,b] k2 pt2) X.env=pure (some [x,y]))
  (hs:swapsWithSole [.Tuple [.Name x px,.Name y py] kt pt] (.Tuple [a,b] k2 pt2) pos.line X.env=pure false:=by rfl):
  PS X (.Assign [.Tuple [.Name x px,.Name y py] kt pt] (.Tuple [a,b] k2 pt2) pos) (IZ i j ta):=by
 intro K2 s σ H D I h;rw [exec_Assign_arm];refine gt (wpAny_standAt ?_);rw [hs];refine gt (JU ?_);rw [if_neg (by decide)]
 refine gt (Tuple_ (bc (ha _ K2 s σ H _ I h) λus s1 z9=>?_))
 obtain⟨vs,H1,I1,r1,q1⟩:=z9;obtain⟨v,w,e1,q1⟩:=q1;subst e1;obtain⟨u1,u2,rfl,rv,rw'⟩:∃ u1 u2,us=[u1,u2]/\aW v u1/\aW w u2:=by
  cases r1 with
  | cons p q=>
   cases q with
   | cons p' q'=>
    cases q';exact⟨_,_,rfl,p,p'⟩
 refine Kh ?_ (by show 2<=sizeLine; decide)
 have I2:aE X K2 σ H1 {s1 with heap:=s1.heap.push {cls:=.type "tuple",data:=.seq [u1,u2].toArray}}:=I1.kept (t':=s1.toks) λb o e=>pp _ e
 rw [hw];refine gt (JU ?_)
 show wpAny (model X.prog X.w) X.A (do rule "assign.swapped-stores"; let items <- unpackItems (.ref s1.heap.objs.size) 2 none; assignInOrder [λv=>bindName X.env y v,λv=>bindName X.env x v] items.reverse; pure Flow.next) _ _ _
 refine gt (wpAny_rule (gt (unpackItems_tuple (items:=#[u1,u2]) (I.ok.hd hc) (IsTup.new s1.heap _) λh' hx'=>?_)))
 have I3:=I2.kept (h':=h') (t':=s1.toks) λb o e=>hx' b o (J3 (JW e)) e
 show wpAny _ _ (assignInOrder [λv=>bindName X.env y v,λv=>bindName X.env x v] [u2,u1] >>= λ_=>pure Flow.next) _ _ _
 refine gt (assignInOrder_cons (wpAny_bindName (mh I3 hN hj (.inl hy) rw' (λs2 I4=>?_) (.inr hy))))
 refine assignInOrder_cons (wpAny_bindName (mh I4 hN hi (.inl hx) rv (λs3 I5=>assignInOrder_nil (JU ?_)) (.inr hx)))
 rw [List.set_comm _ _ (Ne.symm hij)] at I5;exact⟨_,H1,I5,q1⟩
def Ey (c:TT) (tb:TS):TS:=λD σ H=>∃ W:Nat->St->Hp->Prop,(∃ m,W m σ H)/\∀ m σ H,W m σ H->
 c σ H λb H1=>if b=true then ∃ N:St->Hp->Prop,(∀ σ' H',N σ' H'->∃ m',m' < m/\W m' σ' H')/\tb {D with nx:=N,ct:=N,bk:=D.nx} σ H1 else D.nx σ H1
theorem A1 {c:KP} {body:List KU} {tc:TT} {tb:TS} (hp:PassesOwn (model X.prog X.w) X.A X.env X.xe) (hc:PT X c tc) (hb:rC X body tb):PS X (.While c body [] pos) (Ey tc tb):=by
 intro K2 s σ H D I h;obtain⟨W,⟨m0,w0⟩,turn⟩:=h;refine wpAny_While (codeAny_whileLoop (λn s'=>∃ σ' H',aE X K2 σ' H' s'/\W n σ' H') ?_ m0 ⟨σ,H,I,w0⟩)
 rintro n s1 ⟨σ1,H1,I1,w1⟩;refine wpAny_passesOwn hp (bc (hc K2 s1 σ1 H1 _ I1 (turn n σ1 H1 w1)) λb s2 z9=>?_)
 obtain⟨H2,I2,q2⟩:=z9;cases b with
 | true=>
  obtain⟨N,hN,q2⟩:=q2;rw [if_pos rfl];refine wpAny_passesOwn hp (bc (hb K2 s2 σ1 H2 _ I2 q2) λf s3 q3=>?_)
  cases f with
  | next=>
   obtain⟨σ3,H3,I3,n3⟩:=q3;obtain⟨m',hm,w3⟩:=hN σ3 H3 n3;exact⟨m',hm,σ3,H3,I3,w3⟩
  | cont=>
   obtain⟨σ3,H3,I3,n3⟩:=q3;obtain⟨m',hm,w3⟩:=hN σ3 H3 n3;exact⟨m',hm,σ3,H3,I3,w3⟩
  | brk=>exact q3
  | ret v=>exact q3
 | false=>
  rw [if_neg J0];exact wpAny_execs_nil ⟨σ1,H2,I2,q2⟩
end
structure It where
 go:Nat->Hp->Prop
 yld:Nat->Hp->V->Hp->Prop
 stop:Nat->Hp->Prop
def nj (X:Cx) (K2:List (KN×K1)) (H:Hp) (b:KN):Prop:=
 H b=none/\b≠X.env.locals/\b∉X.fs/\(b∈X.ex\/X.s₀.heap.objs.size<=b)/\(∀ x c,X.env.cells.lookup x=some c->c≠b)/\∀ p∈X.pn++K2,p.1≠b
theorem aE.fpOk {X:Cx} {K2:List (KN×K1)} {σ:St} {H H':Hp} {s:KL} {b:KN} (I:aE X K2 σ H s) (hb:s.heap.objs.size<=b) (hn:H' b=none):nj X K2 H' b:=by
 refine⟨hn,Nat.ne_of_gt (J6 I.lt hb),I.nofs hb,.inr (Kn I.sz hb),λx c e z=>?_,λp hp z=>?_⟩
 ·obtain⟨v,q⟩:=I.cell x c e;exact absurd (J6 q.lt (by rw [z]; exact hb)) (KA _)
 ·exact absurd (J6 (JW (I.pin p hp).1) (by rw [z]; exact hb)) (KA _)
structure qo (P:KQ) (w:KS) (K:PySem.W.Frag) (tg:KP) (J:It) (fp:List KN) (it:KN) (tn:Nat->KT->Prop):Prop where
 mem:it∈fp
 obj:∀ i h,tn i h->∀ b∈fp,∃ o,h.get? b=some o/\∀ v,o.data≠.cell v
 keep:∀ i h h',tn i h->(∀ b∈fp,∀ o,h.get? b=some o->h'.get? b=some o)->tn i h'
 item:∀ (X:Cx),X.prog=P->X.w=w->X.K=K->X.calm=true->∀ (i:Nat) (K2:List (KN×K1)) (s:KL) (σ:St) (H:Hp) (E:KM->KL->Prop),aE X K2 σ H s->(∀ b∈fp,nj X K2 H b)->tn i s.heap->J.go i H->
  wpAny (model P w) X.A (pyNext (.ref it)) (λr s1=>∃ u,r=some u/\
   wpAny (model P w) X.A (letOwnedTupleGo tg (.ref it) u) (λ_ s2=>∃ x H',aE X K2 σ H' s2/\aW x u/\J.yld i H x H'/\tn (i+1) s2.heap/\∀ b∈fp,H' b=none) E s1) E s
 done:∀ (X:Cx),X.prog=P->X.w=w->X.K=K->X.calm=true->∀ (i:Nat) (K2:List (KN×K1)) (s:KL) (σ:St) (H:Hp) (E:KM->KL->Prop),aE X K2 σ H s->(∀ b∈fp,nj X K2 H b)->tn i s.heap->J.stop i H->
  wpAny (model P w) X.A (pyNext (.ref it)) (λr s1=>r=none/\aE X K2 σ H s1) E s
 self:∀ (A:KR) (i:Nat) (s:KL) (Q:KM->KL->Prop) (E:KM->KL->Prop),tn i s.heap->Q (.ref it) s->wpAny (model P w) A (pyIter (.ref it)) Q E s
abbrev TI:=St->Hp->(It->Hp->Prop)->Prop
def Ii (X:Cx) (K2:List (KN×K1)) (σ:St) (tg:KP) (R:It->Hp->Prop) (itv:KM) (s2:KL):Prop:=
 ∃ (it:KN) (fp:List KN) (tn:Nat->KT->Prop) (J:It) (H':Hp),itv=.ref it/\aE X K2 σ H' s2/\qo X.prog X.w X.K tg J fp it tn/\tn 0 s2.heap/\(∀ b∈fp,nj X K2 H' b)/\R J H'
def PI (X:Cx) (tg iter:KP) (wi:TI):Prop:=
 ∀ (K2:List (KN×K1)) (s:KL) (σ:St) (H:Hp) (R:It->Hp->Prop),aE X K2 σ H s->wi σ H R->
  wpAny (model X.prog X.w) X.A (eval iter X.env) (λv s1=>wpAny (model X.prog X.w) X.A (pyIter v) (Ii X K2 σ tg R) X.xe s1) X.xe s
theorem o8 {M:Model} {A:KR} {E:KM->KL->Prop} {s:KL} {tg:KP} {it:KN} {u:KM} {o:K1} {n:KZ} {vs:KW KM} {Q:Unit->KL->Prop} (ho:s.heap.get? it=some o) (hc:o.cls=.type n) (hd:o.data=.fields vs)
  (hn:["enumerate","zip","dict_itemiterator","dict_reverseitemiterator","odict_iterator","itertools.zip_longest","itertools.pairwise"].contains n=false) (hQ:Q () s):wpAny M A (letOwnedTupleGo tg (.ref it) u) Q E s:=by
 unfold letOwnedTupleGo;cases tg <;> first
  | exact JU hQ
  | (cases u <;> first
    | exact JU hQ
    | (refine gt (wpAny_load ho ?_)
       rw [hc,hd]
       show wpAny M A (if (["enumerate","zip","dict_itemiterator","dict_reverseitemiterator","odict_iterator","itertools.zip_longest","itertools.pairwise"].contains n && vs[0]? == some (rawInt _))=true then _ else _) Q E s
       rw [if_neg (by intro h; rw [hn,Bool.false_and] at h; cases h)]
       exact JU hQ))
def F0 (K:PySem.W.Frag) (a:KN):It:=
 ⟨λi H=>∃ xs x,eH K H a xs/\xs[i]?=some x,λi H x H'=>H'=H/\∀ xs,eH K H a xs->xs[i]?=some x,λi H=>∃ xs,eH K H a xs/\xs.length<=i⟩
def Ho (K:PySem.W.Frag) (a:KN):It:=
 ⟨λi H=>∃ xs x,gZ K H a xs/\xs[i]?=some x,λi H x H'=>H'=H/\∀ xs,gZ K H a xs->xs[i]?=some x,λi H=>∃ xs,gZ K H a xs/\xs.length<=i⟩
def HB (lo:Int) (n:Nat):It:=⟨λi _=>i < n,λi H x H'=>H'=H/\x=.int (lo+i),λi _=>n<=i⟩
theorem x5 {P:KQ} {w:KS} {K:PySem.W.Frag} {tg:KP} (a it:KN):qo P w K tg (F0 K a) [it] it (λi h=>h.IsListIter it a i) where
 mem:=by simp
 obj:=λi h st b hb=>by
  have e:b=it:=by simpa using hb
  subst e;obtain⟨o,e,c,d⟩:=st;exact⟨o,e,λv z=>by rw [d] at z; cases z⟩
 keep:=λi h h' st k=>st.at λo e=>k it (by simp) o e
 item:=by
  intro X hP hw hK hc i K2 s σ H E I hf st hg;subst hP hw hK;obtain⟨xs,x,hq,hx⟩:=hg;obtain⟨its,rv,p,hz⟩:=I.list hq;obtain⟨u,hu,ru⟩:=rv.get hx;obtain⟨f0,f1,f2,f3,f4,f5⟩:=hf it (by simp)
  refine wpAny_pyNext_list_item st p.isList (x:=u) (by simpa using hu) λh' st' sb=>?_
  have I1:aE X K2 σ H {s with heap:=h'}:=I.turned (t':=s.toks) (λb o hb e=>(sb.2 b hb).trans e) f0 f1 f3 f4 f5
  obtain⟨o,e,c,d⟩:=id st';exact⟨u,rfl,o8 (s:={s with heap:=h'}) e c d (by decide) ⟨x,H,I1,ru,⟨rfl,λys hy=>by rw [I.list_inj hy hq]; exact hx⟩,st',λb hb=>(hf b hb).1⟩⟩
 done:=by
  intro X hP hw hK hc i K2 s σ H E I hf st hg;subst hP hw hK;obtain⟨xs,hq,hx⟩:=hg;obtain⟨its,rv,p,hz⟩:=I.list hq;obtain⟨f0,f1,f2,f3,f4,f5⟩:=hf it (by simp)
  have hl:=rv.length;exact wpAny_pyNext_list_end (I.ok.hd hc) st p.isList (by simp; omega) λh' eb=>⟨rfl,I.turned (t':=s.toks) (λb o hb e=>eb b o hb e) f0 f1 f3 f4 f5⟩
 self:=λ_ _ _ _ _ st h=>wpAny_pyIter_listiter st h
theorem vB {P:KQ} {w:KS} {K:PySem.W.Frag} {tg:KP} (a it:KN):qo P w K tg (Ho K a) [it] it (λi h=>h.IsTupleIter it a i) where
 mem:=by simp
 obj:=λi h st b hb=>by
  have e:b=it:=by simpa using hb
  subst e;obtain⟨o,e,c,d⟩:=st;exact⟨o,e,λv z=>by rw [d] at z; cases z⟩
 keep:=λi h h' st k=>st.at λo e=>k it (by simp) o e
 item:=by
  intro X hP hw hK hc i K2 s σ H E I hf st hg;subst hP hw hK;obtain⟨xs,x,hq,hx⟩:=hg;obtain⟨its,rv,p,hz⟩:=I.tuple hq;obtain⟨u,hu,ru⟩:=rv.get hx;obtain⟨f0,f1,f2,f3,f4,f5⟩:=hf it (by simp)
  refine wpAny_pyNext_tuple_item st (show s.heap.IsTuple a its.toArray from p) (x:=u) (by simpa using hu) λh' st' sb=>?_
  have I1:aE X K2 σ H {s with heap:=h'}:=I.turned (t':=s.toks) (λb o hb e=>(sb.2 b hb).trans e) f0 f1 f3 f4 f5
  obtain⟨o,e,c,d⟩:=id st';exact⟨u,rfl,o8 (s:={s with heap:=h'}) e c d (by decide) ⟨x,H,I1,ru,⟨rfl,λys hy=>by rw [I.tuple_inj hy hq]; exact hx⟩,st',λb hb=>(hf b hb).1⟩⟩
 done:=by
  intro X hP hw hK hc i K2 s σ H E I hf st hg;subst hP hw hK;obtain⟨xs,hq,hx⟩:=hg;obtain⟨its,rv,p,hz⟩:=I.tuple hq;obtain⟨f0,f1,f2,f3,f4,f5⟩:=hf it (by simp)
  have hl:=rv.length;exact wpAny_pyNext_tuple_end (I.ok.hd hc) st (show s.heap.IsTuple a its.toArray from p) (by simp; omega) λh' eb=>⟨rfl,I.turned (t':=s.toks) (λb o hb e=>eb b o hb e) f0 f1 f3 f4 f5⟩
 self:=λ_ _ _ _ _ st h=>wpAny_pyIter_tupleiter st h
theorem wg {P:KQ} {w:KS} {K:PySem.W.Frag} {tg:KP} (it:KN) (lo:Int) (n:Nat):qo P w K tg (HB lo n) [it] it (λi h=>IsRangeIter h it (lo+(i:Nat)*1) ((n:Int) - (i:Nat)) 1) where
 mem:=by simp
 obj:=λi h st b hb=>by
  have e:b=it:=by simpa using hb
  subst e;exact⟨_,st,λv z=>by
   have z':Data.fields _=Data.cell v:=z;cases z'⟩
 keep:=λi h h' st k=>k it (by simp) _ st
 item:=by
  intro X hP hw hK hc i K2 s σ H E I hf st hg;subst hP hw hK;obtain⟨f0,f1,f2,f3,f4,f5⟩:=hf it (by simp)
  have W:=Walks.range (prog:=X.prog) (w:=X.w) (I.ok.hd hc) it lo 1 n;refine W.item i s _ _ hg st λv h' tk hv st' kk=>?_
  obtain⟨t,rfl⟩:=hv;have I1:aE X K2 σ H {s with heap:=h',toks:=tk}:=I.turned (λb o hb e=>kk b o (by simpa using hb) e) f0 f1 f3 f4 f5
  refine⟨_,rfl,o8 (s:={s with heap:=h',toks:=tk}) (n:="range_iterator") st' rfl rfl (by decide) ⟨.int (lo+i),H,I1,⟨t,?_⟩,⟨rfl,rfl⟩,st',λb hb=>(hf b hb).1⟩⟩
  rw [Int.mul_one]
 done:=by
  intro X hP hw hK hc i K2 s σ H E I hf st hg;subst hP hw hK;obtain⟨f0,f1,f2,f3,f4,f5⟩:=hf it (by simp)
  exact wpAny_pyNext_range_end (I.ok.hd hc) st (by have:n<=i:=hg; omega) λh' eb=>⟨rfl,I.turned (t':=s.toks) (λb o hb e=>eb b o hb e) f0 f1 f3 f4 f5⟩
 self:=λ_ _ _ _ _ st h=>wpAny_pyIter_rangeiter st h
section
variable {X:Cx} {tg:KP}
theorem zC {K2:List (KN×K1)} {σ:St} {H:Hp} {s:KL} {R:It->Hp->Prop} {E:KM->KL->Prop} {lo hi:Int} {t u v:Tok} {tk:Nat} (I:aE X K2 σ H s) (h1:-(2 ^ 62)<=lo) (h2:lo < 2 ^ 62) (h3:-(2 ^ 62)<=hi) (h4:hi < 2 ^ 62)
  (q:R (HB lo (hi - lo).toNat) H):wpAny (model X.prog X.w) X.A (pyIter (.ref s.heap.objs.size)) (Ii X K2 σ tg R) E {s with heap:=s.heap.push {cls:=.type "range",data:=.fields #[.int lo t,.int hi u,.int 1 v]},toks:=tk}:=by
 refine wpAny_pyIter_range (IsRange.new ..) (small_one h1 h2 h3 h4) ?_;have I1:aE X K2 σ H {s with heap:=s.heap.push {cls:=.type "range",data:=.fields #[.int lo t,.int hi u,.int 1 v]},toks:=tk}:=I.kept λb o e=>pp _ e
 refine⟨(s.heap.push {cls:=.type "range",data:=.fields #[.int lo t,.int hi u,.int 1 v]}).objs.size,[(s.heap.push {cls:=.type "range",data:=.fields #[.int lo t,.int hi u,.int 1 v]}).objs.size],_,_,H,rfl,
  I1.kept (t':=tk) λb o e=>pp _ e,wg _ lo (hi - lo).toNat,?_,λb hb=>?_,q⟩
 ·have e1:lo+((0:Nat):Int)*1=lo:=by simp
  have e2:(((hi - lo).toNat:Nat):Int) - ((0:Nat):Int)=Builtin.Range.rangeSize lo hi 1:=by rw [rangeSize_one]; split <;> omega
  show IsRangeIter _ _ (lo+((0:Nat):Int)*1) ((((hi - lo).toNat:Nat):Int) - ((0:Nat):Int)) 1
  rw [e1,e2];exact JV _ rfl
 ·have e:b=(s.heap.push {cls:=.type "range",data:=.fields #[.int lo t,.int hi u,.int 1 v]}).objs.size:=by simpa using hb
  subst e;exact I1.fpOk (JX _) (I1.hok.fresh (JX _))
def Hv (ta:TA):TI:=fun σ H R=>ta σ H λvs H1=>∃ j:Int,vs=[.int j]/\-(2 ^ 62)<=j/\j < 2 ^ 62/\R (HB 0 j.toNat) H1
theorem qS {a:KP} {ta:TA} {p pos:Pos} (hg:Gl X "range") (hm:X.mg "range"=none) (ha:PA X [a] ta) (hs:starEach [a] X.env=[(false,eval a X.env)]:=by rfl):PI X tg (.Call (.Name "range" p) [a] [] pos) (Hv ta):=by
 intro K2 s σ H R I h;refine Call_ (iI I hg hm boot_range (PyProof.Rows.callWith_type1 (bc (ha pos K2 s σ H _ I h) λus s1 ⟨vs,H1,I1,r1,q1⟩=>?_) hs rfl))
 obtain⟨j,e,q1,q2,q⟩:=q1;subst e;cases r1 with
 | cons r rr=>
  cases rr;obtain⟨t,rfl⟩:=r;exact call_range_1 (zC I1 (by omega) (by omega) q1 q2 (by simpa using q))
def HW (wi:TI) (g:TG) (tb:TS):TS:=λD σ H=>wi σ H λJ H1=>∃ W:Nat->Nat->St->Hp->Prop,(∃ m,W 0 m σ H1)/\∀ i m σ H,W i m σ H->
 (J.stop i H/\D.nx σ H)\/(J.go i H/\∃ N:St->Hp->Prop,(∀ σ' H',N σ' H'->∃ m',m' < m/\W (i+1) m' σ' H')/\∀ x H',J.yld i H x H'->g x σ H' fun σ2 H2=>tb {D with nx:=N,ct:=N,bk:=D.nx} σ2 H2)
def mF (fp:List KN) (h:KT):List (KN×K1):=fp.filterMap λb=>(h.get? b).map λo=>(b,o)
theorem bX {fp:List KN} {h:KT} {b:KN} {o:K1} (hb:b∈fp) (e:h.get? b=some o):(b,o)∈mF fp h:=List.mem_filterMap.mpr ⟨b,hb,by rw [e]; rfl⟩
theorem xV {fp:List KN} {h:KT} {p:KN×K1} (hp:p∈mF fp h):p.1∈fp/\h.get? p.1=some p.2:=by
 obtain⟨b,hb,e⟩:=List.mem_filterMap.mp hp;cases q:h.get? b with
 | none=>rw [q] at e; cases e
 | some o=>
  rw [q] at e;have e':(b,o)=p:=Kj e;subst e';exact⟨hb,q⟩
theorem aE.pinned {K2:List (KN×K1)} {σ:St} {H:Hp} {s:KL} {fp:List KN} (I:aE X K2 σ H s) (hf:∀ b∈fp,nj X K2 H b) (ho:∀ b∈fp,∃ o,s.heap.get? b=some o/\∀ v,o.data≠.cell v):aE X (K2++mF fp s.heap) σ H s:=
 I.pins_of λp hp=>(List.mem_append.mp hp).elim (λz=>I.pin p (J7 _ z)) λz=>by
  obtain⟨hb,e⟩:=xV z;obtain⟨f0,f1,f2,_⟩:=hf p.1 hb;obtain⟨o,e',d⟩:=ho p.1 hb;rw [e] at e'; cases e'
  exact⟨e,f0,f1,f2,d⟩
theorem aE.unpinned {K2 pl:List (KN×K1)} {σ:St} {H:Hp} {s:KL} (I:aE X (K2++pl) σ H s):aE X K2 σ H s:=I.pins_of λp hp=>I.pin p (J7 _ (List.mem_append_left _ hp))
theorem pG {iter:KP} {body:List KU} {wi:TI} {g:TG} {tb:TS} {pos:Pos} (hp:PassesOwn (model X.prog X.w) X.A X.env X.xe) (hc:X.calm=true) (hi:PI X tg iter wi) (hg:PG X tg g) (hb:rC X body tb)
  (hs:∀ x,foldedSetIterable iter X.env x=pure x:=by intro _; rfl):PS X (.For tg iter body [] pos) (HW wi g tb):=by
 intro K2 s σ H D I h;refine wpAny_For (bc (hi K2 s σ H _ I h) λv s1 h1=>bc h1 λitv s2 h2=>?_) hs
 obtain⟨it,fp,tn,J,H2,e,I2,T,st2,f2,W,⟨m0,w0⟩,turn⟩:=h2;subst e;have stat:∀ {H':Hp},(∀ b∈fp,H' b=none)->∀ b∈fp,nj X K2 H' b:=λhn b hb=>⟨hn b hb,(f2 b hb).2⟩
 refine codeAny_forLoop_any (λn s'=>∃ i σ' H',aE X K2 σ' H' s'/\tn i s'.heap/\(∀ b∈fp,H' b=none)/\W i n σ' H') ?_ m0 ⟨0,σ,H2,I2,st2,λb hb=>(f2 b hb).1,w0⟩
 rintro n s3 ⟨i,σ3,H3,I3,st3,fr3,w3⟩;rcases turn i n σ3 H3 w3 with ⟨stop,qn⟩ | ⟨go,N,hN,step⟩
 ·refine wpAny_passesOwn hp (bc (T.done X rfl rfl rfl hc i K2 s3 σ3 H3 X.xe I3 (stat fr3) st3 stop) λr s4 z9=>?_)
  obtain⟨hr,I4⟩:=z9;subst hr;exact wpAny_execs_nil ⟨σ3,H3,I4,qn⟩
 ·refine wpAny_passesOwn hp (bc (T.item X rfl rfl rfl hc i K2 s3 σ3 H3 X.xe I3 (stat fr3) st3 go) λr s4 z9=>?_)
  obtain⟨u,hr,h4⟩:=z9;subst hr;refine wpAny_passesOwn hp (bc h4 λ_ s5 z9=>?_)
  obtain⟨x,H5,I5,r5,y5,st5,fr5⟩:=z9;have I5':=I5.pinned (stat fr5) (T.obj _ _ st5);refine wpAny_passesOwn hp (bc (hg _ s5 σ3 H5 x u _ I5' r5 (step x H5 y5)) λ_ s6 z9=>?_)
  obtain⟨σ6,H6,I6,q6⟩:=z9;refine wpAny_passesOwn hp (bc (hb _ s6 σ6 H6 _ I6 q6) λf s7 q7=>?_)
  have again:∀ {σ7:St} {H7:Hp},aE X (K2++mF fp s5.heap) σ7 H7 s7->N σ7 H7->∃ m,m < n/\∃ i σ' H',aE X K2 σ' H' s7/\tn i s7.heap/\(∀ b∈fp,H' b=none)/\W i m σ' H':=λ{σ7 H7} I7 n7=>by
   obtain⟨m',hm,w7⟩:=hN σ7 H7 n7;refine⟨m',hm,i+1,σ7,H7,I7.unpinned,T.keep _ _ _ st5 λb hb o e=>(I7.pin (b,o) (J7 _ (J7 _ (bX hb e)))).1,λb hb=>?_,w7⟩
   obtain⟨o,e,d⟩:=T.obj _ _ st5 b hb;exact(I7.pin (b,o) (J7 _ (J7 _ (bX hb e)))).2.1
  cases f with
  | next=>obtain⟨σ7,H7,I7,n7⟩:=q7; exact again I7 n7
  | cont=>obtain⟨σ7,H7,I7,n7⟩:=q7; exact again I7 n7
  | brk=>obtain⟨σ7,H7,I7,q7⟩:=q7; exact⟨σ7,H7,I7.unpinned,q7⟩
  | ret v=>obtain⟨x7,σ7,H7,I7,r7,q7⟩:=q7; exact⟨x7,σ7,H7,I7.unpinned,r7,q7⟩
end
abbrev R2:=V->V->Hp->VK->Prop
def cS (X:Cx) (f:KM->KM->Sem KM) (r:R2):Prop:=
 ∀ (K2:List (KN×K1)) (s:KL) (σ:St) (H:Hp) (x y:V) (v u:KM) (Q:VK),aE X K2 σ H s->aW x v->aW y u->r x y H Q->
  wpAny (model X.prog X.w) X.A (f v u) (EP X K2 σ Q) X.xe s
def G4 (X:Cx) (f:KM->Sem KM) (r:V->Hp->VK->Prop):Prop:=
 ∀ (K2:List (KN×K1)) (s:KL) (σ:St) (H:Hp) (x:V) (v:KM) (Q:VK),aE X K2 σ H s->aW x v->r x H Q->
  wpAny (model X.prog X.w) X.A (f v) (EP X K2 σ Q) X.xe s
def bP (X:Cx) (f:KM) (r:List V->Hp->VK->Prop):Prop:=
 ∀ (K2:List (KN×K1)) (s:KL) (σ:St) (H:Hp) (xs:List V) (us:List KM) (Q:VK),aE X K2 σ H s->aV xs us->r xs H Q->
  wpAny (model X.prog X.w) X.A (call f us) (EP X K2 σ Q) X.xe s
def Hy (r:R2) (ta tb:TE):TE:=fun σ H Q=>ta σ H λx H1=>tb σ H1 λy H2=>r x y H2 Q
def Jz (r:V->Hp->VK->Prop) (ta:TE):TE:=fun σ H Q=>ta σ H λx H1=>r x H1 Q
def rI (C:Int->Int->Prop) (g:Int->Int->V):R2:=λx y H Q=>∃ i j,x=.int i/\y=.int j/\C i j/\Q (g i j) H
def Cg (g:Int->Int->V):R2:=λx y H Q=>∃ i j,x=.int i/\y=.int j/\Q (g i j) H
def rU (g:Int->V):V->Hp->VK->Prop:=λx H Q=>∃ i,x=.int i/\Q (g i) H
section
variable {X:Cx} {a b c:KP} {ta tb tc:TE} {pos:Pos}
theorem Dg (ha:PE X a ta) (hb:PE X b tb) {K2:List (KN×K1)} {s:KL} {σ:St} {H:Hp} {R:V->V->Hp->Prop} (I:aE X K2 σ H s)
  (h:ta σ H λx H1=>tb σ H1 λy H2=>R x y H2) {Q:KM->KL->Prop} {f:KM->KM->Sem KM}
  (hf:∀ v u s2 x y H2,aE X K2 σ H2 s2->aW x v->aW y u->R x y H2->wpAny (model X.prog X.w) X.A (f v u) Q X.xe s2):
  wpAny (model X.prog X.w) X.A (eval a X.env) (λv s₁=>wpAny (model X.prog X.w) X.A (eval b X.env) (λu s₂=>wpAny (model X.prog X.w) X.A (f v u) Q X.xe s₂) X.xe s₁) X.xe s:=by
 refine bc (ha K2 s σ H _ I h) λv s1 z9=>?_
 obtain⟨x,H1,I1,r1,q1⟩:=z9;refine bc (hb K2 s1 σ H1 _ I1 q1) λu s2 z9=>?_
 obtain⟨y,H2,I2,r2,q2⟩:=z9;exact hf v u s2 x y H2 I2 r1 r2 q2
theorem GU {op:Operator} {r:R2} (ho:cS X (binaryOp op) r) (ha:PE X a ta) (hb:PE X b tb):PE X (.BinOp a op b pos) (Hy r ta tb):=by
 intro K2 s σ H Q I h;exact wpAny_BinOp (Dg ha hb I h λv u s2 x y H2 I2 rx ry q=>ho K2 s2 σ H2 x y v u Q I2 rx ry q)
theorem G7 {op:UnaryOp} {r:V->Hp->VK->Prop} (ho:G4 X (unaryOp op) r) (ha:PE X a ta):PE X (.UnaryOp op a pos) (Jz r ta):=by
 intro K2 s σ H Q I h;exact UnaryOp_ (bc (ha K2 s σ H _ I h) λv s1 z9=>by obtain⟨x,H1,I1,r1,q1⟩:=z9; exact ho K2 s1 σ H1 x v Q I1 r1 q1)
theorem FW {f:KM->KM->Sem KM} {C:Int->Int->Prop} {g:Int->Int->Int}
  (rule:∀ (i j:Int) (t u:Tok) (s:KL) (Q:KM->KL->Prop) (E:KM->KL->Prop),C i j->Q (.int (g i j) s.toks) {s with toks:=s.toks+1}->wpAny (model X.prog X.w) X.A (f (.int i t) (.int j u)) Q E s):
  cS X f (rI C λi j=>.int (g i j)):=by
 intro K2 s σ H x y v u Q I rx ry h;obtain⟨i,j,rfl,rfl,hc,q⟩:=h;obtain⟨t,rfl⟩:=rx;obtain⟨t',rfl⟩:=ry;exact rule i j t t' s _ _ hc ⟨.int (g i j),H,I.tok _,⟨_,rfl⟩,q⟩
theorem Gx {f:KM->KM->Sem KM} {g:Int->Int->Int}
  (rule:∀ (i j:Int) (t u:Tok) (s:KL) (Q:KM->KL->Prop) (E:KM->KL->Prop),Q (.int (g i j) s.toks) {s with toks:=s.toks+1}->wpAny (model X.prog X.w) X.A (f (.int i t) (.int j u)) Q E s):
  cS X f (Cg λi j=>.int (g i j)):=by
 intro K2 s σ H x y v u Q I rx ry h;obtain⟨i,j,rfl,rfl,q⟩:=h;obtain⟨t,rfl⟩:=rx;obtain⟨t',rfl⟩:=ry;exact rule i j t t' s _ _ ⟨.int (g i j),H,I.tok _,⟨_,rfl⟩,q⟩
theorem B2 {f:KM->KM->Sem KM} {g:Int->Int->KY}
  (rule:∀ (i j:Int) (t u:Tok) (s:KL) (Q:KM->KL->Prop) (E:KM->KL->Prop),Q (.bool (g i j)) s->wpAny (model X.prog X.w) X.A (f (.int i t) (.int j u)) Q E s):
  cS X f (Cg λi j=>.bl (g i j)):=by
 intro K2 s σ H x y v u Q I rx ry h;obtain⟨i,j,rfl,rfl,q⟩:=h;obtain⟨t,rfl⟩:=rx;obtain⟨t',rfl⟩:=ry;exact rule i j t t' s _ _ ⟨.bl (g i j),H,I,rfl,q⟩
def yf (i j:Int):Prop:=0<=j/\j<=1000000/\i.natAbs < 2 ^ 64
theorem Fv:cS X (binaryOp .Add) (Cg λi j=>.int (i+j)):=Gx λ_ _ _ _ _ _ _ q=>add_int q
theorem ED:cS X (binaryOp .Sub) (Cg λi j=>.int (i - j)):=Gx λ_ _ _ _ _ _ _ q=>sub_int q
theorem B6:cS X (binaryOp .Mod) (rI (λ_ j=>j≠0) λi j=>.int (i.fmod j)):=FW λ_ _ _ _ _ _ _ hc q=>mod_int' hc q
theorem DP:cS X (binaryOp .Pow) (rI yf λi j=>.int (i ^ j.toNat)):=FW λ_ _ _ _ _ _ _ hc q=>pow_int_small hc.1 hc.2.1 hc.2.2 q
theorem EZ:cS X (binaryOp .LShift) (rI yf λi j=>.int (i*2 ^ j.toNat)):=FW λ_ _ _ _ _ _ _ hc q=>lshift_int_small hc.1 hc.2.1 hc.2.2 q
theorem JJ {f:KM->Sem KM} {g:Int->Int}
  (rule:∀ (i:Int) (t:Tok) (s:KL) (Q:KM->KL->Prop) (E:KM->KL->Prop),Q (.int (g i) s.toks) {s with toks:=s.toks+1}->wpAny (model X.prog X.w) X.A (f (.int i t)) Q E s):
  G4 X f (rU λi=>.int (g i)):=by
 intro K2 s σ H x v Q I rx h;obtain⟨i,rfl,q⟩:=h;obtain⟨t,rfl⟩:=rx;exact rule i t s _ _ ⟨.int (g i),H,I.tok _,⟨_,rfl⟩,q⟩
theorem DX:G4 X (unaryOp .USub) (rU λi=>.int (-i)):=JJ λ_ _ _ _ _ q=>neg_int q
end
def Ed:V->V->KY
 | .non,.non=>true | .non,.int _=>true | .int _,.non=>true | .non,.bl _=>true | .bl _,.non=>true | .non,.str _=>true | .str _,.non=>true
 | .int _,.int _=>true | .bl _,.bl _=>true | .str _,.str _=>true | .byt _,.byt _=>true
 | .int _,.str _=>true | .str _,.int _=>true | .bl _,.str _=>true | .str _,.bl _=>true
 | _,_=>false
def Jx:R2:=λx y H Q=>Ed x y=true/\Q (.bl (decide (x=y))) H
def Ju:R2:=λx y H Q=>Ed x y=true/\Q (.bl (!decide (x=y))) H
theorem xj {i j:Int}:decide (V.int i=V.int j)=(i == j):=by
 rw [Bool.eq_iff_iff];simp
theorem yB {i j:KY}:decide (V.bl i=V.bl j)=(i == j):=by
 rw [Bool.eq_iff_iff];simp
theorem wH {i j:Str}:decide (V.str i=V.str j)=(i == j):=by
 rw [Bool.eq_iff_iff];simp
theorem xi {i j:KW UInt8}:decide (V.byt i=V.byt j)=(i.toList == j.toList):=by
 rw [Bool.eq_iff_iff];cases i;cases j;simp
section
variable {X:Cx} {a b c:KP} {ta tb tc:TE} {pos:Pos}
theorem a8 {K2:List (KN×K1)} {σ:St} {H:Hp} {s:KL} {Q:VK} {k k':KY} (I:aE X K2 σ H s) (q:Q (.bl k) H) (e:k=k'):EP X K2 σ Q (.bool k') s:=by
 subst e;exact⟨.bl k,H,I,rfl,q⟩
theorem Hu:cS X (compareOp .Eq) Jx:=by
 intro K2 s σ H x y v u Q I rx ry h;obtain⟨hs,q⟩:=h;cases x with
 | non=>
  cases rx;cases y with
  | non=>cases ry; exact PySem.EqNone.eq_none_none (a8 I q (by simp))
  | bl j=>cases ry; exact PySem.EqNone.eq_none_bool (a8 I q (by simp))
  | int j=>obtain⟨t',rfl⟩:=ry; exact PySem.EqNone.eq_none_int (a8 I q (by simp))
  | str j=>obtain⟨t',rfl⟩:=ry; exact PySem.EqNone.eq_none_str (a8 I q (by simp))
  | _=>exact absurd (show false=true from hs) J0
 | bl i=>
  cases rx;cases y with
  | non=>cases ry; exact PySem.EqNone.eq_bool_none (a8 I q (by simp))
  | bl j=>cases ry; exact eq_bool (a8 I q yB)
  | str j=>obtain⟨t',rfl⟩:=ry; exact PySem.EqMixed.eq_bool_str (a8 I q (by simp))
  | _=>exact absurd (show false=true from hs) J0
 | int i=>
  obtain⟨t,rfl⟩:=rx;cases y with
  | non=>cases ry; exact PySem.EqNone.eq_int_none (a8 I q (by simp))
  | int j=>obtain⟨t',rfl⟩:=ry; exact eq_int (a8 I q xj)
  | str j=>obtain⟨t',rfl⟩:=ry; exact PySem.EqMixed.eq_int_str (a8 I q (by simp))
  | _=>exact absurd (show false=true from hs) J0
 | str i=>
  obtain⟨t,rfl⟩:=rx;cases y with
  | non=>cases ry; exact PySem.EqNone.eq_str_none (a8 I q (by simp))
  | bl j=>cases ry; exact PySem.EqMixed.eq_str_bool (a8 I q (by simp))
  | int j=>obtain⟨t',rfl⟩:=ry; exact PySem.EqMixed.eq_str_int (a8 I q (by simp))
  | str j=>obtain⟨t',rfl⟩:=ry; exact eq_str (a8 I q wH)
  | _=>exact absurd (show false=true from hs) J0
 | byt i=>
  obtain⟨t,rfl⟩:=rx;cases y with
  | byt j=>obtain⟨t',rfl⟩:=ry; exact PySem.W.eq_bytes (a8 I q xi)
  | _=>exact absurd (show false=true from hs) J0
 | _=>cases y <;> exact absurd (show false=true from hs) J0
theorem F2:cS X (compareOp .NotEq) Ju:=by
 intro K2 s σ H x y v u Q I rx ry h;obtain⟨hs,q⟩:=h;cases x with
 | non=>
  cases rx;cases y with
  | non=>cases ry; exact PySem.EqNone.ne_none_none (a8 I q (by simp))
  | bl j=>cases ry; exact PySem.EqNone.ne_none_bool (a8 I q (by simp))
  | int j=>obtain⟨t',rfl⟩:=ry; exact PySem.EqNone.ne_none_int (a8 I q (by simp))
  | str j=>obtain⟨t',rfl⟩:=ry; exact PySem.EqNone.ne_none_str (a8 I q (by simp))
  | _=>exact absurd (show false=true from hs) J0
 | bl i=>
  cases rx;cases y with
  | non=>cases ry; exact PySem.EqNone.ne_bool_none (a8 I q (by simp))
  | bl j=>cases ry; exact ne_bool (a8 I q (congrArg not yB))
  | str j=>obtain⟨t',rfl⟩:=ry; exact PySem.EqMixed.ne_bool_str (a8 I q (by simp))
  | _=>exact absurd (show false=true from hs) J0
 | int i=>
  obtain⟨t,rfl⟩:=rx;cases y with
  | non=>cases ry; exact PySem.EqNone.ne_int_none (a8 I q (by simp))
  | int j=>obtain⟨t',rfl⟩:=ry; exact ne_int (a8 I q (congrArg not xj))
  | str j=>obtain⟨t',rfl⟩:=ry; exact PySem.EqMixed.ne_int_str (a8 I q (by simp))
  | _=>exact absurd (show false=true from hs) J0
 | str i=>
  obtain⟨t,rfl⟩:=rx;cases y with
  | non=>cases ry; exact PySem.EqNone.ne_str_none (a8 I q (by simp))
  | bl j=>cases ry; exact PySem.EqMixed.ne_str_bool (a8 I q (by simp))
  | int j=>obtain⟨t',rfl⟩:=ry; exact PySem.EqMixed.ne_str_int (a8 I q (by simp))
  | str j=>obtain⟨t',rfl⟩:=ry; exact ne_str (a8 I q (congrArg not wH))
  | _=>exact absurd (show false=true from hs) J0
 | byt i=>
  obtain⟨t,rfl⟩:=rx;cases y with
  | byt j=>obtain⟨t',rfl⟩:=ry; exact PySem.W.ne_bytes (a8 I q (congrArg not xi))
  | _=>exact absurd (show false=true from hs) J0
 | _=>cases y <;> exact absurd (show false=true from hs) J0
theorem HH:cS X (compareOp .Lt) (Cg λi j=>.bl (decide (i < j))):=B2 λ_ _ _ _ _ _ _ q=>lt_int q
theorem Hl:cS X (compareOp .LtE) (Cg λi j=>.bl (decide (i<=j))):=B2 λ_ _ _ _ _ _ _ q=>le_int q
theorem HJ:cS X (compareOp .Gt) (Cg λi j=>.bl (decide (j < i))):=B2 λ_ _ _ _ _ _ _ q=>gt_int q
theorem Gm:cS X (compareOp .GtE) (Cg λi j=>.bl (decide (j<=i))):=B2 λ_ _ _ _ _ _ _ q=>ge_int q
theorem DV:cS X (compareOp .Is) (λx y H Q=>y=.non/\Q (.bl (decide (x=.non))) H):=by
 intro K2 s σ H x y v u Q I rx ry h;obtain⟨rfl,q⟩:=h;cases ry;refine is_none_gen (a8 I q ?_);cases x <;> first
  | (cases rx; rfl)
  | (obtain ⟨t,rfl⟩:=rx; rfl)
theorem Bm:cS X (compareOp .IsNot) (λx y H Q=>y=.non/\Q (.bl (!decide (x=.non))) H):=by
 intro K2 s σ H x y v u Q I rx ry h;obtain⟨rfl,q⟩:=h;cases ry;refine isnot_none_gen (a8 I q ?_);cases x <;> first
  | (cases rx; rfl)
  | (obtain ⟨t,rfl⟩:=rx; rfl)
theorem ar (b:KP) {op:CmpOp} (h:op≠.In:=by decide) (h2:op≠.NotIn:=by decide):behindInMarks op b=false:=by
 have e1:(op == CmpOp.In)=false:=by cases op <;> first | rfl | exact absurd rfl h
 have e2:(op == CmpOp.NotIn)=false:=by cases op <;> first | rfl | exact absurd rfl h2
 cases b <;> simp [behindInMarks,e1,e2]
theorem CB {op:CmpOp} {r:R2} (ho:cS X (compareOp op) r) (ha:PE X a ta) (hb:PE X b tb) (hm:behindInMarks op b=false):PE X (.Compare a [op] [b] pos) (Hy r ta tb):=by
 intro K2 s σ H Q I h;exact wpAny_Compare1 (Dg ha hb I h λv u s2 x y H2 I2 rx ry q=>ho K2 s2 σ H2 x y v u Q I2 rx ry q) hm
def Af (t:TE):TT:=fun σ H Q=>t σ H λx H'=>∃ k,x=.bl k/\Q k H'
theorem BN {op:CmpOp} {r:R2} (ho:cS X (compareOp op) r) (ha:PE X a ta) (hb:PE X b tb) (hm:behindInMarks op b=false):PT X (.Compare a [op] [b] pos) (Af (Hy r ta tb)):=by
 intro K2 s σ H Q I h;refine wpAny_isTrue_Compare1 (bc (ha K2 s σ H _ I h) λv s1 ⟨x,H1,I1,r1,q1⟩=>bc (hb K2 s1 σ H1 _ I1 q1) λu s2 ⟨y,H2,I2,r2,q2⟩=>
  bc (ho K2 s2 σ H2 x y v u _ I2 r1 r2 q2) λc s3 ⟨z,H3,I3,r3,k,e,q3⟩=>?_) hm
 subst e;cases r3;exact wpAny_truthy_bool ⟨H3,I3,q3⟩
def vP (r r':R2) (ta tb tc:TE):TE:=fun σ H Q=>ta σ H λx H1=>tb σ H1 λy H2=>r x y H2 λz H3=>∃ k,z=.bl k/\
 (if k=true then tc σ H3 λw' H4=>r' y w' H4 Q else Q (.bl false) H3)
theorem zX {op op':CmpOp} {r r':R2} (ho:cS X (compareOp op) r) (ho':cS X (compareOp op') r') (ha:PE X a ta) (hb:PE X b tb) (hc:PE X c tc)
  (hm:lastMarks [op,op'] [b,c]=false:=by with_unfolding_all rfl):PE X (.Compare a [op,op'] [b,c] pos) (vP r r' ta tb tc):=by
 intro K2 s σ H Q I h;refine Compare_chain (bc (ha K2 s σ H _ I h) λv s1 ⟨x,H1,I1,r1,q1⟩=>chain_link (bc (hb K2 s1 σ H1 _ I1 q1) λu s2 ⟨y,H2,I2,r2,q2⟩=>
  bc (ho K2 s2 σ H2 x y v u _ I2 r1 r2 q2) λd s3 ⟨z,H3,I3,r3,k,e,q3⟩=>?_)) hm
 subst e;cases r3;refine wpAny_truthy_bool ?_;cases k with
 | false=>exact ite_ff ⟨.bl false,H3,I3,rfl,q3⟩
 | true=>exact ite_tt (chain_last (bc (hc K2 s3 σ H3 _ I3 q3) λw' s4 ⟨z',H4,I4,r4,q4⟩=>ho' K2 s4 σ H4 y z' u w' Q I4 r2 r4 q4))
theorem A5 {op op':CmpOp} {r r':R2} (ho:cS X (compareOp op) r) (ho':cS X (compareOp op') r') (ha:PE X a ta) (hb:PE X b tb) (hc:PE X c tc)
  (hm:lastMarks [op,op'] [b,c]=false:=by with_unfolding_all rfl):PT X (.Compare a [op,op'] [b,c] pos) (Af (vP r r' ta tb tc)):=by
 intro K2 s σ H Q I h;refine isTrue_chain (bc (ha K2 s σ H _ I h) λv s1 ⟨x,H1,I1,r1,q1⟩=>test_link (bc (hb K2 s1 σ H1 _ I1 q1) λu s2 ⟨y,H2,I2,r2,q2⟩=>
  bc (ho K2 s2 σ H2 x y v u _ I2 r1 r2 q2) λd s3 ⟨z,H3,I3,r3,k,e,q3⟩=>?_)) hm
 subst e;cases r3;refine wpAny_truthy_bool ?_;cases k with
 | false=>
  obtain⟨k',e',q'⟩:=q3;cases e';exact ite_ff ⟨H3,I3,q'⟩
 | true=>
  refine ite_tt (test_last (bc (hc K2 s3 σ H3 _ I3 q3) λw' s4 ⟨z',H4,I4,r4,q4⟩=>bc (ho' K2 s4 σ H4 y z' u w' _ I4 r2 r4 q4) λd' s5 ⟨z2,H5,I5,r5,k2,e2,q5⟩=>?_))
  subst e2;cases r5;exact wpAny_truthy_bool ⟨H5,I5,q5⟩
theorem nF:(sizeLine:Nat) < 2 ^ 63:=by rw [sizeLine_eq]; decide
theorem vR:cS X (binaryOp .Add) (λx y H Q=>∃ i j,x=.str i/\y=.str j/\i.length+j.length<=sizeLine/\Q (.str (i++j)) H):=by
 intro K2 s σ H x y v u Q I rx ry h;obtain⟨i,j,rfl,rfl,hz,q⟩:=h;obtain⟨t,rfl⟩:=rx;obtain⟨t',rfl⟩:=ry;exact add_str (λt' tk=>⟨.str (i++j),H,I.tok _,⟨_,rfl⟩,q⟩) hz
theorem pB {x:V} {us:List KM} (r:aV [x] us):∃ u,us=[u]/\aW x u:=by
 cases r with
 | cons r1 r2=>cases r2; exact⟨_,rfl,r1⟩
theorem pL {x y:V} {us:List KM} (r:aV [x,y] us):∃ u w',us=[u,w']/\aW x u/\aW y w':=by
 cases r with
 | cons r1 r2=>
  cases r2 with
  | cons r3 r4=>cases r4; exact⟨_,_,rfl,r1,r3⟩
theorem zh:bP X (.builtin "abs") (λxs H Q=>∃ i,xs=[.int i]/\Q (.int (if i < 0 then -i else i)) H):=by
 intro K2 s σ H xs us Q I r h;obtain⟨i,rfl,q⟩:=h;obtain⟨u,rfl,t,rfl⟩:=pB r;exact call_abs_int λu tk=>⟨.int (if i < 0 then -i else i),H,I.tok _,⟨_,rfl⟩,q⟩
theorem xQ (hc:X.calm=true):bP X (.builtin "max") (λxs H Q=>∃ i j,xs=[.int i,.int j]/\Q (.int (if j > i then j else i)) H):=by
 intro K2 s σ H xs us Q I r h;obtain⟨i,j,rfl,q⟩:=h;obtain⟨u,w',rfl,⟨t,rfl⟩,⟨t',rfl⟩⟩:=pL r;refine max_two_ints (I.ok.hd hc) λh' tk k=>⟨_,H,I.kept k,?_,q⟩
 by_cases hj:j > i
 ·rw [if_pos hj,if_pos hj]; exact⟨_,rfl⟩
 ·rw [if_neg hj,if_neg hj]; exact⟨_,rfl⟩
theorem yc (hc:X.calm=true):bP X (.builtin "min") (λxs H Q=>∃ i j,xs=[.int i,.int j]/\Q (.int (if j < i then j else i)) H):=by
 intro K2 s σ H xs us Q I r h;obtain⟨i,j,rfl,q⟩:=h;obtain⟨u,w',rfl,⟨t,rfl⟩,⟨t',rfl⟩⟩:=pL r;refine min_two_ints (I.ok.hd hc) λh' tk k=>⟨_,H,I.kept k,?_,q⟩
 by_cases hj:j < i
 ·rw [if_pos hj,if_pos hj]; exact⟨_,rfl⟩
 ·rw [if_neg hj,if_neg hj]; exact⟨_,rfl⟩
theorem qP:bP X (.type "int") (λxs H Q=>(∃ i,xs=[.int i]/\Q (.int i) H)\/∃ k,xs=[.bl k]/\Q (.int (if k then 1 else 0)) H):=by
 intro K2 s σ H xs us Q I r h;rcases h with ⟨i,rfl,q⟩ | ⟨k,rfl,q⟩
 ·obtain⟨u,rfl,t,rfl⟩:=pB r;exact call_int_int ⟨.int i,H,I,⟨_,rfl⟩,q⟩
 ·obtain⟨u,rfl,r1⟩:=pB r;cases r1;exact call_int_bool ⟨.int (if k then 1 else 0),H,I.tok _,⟨_,rfl⟩,q⟩
theorem sF:bP X (.type "str") (λxs H Q=>∃ i,xs=[.int i]/\i.natAbs.log2 < 1920/\Q (.str (toString i)) H):=by
 intro K2 s σ H xs us Q I r h;obtain⟨i,rfl,hz,q⟩:=h;obtain⟨u,rfl,t,rfl⟩:=pB r;exact PySem.P.str_of_int hz ⟨.str _,H,I.tok _,⟨_,rfl⟩,q⟩
end
structure cv (k:Nat) (A:KR):Prop where
 hd:A.handled=none
 dp:A.depth+3*k+5 < recursionLimit
 un:A.units+16*k+200 < cLine
theorem cv.mono {j k:Nat} {A:KR} (r:cv k A) (h:j<=k):cv j A:=⟨r.hd,by have:=r.dp; omega,by have:=r.un; omega⟩
theorem cv.deeper {k:Nat} {A:KR} (r:cv (k+1) A) (env:Env):cv k (A.deeper env):=
 ⟨r.hd,by have:=r.dp; show A.depth+1+3*k+5 < _; omega,by have:=r.un; show A.units+3+16*k+200 < _; omega⟩
theorem cv.depth {k:Nat} {A:KR} (r:cv k A):A.depth < recursionLimit:=by have:=r.dp; omega
theorem cv.units {k:Nat} {A:KR} (r:cv k A):A.units+64 < cLine:=by have:=r.un; omega
def Ix:TA:=λ_ H Q=>Q [] H
def GG (ta:TE) (tr:TA):TA:=fun σ H Q=>ta σ H λx H1=>tr σ H1 λxs H2=>Q (x::xs) H2
section
variable {X:Cx} {e:KP} {es:List KP} {te:TE} {t:TA} {pos:Pos}
theorem Am:PA X [] Ix:=λ_ _ _ _ H Q I h=>Calls.spliced_nil ⟨[],H,I,.nil,h⟩
theorem xu (ha:PE X e te) (hr:PA X es t) (hs:starEach (e::es) X.env=(false,eval e X.env)::starEach es X.env:=by rfl):PA X (e::es) (GG te t):=by
 intro pos K2 s σ H Q I h;rw [hs]
 show wpAny _ _ (spliced ((false,eval e X.env)::backTo pos (starEach es X.env))) _ _ s
 refine Calls.spliced_cons (bc (ha K2 s σ H _ I h) λu s1 z9=>?_)
 obtain⟨x,H1,I1,r1,q1⟩:=z9;exact bc (hr pos K2 s1 σ H1 _ I1 q1) λus s2 z9=>by obtain⟨xs,H2,I2,r2,q2⟩:=z9; exact⟨x::xs,H2,I2,.cons r1 r2,q2⟩
def Im (t:TA):TE:=fun σ H Q=>t σ H λxs H1=>xs.length<=sizeLine/\∀ p,H1 p=none->Q (.ref p) (br H1 p (.tup xs))
def Ia (t:TA):TE:=fun σ H Q=>t σ H λxs H1=>xs.length<=sizeLine/\∀ p,H1 p=none->Q (.ref p) (br H1 p (.lst xs))
theorem EC {x1} (h:PA X es t):PE X (.Tuple es x1 pos) (Im t):=by
 intro K2 s σ H Q I hq;refine wpAny_Tuple_spliced (bc (h pos K2 s σ H _ I hq) λus s1 ⟨xs,H1,I1,r,z,q⟩=>⟨by rw [<- r.length]; exact z,?_⟩)
 have hf:H1 s1.heap.objs.size=none:=I1.hok.fresh (JX _);refine⟨.ref s1.heap.objs.size,br H1 s1.heap.objs.size (.tup xs),I1.laid (t':=s1.toks) (λb u e=>pp _ e) (JX _) ?_,rfl,q _ hf⟩
 exact⟨z,us,r,⟨_,JV _ rfl,rfl,_,rfl⟩⟩
theorem Fz (h:PA X es t):PE X (.List es pos) (Ia t):=by
 intro K2 s σ H Q I hq;refine wpAny_List_spliced (bc (h pos K2 s σ H _ I hq) λus s1 ⟨xs,H1,I1,r,z,q⟩=>⟨by rw [<- r.length]; exact z,?_⟩)
 have hf:H1 s1.heap.objs.size=none:=I1.hok.fresh (JX _);refine⟨.ref s1.heap.objs.size,br H1 s1.heap.objs.size (.lst xs),I1.laid (t':=s1.toks) (λb u e=>pp _ e) (JX _) ?_,rfl,q _ hf⟩
 exact⟨z,us,0,r,JV _ rfl⟩
end
abbrev Sp:=List V->Hp->VK->XK->Prop
abbrev Bg:=List Env->Hp->KL->XK->KM->KL->Prop
structure BF (P:KQ) (w:KS) (K:PySem.W.Frag) (mg:Str->KO KM) (base:KT) (A:KR) (outer:List Env) (s:KL) (H:Hp):Prop where
 frames:A.frames=some outer
 mod:Mod K mg base
 bs:∀ b o,base.get? b=some o->s.heap.get? b=some o/\H b=none
 bsz:base.objs.size<=s.heap.objs.size
 funs:s.heap.FunFrames base outer
 frf:∀ b∈tu outer,H b=none
 hok:nZ P w H s.heap
 bare:AllBare s.gens
def CE (outer:List Env) (P:KQ) (w:KS) (H:Hp) (s:KL) (Q:VK) (u:KM) (s':KL):Prop:=
 ∃ v H',s'.os=s.os/\AllBare s'.gens/\Un (tu outer) [] H H' s.heap s'.heap/\nZ P w H' s'.heap/\aW v u/\Q v H'
def CR (CX:Bg) (outer:List Env) (P:KQ) (w:KS) (H:Hp) (s:KL) (Q:VK) (E:XK) (r:Result) (s':KL):Prop:=
 match r with
 | .ok (.ret u)=>CE outer P w H s Q u s'
 | .ok _=>False
 | .error e=>CX outer H s E e s'
structure aQ (P:KQ) (w:KS) (K:PySem.W.Frag) (mg:Str->KO KM) (base:KT) (CX:Bg) (k:Nat) (f:KN) (fd:FuncData) (ps:List Str) (sp:Sp):Prop where
 len:∀ vs H Q E,sp vs H Q E->vs.length=ps.length
 run:∀ (A:KR) (outer:List Env) (s:KL) (H:Hp) (args:Args) (us:List KM) (vs:List V) (Q:VK) (E:XK),cv k A->BF P w K mg base A outer s H->BindsTo s fd args (ps.zip us)->aV vs us->sp vs H Q E->
  codeAny (model P w) A (.call (.ref f) args) (CR CX outer P w H s Q E) s
section
variable {X:Cx} {K2:List (KN×K1)} {σ:St} {H:Hp} {s s':KL}
theorem aE.env0 (I:aE X K2 σ H s):BF X.prog X.w X.K X.mg X.base X.A X.stack s H:=
 ⟨I.ok.frames,I.ok.mod,I.bs,Kn I.ok.bsz I.sz,I.stack,I.stkFree,I.hok,I.bare⟩
theorem aE.after {Q:VK} {u:KM} (I:aE X K2 σ H s) (h:CE X.stack X.prog X.w H s Q u s'):EP X K2 σ Q u s':=by
 obtain⟨v,H',os,bare,un,hok,r,q⟩:=h;obtain⟨hh,g,d,t,os'⟩:=s';obtain rfl:os'=s.os:=os;exact⟨v,H',I.call (h':=hh) (g':=g) (d':=d) (t':=t) (ch:=[]) un hok bare (λb z=>absurd z (by simp)),r,q⟩
end
def G3 (sp:Sp) (dvs:List V) (E:XK) (t:TA):TE:=fun σ H Q=>t σ H λvs H1=>sp (vs++dvs) H1 Q E
def pC (K:PySem.W.Frag) (fd:FuncData) (ps:List Str) (ds:List KM):Prop:=
 ∀ (s:KL) (us:List KM),K.In s.heap->(us++ds).length=ps.length->BindsTo s fd ⟨us,[]⟩ (ps.zip (us++ds))
theorem pC.all {K:PySem.W.Frag} {fd:FuncData} {ps:List Str} (h:∀ us:List KM,us.length=ps.length->bindArgs fd ⟨us,[]⟩=pure (ps.zip us)):pC K fd ps []:=λs us _ hl=>by
 rw [Ke] at hl ⊢;exact .of_eq (h us hl)
def vx (CX:Bg) (X:Cx) (E:XK):Prop:=∀ (K2:List (KN×K1)) (σ:St) (H:Hp) (s:KL) (e:KM) (s':KL),aE X K2 σ H s->CX X.stack H s E e s'->X.xe e s'
section
variable {X:Cx} {CX:Bg} {k:Nat} {f C:KN} {fd:FuncData} {ps:List Str} {sp:Sp} {dvs:List V} {ds:List KM} {E:XK} {x m:Str} {p pos apos:Pos} {e o:KP} {es:List KP} {ta:TE} {t:TA}
theorem Eg {K2:List (KN×K1)} {σ:St} {H:Hp} {s:KL} {Q:VK} {us:List KM} {vs:List V} (F:aQ X.prog X.w X.K X.mg X.base CX k f fd ps sp) (hr:cv k X.A) (hb:pC X.K fd ps ds) (hd:aV dvs ds) (hx:vx CX X E)
  (I:aE X K2 σ H s) (r:aV vs us) (h:sp (vs++dvs) H Q E):wpAny (model X.prog X.w) X.A (call (.ref f) us) (EP X K2 σ Q) X.xe s:=by
 have r2:aV (vs++dvs) (us++ds):=r.append hd;have hl:(us++ds).length=ps.length:=by rw [<- r2.length]; exact F.len _ _ _ _ h
 refine wpAny_call (codeAny_mono (F.run X.A X.stack s H ⟨us,[]⟩ (us++ds) (vs++dvs) Q E hr I.env0 (hb s us I.kIn hl) r2 h) λr s' hq=>?_)
 cases r with
 | error e=>exact hx K2 σ H s e s' I hq
 | ok fl=>
  cases fl with
  | ret u=>exact I.after hq
  | next=>exact False.elim hq
  | brk=>exact False.elim hq
  | cont=>exact False.elim hq
theorem B9 (F:aQ X.prog X.w X.K X.mg X.base CX k f fd ps sp) (hr:cv k X.A) (hg:Gl X x) (hm:X.mg x=some (.ref f)) (hk:PySem.W.keepIn X.K (.ref f)=true) (hb:pC X.K fd ps ds) (hd:aV dvs ds) (hx:vx CX X E)
  (ha:PA X (e::es) t) (hdb:(x == ("__debug__":Str))=false:=by decide) (he:starEach (e::es) X.env=(false,eval e X.env)::starEach es X.env:=by rfl) (hpl:(backTo pos (starEach es X.env)).any (·.1)=false:=by rfl):
  PE X (.Call (.Name x p) (e::es) [] pos) (G3 sp dvs E t):=by
 intro K2 s σ H Q I h;refine wpAny_Call_Name_kw (xt I hg hm ?_ hdb);refine PySem.W.callWith_K (h₀:=X.base) I.ok.mod.kin hk (bc (ha pos K2 s σ H _ I h) λus s1 ⟨vs,H1,I1,r,q⟩=>⟨I1.kIn,?_⟩) he hpl
 exact Eg F hr hb hd hx I1 r q
end
structure ao (N P:List Str) (sc:Scope):Prop where
 kind:sc.kind=.function
 co:sc.isCoroutine=false
 gen:sc.isGenerator=false
 nd:N.Nodup
 pre:N.take P.length=P
 par:∀ x∈P,sc.names.lookup x=some .local\/sc.names.lookup x=some .cell
 nofree:∀ y∈sc.names,y.2≠.free
theorem cG {N P:List Str} {sc:Scope} (a:sc.kind=.function:=by rfl) (b:sc.isCoroutine=false:=by rfl) (c:sc.isGenerator=false:=by rfl) (d:N.Nodup:=by decide +kernel) (e:N.take P.length=P:=by rfl) (f:∀ x∈P,sc.names.lookup x=some .local\/sc.names.lookup x=some .cell:=by decide +kernel) (g:∀ y∈sc.names,y.2≠.free:=by decide +kernel):ao N P sc:=⟨a,b,c,d,e,f,g⟩
theorem qH {kindOf:Str->KO NameKind} {x:Str}:∀ {binds:List (Str×KM)} {m:Str->KO KM},(∀ v,(x,v)∉binds)->bindL kindOf binds m x=m x
 | [],_,_=>rfl
 | (n,v)::r,m,h=>by
  unfold bindL;rw [qH λw hw=>h w (J5 _ hw)]
  split
  ·have:x≠n:=by rintro rfl; exact h v J4
   simp [this]
  ·rfl
theorem qF {kindOf:Str->KO NameKind} {x:Str}:∀ {binds:List (Str×KM)} {m:Str->KO KM},(∀ v,(x,v)∉binds)->bindC kindOf binds m x=m x
 | [],_,_=>rfl
 | (n,v)::r,m,h=>by
  unfold bindC;rw [qF λw hw=>h w (J5 _ hw)]
  split
  ·rfl
  ·have:x≠n:=by rintro rfl; exact h v J4
   simp [this]
theorem qA {kindOf:Str->KO NameKind} {x:Str} {v:KM}:∀ {P:List Str} {vs:List KM} {i:Nat} {m:Str->KO KM},P.Nodup->P[i]?=some x->vs[i]?=some v->kindOf x=some .local->
  bindL kindOf (P.zip vs) m x=some v
 | [],_,_,_,_,h,_,_=>by simp at h
 | _::_,[],_,_,_,_,h,_=>by simp at h
 | p::P,w::vs,0,m,nd,h1,h2,hk=>by
  simp at h1 h2; subst h1; subst h2
  show bindL kindOf ((p,w)::P.zip vs) m p=_
  unfold bindL;rw [qH λv hv=>(Ks.mp nd).1 (List.of_mem_zip hv).1,if_pos hk]
  simp
 | p::P,w::vs,i+1,m,nd,h1,h2,hk=>by
  show bindL kindOf ((p,w)::P.zip vs) m x=_
  unfold bindL;exact qA (i:=i) (Ks.mp nd).2 (by simpa using h1) (by simpa using h2) hk
theorem qX {kindOf:Str->KO NameKind} {x:Str} {v:KM}:∀ {P:List Str} {vs:List KM} {i:Nat} {m:Str->KO KM},P.Nodup->P[i]?=some x->vs[i]?=some v->kindOf x≠some .local->
  bindC kindOf (P.zip vs) m x=some v
 | [],_,_,_,_,h,_,_=>by simp at h
 | _::_,[],_,_,_,_,h,_=>by simp at h
 | p::P,w::vs,0,m,nd,h1,h2,hk=>by
  simp at h1 h2; subst h1; subst h2
  show bindC kindOf ((p,w)::P.zip vs) m p=_
  unfold bindC;rw [qF λv hv=>(Ks.mp nd).1 (List.of_mem_zip hv).1,if_neg hk]
  simp
 | p::P,w::vs,i+1,m,nd,h1,h2,hk=>by
  show bindC kindOf ((p,w)::P.zip vs) m x=_
  unfold bindC;exact qX (i:=i) (Ks.mp nd).2 (by simpa using h1) (by simpa using h2) hk
def start (N:List Str) (vs:List V):St:=vs.map some++List.replicate (N.length - vs.length) none
def uu (CX:Bg) (P:KQ) (w:KS) (K:PySem.W.Frag) (mg:Str->KO KM) (base:KT) (N:List Str) (K3:Str) (scope:Scope) (f:KN) (cd:KM) (A:KR) (outer:List Env) (s:KL) (H:Hp) (E:XK):Cx where
 prog:=P
 w:=w
 K:=K
 mg:=mg
 base:=base
 A:=A.deeper (envOfC K3 scope s.heap.objs.size f cd)
 N:=N
 s₀:=s
 H₀:=H
 env:=envOfC K3 scope s.heap.objs.size f cd
 outer:=outer
 stack:=envOfC K3 scope s.heap.objs.size f cd::outer
 ex:=[]
 calm:=true
 fn:=λ_=>true
 pn:=[]
 xe:=λe s'=>wpAny (model P w) (A.deeper (envOfC K3 scope s.heap.objs.size f cd)) (leaving (envOfC K3 scope s.heap.objs.size f cd) e) (λ_ s''=>CX outer H s E e s'') (λe' s''=>CX outer H s E e' s'') s'
theorem t8 {sc:Scope} {n:Nat} {x:Str} (h:sc.names.lookup x=some .cell):∃ c,(cellsFrom n sc.names []).lookup x=some c:=by
 have q:=PySem.W.cellsFrom_some sc.names n [] (.inl h);exact KI.mp q
theorem xE {CX:Bg} {P:KQ} {w:KS} {K:PySem.W.Frag} {mg:Str->KO KM} {base:KT} {N ps:List Str} {K3:Str} {scope:Scope} {f:KN} {cd:KM} {A:KR} {outer:List Env} {s s1:KL} {H:Hp} {E:XK} {us:List KM} {vs:List V}
  (S:ao N ps scope) (hd:A.handled=none) (e0:BF P w K mg base A outer s H) (hl:vs.length=ps.length) (r:aV vs us)
  (x:InCallC s s.heap.objs.size (bindL (envOfC K3 scope s.heap.objs.size f cd).kindOf (ps.zip us) λ_=>none) (cellsFrom (s.heap.objs.size+1) scope.names []) (bindC (envOfC K3 scope s.heap.objs.size f cd).kindOf (ps.zip us) λ_=>none) s1):
  aE (uu CX P w K mg base N K3 scope f cd A outer s H E) [] (start N vs) H s1:=by
 have hpl:ps.length<=N.length:=by have:=congrArg List.length S.pre; rw [List.length_take] at this; omega
 obtain⟨h1,tk,rfl,hk⟩:=x.done;have noA:∀ b:KN,b∉(uu CX P w K mg base N K3 scope f cd A outer s H E).ex:=λb z=>absurd (show b∈([]:List KN) from z) (by simp)
 refine⟨⟨e0.mod,S.kind,rfl,rfl,JX _,λy z c h1 h2=>?_,λy hy=>?_,λy c _ h=>?_,λ_=>hd,Around.frames_deeper e0.frames,.inr ⟨rfl,rfl⟩,λb z=>absurd z (noA b),e0.bs,e0.bsz,λb _ _=>noA b,λb z=>absurd z (noA b),e0.funs,e0.frf⟩,
  rfl,e0.bare,Un.kept hk,⟨_,x.toInCall.ns,λi y v h1 h2 h3=>?_⟩,λy c h=>⟨_,x.cell y c h⟩,e0.hok.fresh (JX _),λy c h=>?_,λp hp=>absurd (show p∈([]:List (KN×K1)) from hp) (by simp),e0.hok.kept hk,?_⟩
 ·exact name_of_addr x.apart (Kr h1) (Kr h2)
 ·have hy:scope.names.lookup y=some .cell\/scope.names.lookup y=some .free:=hy;rcases hy with hy | hy
  ·exact t8 hy
  ·exact absurd rfl (S.nofree _ (Kr hy))
 ·exact Nat.le_of_lt (x.above y c (Kr h))
 ·have hi:i < vs.length:=by
   unfold start at h2
   by_cases hi:i < vs.length
   ·exact hi
   ·rw [List.getElem?_append_right (by simpa using hi)] at h2
    rw [List.getElem?_replicate] at h2
    split at h2 <;> cases h2
  have ha:vs[i]?=some v:=by
   unfold start at h2;rw [List.getElem?_append_left (by simpa using hi),Ki] at h2
   cases e:vs[i]? with
   | none=>rw [e] at h2; cases h2
   | some a=>rw [e] at h2; cases h2; rfl
  obtain⟨u,hu,rv⟩:=r.get ha;have hp:ps[i]?=some y:=by
   rw [<- S.pre,List.getElem?_take_of_lt (by omega)]; exact h1
  have ndP:ps.Nodup:=by rw [<- S.pre]; exact S.nd.sublist (List.take_sublist _ _)
  refine⟨u,rv,?_⟩;rcases S.par y (List.mem_of_getElem? hp) with k | k
  ·exact .inl ⟨k,qA ndP hp hu k⟩
  ·obtain⟨c,e⟩:=t8 (n:=s.heap.objs.size+1) k;refine .inr ⟨.inl k,c,e,?_⟩;have q:=x.cell y c e;rw [qX ndP hp hu (by show scope.names.lookup y≠_; rw [k]; decide)] at q
   exact q
 ·exact e0.hok.fresh (Nat.le_of_lt (x.above y c (Kr h)))
 ·unfold start
  show _=N.length
  rw [Kc,JZ,List.length_replicate];omega
theorem GT {CX:Bg} {P:KQ} {w:KS} {K:PySem.W.Frag} {mg:Str->KO KM} {base:KT} {k:Nat} {f:KN} {name K3:Str} {params:Arguments} {body:List KU} {scope:Scope} {dV kV doc pm cdv ct oc:KM} {an od:KO KN}
  {osl:KW (KO KM)} {N ps:List Str} {sp:Sp} (lk:K.lookup f=some ⟨oc,od,.func (PySem.W.fnOf name K3 params body scope dV kV doc pm an cdv ct),osl⟩) (hcd:PySem.W.codeIn K cdv K3=true) (S:ao N ps scope)
  (len:∀ vs H Q E,sp vs H Q E->vs.length=ps.length)
  (hbody:∀ (A:KR) (outer:List Env) (s:KL) (H:Hp) (vs:List V) (Q:VK) (E:XK),cv k (A.deeper (envOfC K3 scope s.heap.objs.size f cdv))->sp vs H Q E->
   ∃ t,rC (uu CX P w K mg base N K3 scope f cdv A outer s H E) body t/\t {nx:=λ_ H'=>Q .non H',rt:=Q} (start N vs) H):
  aQ P w K mg base CX (k+1) f (PySem.W.fnOf name K3 params body scope dV kV doc pm an cdv ct) ps sp:=by
 refine⟨len,λA outer s H args us vs Q E hr e0 hb r hsp=>?_⟩
 have hl:=len _ _ _ _ hsp;have KX:K.In s.heap:=e0.mod.kin.keeps λb o e=>(e0.bs b o e).1
 have lim:s.heap.NoLimit:=e0.mod.nolimit.keeps λb o e=>(e0.bs b o e).1
 have hkind:∀ y∈ps.zip us,scope.names.lookup y.1=some .local\/(scope.names.lookup y.1=some .cell/\((cellsFrom (s.heap.objs.size+1) scope.names []).lookup y.1).isSome=true):=λ⟨n,v⟩ hy=>by
  rcases S.par n (List.of_mem_zip hy).1 with q | q
  ·exact .inl q
  ·exact .inr ⟨q,PySem.W.cellsFrom_some _ _ _ (.inl q)⟩
 refine codeAny_call_function hr.depth (KX _ _ lk) rfl S.co S.gen rfl (PySem.W.codeRec_of KX hcd) (hb _ _ _ _ ?_);refine wpAny_newFunctionEnv_cells S.kind hkind λenv he s1 x=>?_
 subst he;refine⟨lim.keeps x.toInCall.keep,codeAny_func ?_⟩;obtain⟨t,ht,hq⟩:=hbody A outer s H vs Q E (hr.deeper _) hsp;have I:aE (uu CX P w K mg base N K3 scope f cdv A outer s H E) [] (start N vs) H s1:=xE S hr.hd e0 hl r x;refine Km (ht [] s1 (start N vs) H _ I hq) (λfl s' hs=>?_) λe s' hs=>hs
 have fin:∀ {σ':St} {H':Hp} {v:V} {u:KM},aE (uu CX P w K mg base N K3 scope f cdv A outer s H E) [] σ' H' s'->aW v u->Q v H'->CE outer P w H s Q u s':=
  λ{σ' H' v u} J rv q=>⟨v,H',J.os,J.bare,J.base,J.hok,rv,q⟩
 cases fl with
 | ret u=>
  obtain⟨v,σ',H',J,rv,q⟩:=hs;exact fin J rv q
 | next=>
  obtain⟨σ',H',J,q⟩:=hs;exact fin (v:=V.non) (u:=Value.none) J rfl q
 | brk=>
  obtain⟨_,_,_,q⟩:=hs;exact False.elim q
 | cont=>
  obtain⟨_,_,_,q⟩:=hs;exact False.elim q
section
variable {X:Cx} {x:Str} {p pos:Pos} {e:KP} {es:List KP} {t:TA} {id T:KZ} {r:List V->Hp->VK->Prop}
def Iw (r:List V->Hp->VK->Prop) (t:TA):TE:=fun σ H Q=>t σ H λvs H1=>r vs H1 Q
theorem Ad (hc:bP X (.builtin id) r) (hg:Gl X x) (hm:X.mg x=none) (hv:bootBuiltins x=some (.builtin id)) (ha:PA X (e::es) t) (hn:x≠"__name__":=by decide) (hdb:(x == ("__debug__":Str))=false:=by decide)
  (he:starEach (e::es) X.env=(false,eval e X.env)::starEach es X.env:=by rfl) (hpl:(backTo pos (starEach es X.env)).any (·.1)=false:=by rfl):PE X (.Call (.Name x p) (e::es) [] pos) (Iw r t):=by
 intro K2 s σ H Q I h;refine wpAny_Call_Name_kw (iI I hg hm hv ?_ hn hdb);exact PyProof.Rows.callWith_builtin1 (bc (ha pos K2 s σ H _ I h) λus s1 z9=>by obtain⟨vs,H1,I1,r1,q1⟩:=z9; exact hc K2 s1 σ H1 vs us Q I1 r1 q1) he hpl
theorem xI (hc:bP X (.type T) r) (hg:Gl X x) (hm:X.mg x=none) (hv:bootBuiltins x=some (.type T)) (ha:PA X (e::es) t) (hn:x≠"__name__":=by decide) (hdb:(x == ("__debug__":Str))=false:=by decide)
  (he:starEach (e::es) X.env=(false,eval e X.env)::starEach es X.env:=by rfl) (hpl:(backTo pos (starEach es X.env)).any (·.1)=false:=by rfl):PE X (.Call (.Name x p) (e::es) [] pos) (Iw r t):=by
 intro K2 s σ H Q I h;refine wpAny_Call_Name_kw (iI I hg hm hv ?_ hn hdb);exact PyProof.Rows.callWith_type1 (bc (ha pos K2 s σ H _ I h) λus s1 z9=>by obtain⟨vs,H1,I1,r1,q1⟩:=z9; exact hc K2 s1 σ H1 vs us Q I1 r1 q1) he hpl
end
end L2
namespace HT
open PySem PyProof.Rows
section
variable {prog:KQ} {w:KS} {A:KR} {E:KM->KL->Prop} {s:KL}
theorem BQ {t b:KN} {vs ws:List KM} {Q:KM->KL->Prop} (ht:IsTup s.heap t vs.toArray) (hb:IsTup s.heap b ws.toArray) (hv:vs≠[])
  (h1:ws=[]->Q (.ref t) s) (h2:ws≠[]->Q (.ref s.heap.objs.size) {s with heap:=s.heap.push {cls:=.type "tuple",data:=.seq (vs++ws).toArray}})
  (hsz:vs.length+ws.length<=sizeLine):wpAny (model prog w) A (binaryOp .Add (.ref t) (.ref b)) Q E s:=by
 obtain⟨⟨cls,dd,data,sl⟩,ho,hc,n,hd⟩:=id ht;obtain⟨⟨cls2,dd2,data2,sl2⟩,ho2,hc2,n2,hd2⟩:=id hb;simp only at hc hd hc2 hd2
 subst hc hd hc2 hd2;have e:vs.toArray++ws.toArray=(vs++ws).toArray:=by simp
 by_cases hw:ws=[]
 ·exact concat_meets ⟨_,ho,rfl⟩ ⟨_,ho2,rfl⟩ noFill_tuple_add seq_tuple_add PySem.F.slot_tuple_add PySem.F.entry_tuple_add (PySem.F.args_tuple_add_2 _ _)
   (tuple_addW1 t b vs.toArray ws.toArray n n2 dd dd2 sl sl2 (by simpa using hv) (by simp [hw])) ⟨ho,ho2,h1 hw⟩
 ·refine concat_meets ⟨_,ho,rfl⟩ ⟨_,ho2,rfl⟩ noFill_tuple_add seq_tuple_add PySem.F.slot_tuple_add PySem.F.entry_tuple_add (PySem.F.args_tuple_add_2 _ _)
   (tuple_addW2 t b vs.toArray ws.toArray n n2 dd dd2 sl sl2 (by simpa using hv) (by simpa using hw) (by rw [J1,J1]; exact hsz)) ⟨ho,ho2,?_⟩
  rw [e];exact h2 hw
def cI (n d:Nat):KO Int->Nat
 | none=>d
 | some v=>if v < 0 then(v+(n:Int)).toNat else min v.toNat n
theorem FD (n d:Nat) (hd:d<=n) (o:KO Int):cI n d o<=n:=by
 cases o with
 | none=>exact hd
 | some v=>
  show(if v < 0 then(v+(n:Int)).toNat else min v.toNat n)<=n
  by_cases hv:v < 0
  ·rw [if_pos hv]; omega
  ·rw [if_neg hv]; exact Nat.min_le_right _ _
theorem xl (v:Int) (n d:Nat):(if v < 0 then max (v+(n:Int)) 0 else min v (n:Int))=((cI n d (some v):Nat):Int):=by
 show(if v < 0 then max (v+(n:Int)) 0 else min v (n:Int))=(((if v < 0 then(v+(n:Int)).toNat else min v.toNat n):Nat):Int)
 by_cases hv:v < 0
 ·simp only [if_pos hv]; omega
 ·simp only [if_neg hv]; omega
theorem vb (lo hi:KO Int) (n:Nat):Builtin.Slice.sliceAdjust lo hi 1 (n:Int)=(((cI n 0 lo:Nat):Int),((cI n n hi:Nat):Int)):=by
 have h1:¬ ((1:Int) < 0):=by omega
 unfold Builtin.Slice.sliceAdjust;simp only [h1,if_false];refine Prod.ext ?_ ?_
 ·cases lo with
  | none=>rfl
  | some v=>exact xl v n 0
 ·cases hi with
  | none=>rfl
  | some v=>exact xl v n n
theorem vp (i j:Nat):Builtin.Slice.slicePlaces (i:Int) (j:Int) 1=j - i:=by
 unfold Builtin.Slice.slicePlaces;have h1:(1:Int) > 0:=by omega
 simp only [h1,if_true,Int.ediv_one]
 split <;> omega
theorem o9 {v:KM} {o:KO Int} {Q:KO Int->KL->Prop} (p:IsPart v o) (h:Q o s):wpAny (model prog w) A (Builtin.Slice.slicePartIndex v) Q E s:=by
 cases p with
 | none=>exact slicePart_none h
 | int i t=>exact slicePart_int h
theorem ie {sl:KN} {vl vu:KM} {lo hi:KO Int} {n:Nat} {Q:Int×Int×Nat->KL->Prop} (hs:s.heap.IsSliceOf sl vl vu .none) (pl:IsPart vl lo) (pu:IsPart vu hi)
  (h:Q (((cI n 0 lo:Nat):Int),1,cI n n hi - cI n 0 lo) s):wpAny (model prog w) A (Builtin.Slice.sliceApplied (.ref sl) (pure (n:Int))) Q E s:=by
 obtain⟨os,hos,hcs,hds⟩:=id hs;unfold Builtin.Slice.sliceApplied Builtin.Slice.sliceFields;refine gt (gt (wpAny_field hos hds (x:=vl) rfl (gt (wpAny_field hos hds (x:=vu) rfl (gt (wpAny_field hos hds (x:=.none) rfl (JU ?_)))))));refine gt (slicePart_none ?_)
 show wpAny _ _ (if ((1:Int) == 0)=true then _ else _) _ _ s
 rw [if_neg (by decide)]
 refine gt (o9 pl (gt (o9 pu (gt (JU ?_)))))
 show wpAny _ _ (match Builtin.Slice.sliceAdjust lo hi 1 (n:Int) with | (lo,hi)=>pure (lo,(1:Int),Builtin.Slice.slicePlaces lo hi 1)) _ _ s
 rw [vb lo hi n]
 show wpAny _ _ (pure (((cI n 0 lo:Nat):Int),(1:Int),Builtin.Slice.slicePlaces ((cI n 0 lo:Nat):Int) ((cI n n hi:Nat):Int) 1)) _ _ s
 rw [vp];exact JU h
theorem yL (xs:KW KM) (i k:Nat):((List.range k).filterMap fun(m:Nat)=>xs[((i:Int)+(m:Int)*1).toNat]?).toArray=((xs.toList.drop i).take k).toArray:=by
 have e:(λ(m:Nat)=>xs[((i:Int)+(m:Int)*1).toNat]?)=λm=>xs[i+m]?:=by
  funext m
  have:((i:Int)+(m:Int)*1).toNat=i+m:=by omega
  rw [this]
 rw [e];have:=pick_run xs i k;rw [List.filterMap_map] at this;have e2:((λx=>xs[x]?) ∘ λx=>i+x)=λm=>xs[i+m]?:=rfl
 rw [e2] at this;rw [this]
theorem lY {t sl:KN} {items:KW KM} {vl vu:KM} {lo hi:KO Int} {Q:KM->KL->Prop} (ht:IsTup s.heap t items) (hs:s.heap.IsSliceOf sl vl vu .none) (pl:IsPart vl lo) (pu:IsPart vu hi)
  (hw:¬ (cI items.size 0 lo=0/\cI items.size items.size hi=items.size))
  (h:Q (.ref s.heap.objs.size) {s with heap:=s.heap.push {cls:=.type "tuple",data:=.seq ((items.toList.drop (cI items.size 0 lo)).take (cI items.size items.size hi - cI items.size 0 lo)).toArray}})
  (hsz:items.size<=sizeLine):wpAny (model prog w) A (getItem (.ref t) (.ref sl)) Q E s:=by
 have htake:sizeOk (.seq ((items.toList.drop (cI items.size 0 lo)).take (cI items.size items.size hi - cI items.size 0 lo)).toArray):=by
  show((items.toList.drop (cI items.size 0 lo)).take (cI items.size items.size hi - cI items.size 0 lo)).toArray.size<=sizeLine
  rw [J1,List.length_take,List.length_drop,KG];omega
 have hj:cI items.size items.size hi<=items.size:=FD _ _ (JX _) hi;obtain⟨os,hos,hcs,hds⟩:=id hs;have hTs:s.TypeIs (.ref sl) "slice":=⟨os,hos,hcs⟩
 unfold getItem
 try with_reducible refine Kf ?_
 first | refine gt (JU ?_) | skip
 refine gt (wpAny_sequenceKey ht.typeIs (by decide) ?_)
 refine gt (KD (name:=Str.ofString "__getitem__") ht.typeIs PyProof.Rows.slot_tuple_getitem
  (Ku PyProof.Rows.slot_tuple_getitem ht.typeIs entry_tuple_getitem ?_ (args_tuple_getitem _ _)))
 show wpAny _ _ (Builtin.Tuple.tupleItemsOf (.ref t) >>= _) _ _ s
 refine gt (tupleItemsOf_ ht ?_);refine gt (wpAny_typeOf hTs ?_);rw [if_pos (by decide)]
 refine gt (ie hs pl pu ?_);have hno:¬ ((((cI items.size 0 lo:Nat):Int) == 0 && (1:Int) == 1 && (cI items.size items.size hi - cI items.size 0 lo) == items.size)=true):=by
  intro q;rw [Ko,Ko] at q;have q1:((cI items.size 0 lo:Nat):Int)=0:=eq_of_beq q.1.1;have q2:cI items.size items.size hi - cI items.size 0 lo=items.size:=eq_of_beq q.2;exact hw ⟨by omega,by omega⟩
 show wpAny _ _ (if (((cI items.size 0 lo:Nat):Int) == 0 && (1:Int) == 1 && (cI items.size items.size hi - cI items.size 0 lo) == items.size)=true then _ else _) _ _ s
 rw [if_neg hno,yL]
 first
  | exact gt (m:=Builtin.Tuple.tupleExact _) (Kh (JU ⟨_,rfl,JU h⟩) htake)
  | exact gt (m:=Builtin.Tuple.tupleExact _) (Kh (gt (JU (JU ⟨_,rfl,JU h⟩))) htake)
  | exact gt (gt (m:=Builtin.Tuple.tupleExact _) (Kh (JU (JU ⟨_,rfl,JU h⟩)) htake))
  | exact gt (gt (m:=Builtin.Tuple.tupleExact _) (Kh (JU ⟨_,rfl,JU h⟩) htake))
end
end HT
namespace L2
open PySem PySem.Spec PyProof.Rows
abbrev TO:=St->Hp->(KO Int->Hp->Prop)->Prop
def PO (X:Cx) (e:KO KP) (t:TO):Prop:=
 ∀ (K2:List (KN×K1)) (s:KL) (σ:St) (H:Hp) (Q:KO Int->Hp->Prop),aE X K2 σ H s->t σ H Q->
  wpAny (model X.prog X.w) X.A (evalPart e X.env) (λu s'=>∃ o H',aE X K2 σ H' s'/\IsPart u o/\Q o H') X.xe s
def Bw:TO:=λ_ H Q=>Q none H
def Gc (t:TE):TO:=fun σ H Q=>t σ H λx H1=>∃ i,x=.int i/\Q (some i) H1
section
variable {X:Cx} {e:KP} {te:TE} {lo hi:KO KP} {tl th:TO} {pos p2:Pos}
theorem BH:PO X none Bw:=by
 intro K2 s σ H Q I h;rw [evalPart_none];exact JU ⟨none,H,I,.none,h⟩
theorem BB (h:PE X e te):PO X (some e) (Gc te):=by
 intro K2 s σ H Q I hw;rw [evalPart_some];refine bc (h K2 s σ H _ I hw) λu s1 z9=>?_
 obtain⟨x,H1,I1,r1,q1⟩:=z9;obtain⟨i,rfl,q⟩:=q1;obtain⟨t,rfl⟩:=r1;exact⟨some i,H1,I1,.int i t,q⟩
def Ai (X:Cx) (r:V->KO Int->KO Int->Hp->VK->Prop):Prop:=
 ∀ (K2:List (KN×K1)) (s:KL) (σ:St) (H:Hp) (x:V) (v vl vu:KM) (lo hi:KO Int) (sl:KN) (Q:VK),aE X K2 σ H s->aW x v->s.heap.IsSliceOf sl vl vu .none->IsPart vl lo->IsPart vu hi->r x lo hi H Q->
  ∃ T id,typeLookup (.type T) "__getitem__"=pure (some (.builtin id))/\s.TypeIs v T/\wpAny (model X.prog X.w) X.A (getItem v (.ref sl)) (EP X K2 σ Q) X.xe s
theorem Ai.or {r r':V->KO Int->KO Int->Hp->VK->Prop} (h:Ai X r) (h':Ai X r'):Ai X (λx lo hi H Q=>r x lo hi H Q\/r' x lo hi H Q):=by
 intro K2 s σ H x v vl vu lo hi sl Q I rx hs pl pu q;rcases q with q | q
 ·exact h K2 s σ H x v vl vu lo hi sl Q I rx hs pl pu q
 ·exact h' K2 s σ H x v vl vu lo hi sl Q I rx hs pl pu q
def JF (r:V->KO Int->KO Int->Hp->VK->Prop) (te:TE) (tl th:TO):TE:=fun σ H Q=>te σ H λx H1=>tl σ H1 λl H2=>th σ H2 λu H3=>r x l u H3 Q
theorem pP {r:V->KO Int->KO Int->Hp->VK->Prop} (hr:Ai X r) (he:PE X e te) (hl:PO X lo tl) (hu:PO X hi th):PE X (.Subscript e (.Slice lo hi none p2) pos) (JF r te tl th):=by
 intro K2 s σ H Q I h;refine Subscript_ (bc (he K2 s σ H _ I h) λv s1 z9=>?_)
 obtain⟨x,H1,I1,r1,q1⟩:=z9;refine wpAny_Slice (bc (hl K2 s1 σ H1 _ I1 q1) λvl s2 ⟨l,H2,I2,pl,q2⟩=>bc (hu K2 s2 σ H2 _ I2 q2) λvu s3 z9=>?_)
 obtain⟨u,H3,I3,pu,q3⟩:=z9;rw [evalPart_none];refine JU ?_;have I4:aE X K2 σ H3 {s3 with heap:=s3.heap.push {cls:=.type "slice",data:=.fields #[vl,vu,.none]}}:=I3.kept (t':=s3.toks) λb ob q=>pp _ q
 obtain⟨T,id,hT,ht,hg⟩:=hr K2 {s3 with heap:=s3.heap.push {cls:=.type "slice",data:=.fields #[vl,vu,.none]}} σ H3 x v vl vu l u s3.heap.objs.size Q I4 r1 (Heap.IsSliceOf.new ..) pl pu q3
 show wpAny (model X.prog X.w) X.A (subscriptTail e (.Slice lo hi none p2) v (.ref s3.heap.objs.size)) (EP X K2 σ Q) X.xe {s3 with heap:=s3.heap.push {cls:=.type "slice",data:=.fields #[vl,vu,.none]}}
 exact tail_any (ops:=[.ref s3.heap.objs.size,v]) ht hT hg (by with_unfolding_all rfl)
def n_ (xs:List V) (lo hi:KO Int):List V:=(xs.drop (HT.cI xs.length 0 lo)).take (HT.cI xs.length xs.length hi - HT.cI xs.length 0 lo)
theorem nS (xs:List V) (lo hi:KO Int):(n_ xs lo hi).length<=xs.length:=by
 unfold n_;rw [List.length_take,List.length_drop];omega
def HX (K:PySem.W.Frag):V->KO Int->KO Int->Hp->VK->Prop:=λx lo hi H Q=>∃ a xs,x=.ref a/\gZ K H a xs/\
 ¬ (HT.cI xs.length 0 lo=0/\HT.cI xs.length xs.length hi=xs.length)/\∀ p,H p=none->Q (.ref p) (br H p (.tup (n_ xs lo hi)))
theorem yH:Ai X (HX X.K):=by
 intro K2 s σ H x v vl vu lo hi sl Q I rx hs pl pu h;obtain⟨a,xs,rfl,hx,hw,q⟩:=h;cases rx;obtain⟨its,r,ht,hz⟩:=I.tuple hx;have hlen:its.toArray.size=xs.length:=by rw [J1]; exact r.length.symm
 refine⟨"tuple",_,PyProof.Rows.slot_tuple_getitem.lookup,ht.typeIs,?_⟩
 refine HT.lY ht hs pl pu (by rw [hlen]; exact hw) ?_ (by rw [hlen]; exact hz)
 rw [hlen];refine⟨.ref s.heap.objs.size,_,I.laid (t':=s.toks) (o:=.tup (n_ xs lo hi)) (λb ob q=>pp _ q) (JX _) ?_,rfl,q _ (I.hok.fresh (JX _))⟩
 exact⟨Kn (nS xs lo hi) hz,_,(r.drop (HT.cI xs.length 0 lo)).take (HT.cI xs.length xs.length hi - HT.cI xs.length 0 lo),IsTup.new _ _⟩
def HF (K:PySem.W.Frag):R2:=λx y H Q=>∃ a b xs ys,x=.ref a/\y=.ref b/\gZ K H a xs/\gZ K H b ys/\xs≠[]/\xs.length+ys.length<=sizeLine/\
 (ys=[]->Q (.ref a) H)/\(ys≠[]->∀ p,H p=none->Q (.ref p) (br H p (.tup (xs++ys))))
theorem aV.nil_iff {xs:List V} {us:List KM} (r:aV xs us):us=[]↔xs=[]:=by
 cases r with
 | nil=>simp
 | cons _ _=>simp
theorem B1:cS X (binaryOp .Add) (HF X.K):=by
 intro K2 s σ H x y v u Q I rx ry h;obtain⟨a,b,xs,ys,rfl,rfl,ha,hb,hx,hz,q1,q2⟩:=h;cases rx;cases ry;obtain⟨its,r1,p1,_⟩:=I.tuple ha;obtain⟨its2,r2,p2,_⟩:=I.tuple hb;refine HT.BQ p1 p2 (λz=>hx (r1.nil_iff.mp z)) (λz=>⟨.ref a,H,I,rfl,q1 (r2.nil_iff.mp z)⟩) (λz=>?_) (by rw [<- r1.length,<- r2.length]; exact hz)
 refine⟨.ref s.heap.objs.size,_,I.laid (t':=s.toks) (o:=.tup (xs++ys)) (λb ob q=>pp _ q) (JX _) ?_,rfl,q2 (λw=>z (r2.nil_iff.mpr w)) _ (I.hok.fresh (JX _))⟩
 exact⟨by rw [Kc]; exact hz,_,r1.append r2,IsTup.new _ _⟩
end
def zo (n:Nat) (i:Int):KO Nat:=if 0<=i then(if i < n then some i.toNat else none) else if -(n:Int)<=i then some (i+n).toNat else none
def atI {α:Type} (xs:List α) (i:Int):KO α:=(zo xs.length i).bind λj=>xs[j]?
theorem wU {n:Nat} {i:Int} {j:Nat} (h:zo n i=some j):seqIndex? i n=some j/\j < n/\-(n:Int)<=i/\i < n:=by
 unfold zo at h
 by_cases h0:0<=i
 ·rw [if_pos h0] at h
  by_cases h1:i < n
  ·rw [if_pos h1] at h;have e:i.toNat=j:=Kj h;exact⟨by rw [seqIndex_of h0 h1,e],by omega,by omega,h1⟩
  ·rw [if_neg h1] at h; cases h
 ·rw [if_neg h0] at h
  by_cases h1:-(n:Int)<=i
  ·rw [if_pos h1] at h;have e:(i+n).toNat=j:=Kj h;exact⟨by rw [seqIndex_neg (by omega) h1,e],by omega,h1,by omega⟩
  ·rw [if_neg h1] at h; cases h
theorem rY {α:Type} {xs:List α} {i:Int} {v:α} (h:atI xs i=some v):∃ j,seqIndex? i xs.length=some j/\xs[j]?=some v/\j < xs.length/\-(xs.length:Int)<=i/\i < xs.length:=by
 unfold atI at h;cases e:zo xs.length i with
 | none=>rw [e] at h; cases h
 | some j=>
  rw [e] at h;obtain⟨h1,h2,h3,h4⟩:=wU e;exact⟨j,h1,h,h2,h3,h4⟩
theorem fk {α:Type} {xs:List α} {j:Nat} {v:α} (h:xs[j]?=some v):atI xs (j:Int)=some v:=by
 have hj:j < xs.length:=(Kl.mp h).1;have e:zo xs.length (j:Int)=some j:=by
  unfold zo;rw [if_pos (by omega),if_pos (by omega)]; simp
 unfold atI; rw [e]; exact h
def xr (b:KP):Prop:=∀ o i,subscripted b false o i=operate [o,i] (getItem o i)
def wz (X:Cx) (r:R2):Prop:=
 ∀ (value slice:KP) (K2:List (KN×K1)) (s:KL) (σ:St) (H:Hp) (x y:V) (v u:KM) (Q:VK),aE X K2 σ H s->aW x v->aW y u->r x y H Q->
  subscripted slice false v u=operate [v,u] (getItem v u)->wpAny (model X.prog X.w) X.A (subscriptTail value slice v u) (EP X K2 σ Q) X.xe s
def Bu (X:Cx) (id:KZ) (r:V->List V->Hp->VK->Prop):Prop:=
 ∀ (K2:List (KN×K1)) (s:KL) (σ:St) (H:Hp) (x:V) (xs:List V) (v:KM) (us:List KM) (Q:VK),aE X K2 σ H s->aW x v->aV xs us->r x xs H Q->
  wpAny (model X.prog X.w) X.A (call (.builtin id) (v::us)) (EP X K2 σ Q) X.xe s
section
variable {X:Cx} {a b:KP} {ta tb:TE} {pos:Pos}
theorem Ha {r:R2} (hr:wz X r) (ha:PE X a ta) (hb:PE X b tb) (hs:xr b):PE X (.Subscript a b pos) (Hy r ta tb):=by
 intro K2 s σ H Q I h;exact Subscript_ (Dg ha hb I h λv u s2 x y H2 I2 rx ry q=>hr a b K2 s2 σ H2 x y v u Q I2 rx ry q (hs _ _))
def ID (K:PySem.W.Frag):R2:=λx y H Q=>∃ p xs i v,x=.ref p/\y=.int i/\eH K H p xs/\atI xs i=some v/\Q v H
def IA (K:PySem.W.Frag):R2:=λx y H Q=>∃ p xs i v,x=.ref p/\y=.int i/\gZ K H p xs/\atI xs i=some v/\Q v H
def I9:R2:=λx y H Q=>∃ z i c,x=.str z/\y=.int i/\z.length<=sizeLine/\atI z.cps.toList i=some c/\Q (.str ⟨#[c]⟩) H
theorem wE:wz X (ID X.K):=by
 intro value slice K2 s σ H x y v u Q I rx ry h hs;obtain⟨p,xs,i,z,rfl,rfl,hq,he,q⟩:=h;cases rx;obtain⟨t,rfl⟩:=ry;obtain⟨its,r,pl,hz⟩:=I.list hq;obtain⟨j,h1,h2,h3,h4,h5⟩:=rY he;obtain⟨w,ew,rw'⟩:=r.get h2;have hl:=r.length;have hn:=nF;have fin:EP X K2 σ Q w s:=⟨z,H,I,rw',q⟩
 by_cases h0:0<=i
 ·have hj:i.toNat=j:=by
   rw [seqIndex_of h0 h5] at h1;exact Kj h1
  exact item_listR pl.isList h0 (by omega) (by rw [hj]; simpa using ew) fin hs
 ·have hj:(i+(its.toArray.size:Int)).toNat=j:=by
   rw [seqIndex_neg (by omega) h4] at h1
   rw [J1,<- hl];exact Kj h1
  exact subscriptTail_builtinR (x:=w) pl.isList.typeIs slot_list_getitem.lookup
   (wpAny_getItem_list_neg (Q:=λr s'=>r=w/\EP X K2 σ Q r s') pl.isList (by omega) (by rw [J1] <;> omega) (by omega) (by rw [hj]; simpa using ew) ⟨rfl,fin⟩) hs
theorem Ej:wz X (IA X.K):=by
 intro value slice K2 s σ H x y v u Q I rx ry h hs;obtain⟨p,xs,i,z,rfl,rfl,hq,he,q⟩:=h;cases rx;obtain⟨t,rfl⟩:=ry;obtain⟨its,r,pl,hz⟩:=I.tuple hq;obtain⟨j,h1,h2,h3,h4,h5⟩:=rY he;obtain⟨w,ew,rw'⟩:=r.get h2;have hl:=r.length;have hn:=nF;have fin:EP X K2 σ Q w s:=⟨z,H,I,rw',q⟩;exact subscriptTail_builtinR (x:=w) pl.typeIs slot_tuple_getitem.lookup
  (getItem_tuple (j:=j) (Q:=λr s'=>r=w/\EP X K2 σ Q r s') pl (by omega) (by omega) (by rw [J1,<- hl]; exact h1) (by simpa using ew) ⟨rfl,fin⟩) hs
theorem Du:wz X I9:=by
 intro value slice K2 s σ H x y v u Q I rx ry h hs;obtain⟨z,i,c,rfl,rfl,hz,he,q⟩:=h;obtain⟨t,rfl⟩:=rx;obtain⟨t',rfl⟩:=ry;obtain⟨j,h1,h2,h3,h4,h5⟩:=rY he;have hl:z.cps.toList.length=z.length:=by simp [Str.length]
 rw [hl] at h1 h4 h5
 have hn:=nF;exact tail_any (typeIs_str s z t) slot_str_getitem.lookup (getItem_str (c:=c) (by
  have e1:decide (i < -(2 ^ 63:Int))=false:=Ky (by omega)
  have e2:decide (i ≥ 2 ^ 63)=false:=Ky (by omega)
  rw [e1,e2,Bool.or_false]) (by rw [h1]; simpa using h2) ⟨.str ⟨#[c]⟩,H,I.tok _,⟨_,rfl⟩,q⟩) hs
theorem vS (its:List KM) (n j:Nat) (u:KM):Obj.mapSeq (·.setIfInBounds j u) {cls:=.type "list",data:=.seq its.toArray n}={cls:=.type "list",data:=.seq (its.set j u).toArray n}:=by
 simp [Obj.mapSeq]
theorem aE.lst {K2:List (KN×K1)} {σ:St} {H:Hp} {s:KL} {p:KN} {xs:List V} (I:aE X K2 σ H s) (h:H p=some (.lst xs)):
  ∃ (its:List KM) (n:Nat),aV xs its/\s.heap.get? p=some {cls:=.type "list",data:=.seq its.toArray n}/\xs.length<=sizeLine:=by
 obtain⟨z,its,n,r,e⟩:=I.hok p _ h;exact⟨its,n,r,e,z⟩
theorem aE.lstUpd {K2:List (KN×K1)} {σ:St} {H:Hp} {s:KL} {p:KN} {xs ys:List V} {its its':List KM} {n n':Nat} {f:K1->K1} (I:aE X K2 σ H s) (h:H p=some (.lst xs))
  (ho:s.heap.get? p=some {cls:=.type "list",data:=.seq its.toArray n}) (hf:f {cls:=.type "list",data:=.seq its.toArray n}={cls:=.type "list",data:=.seq its'.toArray n'}) (r:aV ys its') (hz:ys.length<=sizeLine) (t:Nat):
  aE X K2 σ (br H p (.lst ys)) {s with heap:=s.heap.update p f,toks:=t}:=by
 have e:(s.heap.update p f).get? p=some {cls:=.type "list",data:=.seq its'.toArray n'}:=by
  rw [Heap.get?_update_self f ho (by rw [hf] <;> rfl),hf]
 refine I.write (x:=p) (e:=p) (by rw [h]; trivial) (.inl rfl) (λb u hb q=>(Heap.get?_update_other _ _ (Ne.symm hb)).trans q) ⟨_,e⟩ ?_
 exact⟨hz,its',n',r,e⟩
def Hn:V->V->V->Hp->(Hp->Prop)->Prop:=λo i v H Q=>∃ p xs k j,o=.ref p/\i=.int k/\H p=some (.lst xs)/\zo xs.length k=some j/\Q (br H p (.lst (xs.set j v)))
theorem zH:EV X Hn:=by
 intro K2 s σ H o i v ov iv u Q I ro ri rv h;obtain⟨p,xs,k,j,rfl,rfl,hp,hj,q⟩:=h;cases ro;obtain⟨t,rfl⟩:=ri;obtain⟨its,n,r,ho,hz⟩:=I.lst hp;obtain⟨h1,h2,h3,h4⟩:=wU hj;have hl:=r.length;have hn:=nF;have I':aE X K2 σ (br H p (.lst (xs.set j v))) {s with heap:=s.heap.update p (Obj.mapSeq (·.setIfInBounds j u))}:=
  I.lstUpd hp ho (vS its n j u) (r.set rv j) (by rw [List.length_set]; exact hz) s.toks
 by_cases h0:0<=k
 ·have hk:k.toNat=j:=by
   rw [seqIndex_of h0 h4] at h1;exact Kj h1
  exact PySem.W.ki_setAt ho h0 (by omega) (by rw [J1,<- hl]; exact h4) (by rw [hk]; exact⟨_,I',q⟩)
 ·have hk:(k+(its.toArray.size:Int)).toNat=j:=by
   rw [seqIndex_neg (by omega) h3] at h1
   rw [J1,<- hl];exact Kj h1
  exact PySem.W.ki_setBack ho (by omega) (by rw [J1,<- hl]; exact h3) (by omega) (by rw [hk]; exact⟨_,I',q⟩)
theorem rZ (lo hi:KO Int) (n:Nat):(sliceBounds lo hi none n).1=((HT.cI n 0 lo:Nat):Int)/\(sliceBounds lo hi none n).2.1=((HT.cI n n hi:Nat):Int)/\(sliceBounds lo hi none n).2.2=1:=by
 refine⟨?_,?_,rfl⟩
 ·cases lo with
  | none=>simp [sliceBounds,HT.cI]
  | some i=>
   simp only [sliceBounds,HT.cI,Option.getD_none,show(1:Int) > 0 by decide,if_true]
   by_cases h:i < 0
   ·simp only [h,if_true] <;> omega
   ·simp only [h,if_false] <;> omega
 ·cases hi with
  | none=>simp [sliceBounds,HT.cI]
  | some i=>
   simp only [sliceBounds,HT.cI,Option.getD_none,show(1:Int) > 0 by decide,if_true]
   by_cases h:i < 0
   ·simp only [h,if_true] <;> omega
   ·simp only [h,if_false] <;> omega
theorem qx (its:List KM) (lo hi:KO Int):slicePick its.toArray lo hi none=((its.drop (HT.cI its.length 0 lo)).take (HT.cI its.length its.length hi - HT.cI its.length 0 lo)).toArray:=by
 obtain⟨h1,h2,h3⟩:=rZ lo hi its.toArray.size;unfold slicePick;rw [h1,h2,h3];simp only [sliceRange_one,pick_run,J1] <;> rfl
def IP (K:PySem.W.Frag):V->KO Int->KO Int->Hp->VK->Prop:=λx lo hi H Q=>∃ a xs,x=.ref a/\eH K H a xs/\∀ p,H p=none->Q (.ref p) (br H p (.lst (n_ xs lo hi)))
theorem Bv:Ai X (IP X.K):=by
 intro K2 s σ H x v vl vu lo hi sl Q I rx hs pl pu h;obtain⟨a,xs,rfl,hx,q⟩:=h;cases rx;obtain⟨its,r,ht,hz⟩:=I.list hx;have hlen:=r.length;refine⟨"list",_,slot_list_getitem.lookup,ht.isList.typeIs,?_⟩
 refine wpAny_getItem_list_slice ht.isList hs pl pu .none (by simp) ?_ (by rw [J1] <;> omega)
 rw [qx,<- hlen];refine⟨.ref s.heap.objs.size,_,I.laid (t':=s.toks) (o:=.lst (n_ xs lo hi)) (λb ob q=>pp _ q) (JX _) ?_,rfl,q _ (I.hok.fresh (JX _))⟩
 exact⟨Kn (nS xs lo hi) hz,_,0,(r.drop (HT.cI xs.length 0 lo)).take (HT.cI xs.length xs.length hi - HT.cI xs.length 0 lo),JV _ rfl⟩
def kA:V->KY
 | .non=>true
 | .bl _=>true
 | .int _=>true
 | .str _=>true
 | _=>false
def CK:V->V->KY
 | .non,.non=>true
 | .bl a,.bl b=>a == b
 | .bl a,.int b=>(if a then 1 else 0) == b
 | .int a,.bl b=>a == (if b then 1 else 0)
 | .int a,.int b=>a == b
 | .str a,.str b=>a == b
 | _,_=>false
theorem De {A:KR} {s:KL} {y x:V} {u v:KM} (ry:aW y u) (rx:aW x v) (fy:kA y=true) (fx:kA x=true):SeqAt.EqAt A s u v (CK y x):=by
 cases y with
 | non=>
  cases ry;cases x with
  | non=>cases rx; exact SeqAt.EqAt.same _
  | bl b=>cases rx; exact SeqAt.EqAt.none_bool b
  | int b=>obtain⟨t,rfl⟩:=rx; exact SeqAt.EqAt.none_int b t
  | str b=>obtain⟨t,rfl⟩:=rx; exact SeqAt.EqAt.none_str b t
  | _=>exact absurd (show false=true from fx) J0
 | bl a=>
  cases ry;cases x with
  | non=>cases rx; exact SeqAt.EqAt.bool_none a
  | bl b=>cases rx; exact SeqAt.EqAt.bool_bool a b
  | int b=>obtain⟨t,rfl⟩:=rx; exact SeqAt.EqAt.bool_int a b t
  | str b=>obtain⟨t,rfl⟩:=rx; exact SeqAt.EqAt.bool_str a b t
  | _=>exact absurd (show false=true from fx) J0
 | int a=>
  obtain⟨t',rfl⟩:=ry;cases x with
  | non=>cases rx; exact SeqAt.EqAt.int_none a t'
  | bl b=>cases rx; exact SeqAt.EqAt.int_bool a t' b
  | int b=>obtain⟨t,rfl⟩:=rx; exact SeqAt.EqAt.int_int a t' b t
  | str b=>obtain⟨t,rfl⟩:=rx; exact SeqAt.EqAt.int_str a t' b t
  | _=>exact absurd (show false=true from fx) J0
 | str a=>
  obtain⟨t',rfl⟩:=ry;cases x with
  | non=>cases rx; exact SeqAt.EqAt.str_none a t'
  | bl b=>cases rx; exact SeqAt.EqAt.str_bool a t' b
  | int b=>obtain⟨t,rfl⟩:=rx; exact SeqAt.EqAt.str_int a t' b t
  | str b=>obtain⟨t,rfl⟩:=rx; exact SeqAt.EqAt.str_str a t' b t
  | _=>exact absurd (show false=true from fx) J0
 | _=>exact absurd (show false=true from fy) J0
def Bk (x:V) (u:KM):KY:=match u with
 | .none=>CK .non x
 | .bool b=>CK (.bl b) x
 | .int i _=>CK (.int i) x
 | .str z _=>CK (.str z) x
 | _=>false
theorem AB {x y:V} {u:KM} (r:aW y u) (f:kA y=true):Bk x u=CK y x:=by
 cases y with
 | non=>cases r; rfl
 | bl b=>cases r; rfl
 | int i=>obtain⟨t,rfl⟩:=r; rfl
 | str z=>obtain⟨t,rfl⟩:=r; rfl
 | _=>exact absurd (show false=true from f) J0
theorem sS {x:V}:∀ {xs:List V} {us:List KM},aV xs us->xs.all kA=true->us.any (Bk x)=xs.any λy=>CK y x
 | _,_,.nil,_=>rfl
 | y::xs,u::us,.cons r t,f=>by
  rw [List.all_cons,Ko] at f;rw [List.any_cons,List.any_cons,AB r f.1,sS t f.2]
theorem po {A:KR} {s:KL} {x:V} {v:KM} (rx:aW x v) (fx:kA x=true):∀ {xs:List V} {us:List KM},aV xs us->xs.all kA=true->∀ u∈us,SeqAt.EqAt A s u v (Bk x u)
 | _,_,.nil,_=>λu hu=>by cases hu
 | y::xs,u::us,.cons r t,f=>λu' hu=>by
  rw [List.all_cons,Ko] at f;rcases J2.mp hu with rfl | hu
  ·rw [AB r f.1]; exact De r rx f.1 fx
  ·exact po rx fx t f.2 u' hu
def CQ (x:V) (xs:List V):KY:=xs.any λy=>CK y x
def Jd (K:PySem.W.Frag) (neg:KY):R2:=λx y H Q=>∃ p xs,y=.ref p/\(eH K H p xs\/gZ K H p xs)/\kA x=true/\xs.all kA=true/\Q (.bl (if neg then !CQ x xs else CQ x xs)) H
theorem xC:cS X (compareOp .In) (Jd X.K false):=by
 intro K2 s σ H x y v u Q I rx ry h;obtain⟨p,xs,rfl,hq,fx,fs,q⟩:=h;cases ry;rcases hq with hq | hq
 ·obtain⟨its,r,pl,hz⟩:=I.list hq;refine SeqAt.in_listAt (Bk x) pl.isList (λw hw=>po rx fx r fs w (by simpa using hw)) ⟨.bl _,H,I,rfl,?_⟩
  rw [show its.toArray.any (Bk x)=its.any (Bk x) by simp,sS r fs]
  exact q
 ·obtain⟨its,r,pl,hz⟩:=I.tuple hq;refine SeqAt.in_tupleAt (Bk x) pl (λw hw=>po rx fx r fs w (by simpa using hw)) ⟨.bl _,H,I,rfl,?_⟩
  rw [show its.toArray.any (Bk x)=its.any (Bk x) by simp,sS r fs]
  exact q
theorem i6:bP X (.builtin "len") (λxs H Q=>∃ p ys,xs=[.ref p]/\(eH X.K H p ys\/gZ X.K H p ys)/\Q (.int ys.length) H):=by
 intro K2 s σ H xs us Q I r h;obtain⟨p,ys,rfl,hq,q⟩:=h;obtain⟨u,rfl,rx⟩:=pB r;cases rx;have hn:=nF;rcases hq with hq | hq
 ·obtain⟨its,r',pl,hz⟩:=I.list hq;have hlen:=r'.length;exact Calls.call_len_list pl.isList (by simp only [J1] <;> omega) ⟨.int ys.length,H,I.tok _,⟨s.toks+1,by rw [J1,hlen]⟩,q⟩
 ·obtain⟨its,r',pl,hz⟩:=I.tuple hq;have hlen:=r'.length;exact len_tuple pl (by simp only [J1] <;> omega) ⟨.int ys.length,H,I.tok _,⟨s.toks+1,by rw [J1,hlen]⟩,q⟩
theorem kr:bP X (.type "tuple") (λxs H Q=>∃ p ys,xs=[.ref p]/\((eH X.K H p ys/\∀ l,H l=none->Q (.ref l) (br H l (.tup ys)))\/(gZ X.K H p ys/\Q (.ref p) H))):=by
 intro K2 s σ H xs us Q I r h;obtain⟨p,ys,rfl,h⟩:=h;obtain⟨u,rfl,rx⟩:=pB r;cases rx;rcases h with ⟨hq,q⟩ | ⟨hq,q⟩
 ·obtain⟨its,r',pl,hz⟩:=I.list hq;have hlen:=r'.length;refine call_tuple_list pl.isList (λh' kp=>?_) (by simp only [J1] <;> omega)
  have I1:aE X K2 σ H {s with heap:=h'}:=I.kept (t':=s.toks) kp
  have I2:aE X K2 σ (br H h'.objs.size (.tup ys)) {s with heap:=h'.push {cls:=.type "tuple",data:=.seq its.toArray}}:=
   I1.laid (t':=s.toks) (λb o e=>pp _ e) (JX _) (show dy X.prog X.w _ _ _ (.tup ys) from⟨hz,its,r',IsTup.new _ _⟩)
  exact⟨.ref h'.objs.size,_,I2,rfl,q _ (I1.hok.fresh (JX _))⟩
 ·obtain⟨its,r',pl,hz⟩:=I.tuple hq;exact call_tuple_same pl ⟨.ref p,H,I,rfl,q⟩
def Iz (K:PySem.W.Frag) (T:KZ) (x:V) (H:Hp):Prop:=match x with
 | .str _=>T="str"
 | .int _=>T="int"
 | .ref p=>(T="list"/\∃ xs,eH K H p xs)\/(T="tuple"/\∃ o,K.lookup p=some o/\o.cls=.type "tuple"/\o.dict=none)\/
   (T="dict"/\((∃ kvs,H p=some (.dK kvs))\/∃ kvs,H p=some (.dT kvs)))\/(T="set"/\∃ S n,H p=some (.set S n))
 | _=>False
theorem zi {K2:List (KN×K1)} {σ:St} {H:Hp} {s:KL} {T:KZ} {x:V} {v:KM} (I:aE X K2 σ H s) (r:aW x v) (ty:Iz X.K T x H):
  s.TypeIs v T/\∀ a,v=.ref a->∃ ob,s.heap.get? a=some ob/\ob.dict=none:=by
 cases x with
 | str z=>
  obtain⟨t,rfl⟩:=r;cases (show T="str" from ty)
  exact⟨typeIs_str s z t,λ_ e=>nomatch e⟩
 | int i=>
  obtain⟨t,rfl⟩:=r;cases (show T="int" from ty)
  exact⟨typeIs_int s i t,λ_ e=>nomatch e⟩
 | ref p=>
  cases r;rcases ty with ⟨rfl,xs,hq⟩ | ⟨rfl,o,hk,hc,hd⟩ | ⟨rfl,hk⟩ | ⟨rfl,S,n,hk⟩
  ·obtain⟨its,_,pl,_⟩:=I.list hq;refine⟨pl.isList.typeIs,λa e=>?_⟩
   cases e;obtain⟨o,n,e,c,hd,_⟩:=pl;exact⟨o,e,hd⟩
  ·refine⟨⟨o,I.kIn p o hk,hc⟩,λa e=>?_⟩
   cases e;exact⟨o,I.kIn _ o hk,hd⟩
  ·have z:∃ o,s.heap.get? p=some o/\o.ExactDict:=by
    rcases hk with ⟨kvs,hk⟩ | ⟨kvs,hk⟩
    ·obtain⟨_,_,_,_,o,_,_,e,ex,_⟩:=I.hok p _ hk;exact⟨o,e,ex⟩
    ·obtain⟨_,_,_,_,o,_,_,e,ex,_⟩:=I.hok p _ hk;exact⟨o,e,ex⟩
   obtain⟨o,e,ex⟩:=z;refine⟨⟨o,e,ex.1⟩,λa e2=>?_⟩
   cases e2;exact⟨o,e,ex.2.1⟩
  ·obtain⟨o,_,_,_,e,ex,_⟩:=I.hok p _ hk;refine⟨⟨o,e,ex.1⟩,λa e2=>?_⟩
   cases e2;exact⟨o,e,ex.2.1⟩
 | _=>exact False.elim ty
def Iq (K:PySem.W.Frag) (T:KZ) (r:V->List V->Hp->VK->Prop) (to:TE):TE:=fun σ H Q=>to σ H λx H1=>Iz K T x H1/\r x [] H1 Q
def Jo (K:PySem.W.Frag) (T:KZ) (r:V->List V->Hp->VK->Prop) (to:TE) (t:TA):TE:=fun σ H Q=>to σ H λx H1=>Iz K T x H1/\t σ H1 λxs H2=>r x xs H2 Q
variable {o e:KP} {es:List KP} {to:TE} {t:TA} {name:Str} {apos cpos:Pos} {T id:KZ} {r:V->List V->Hp->VK->Prop}
theorem Dk (pa:PlainAttrs T) (slot:Slot T name id) (hty:typeOf (.builtin id)=pure (.type "method_descriptor")) (hm:Bu X id r) (ho:PE X o to)
  (hbase:attributeBase o name X.env (eval o X.env)=eval o X.env:=by rfl) (hline:(apos.endLine == cpos.line)=true:=by rfl):PE X (.Call (.Attribute o name apos) [] [] cpos) (Iq X.K T r to):=by
 intro K2 s σ H Q I h;refine wpAny_Call_method0_late hbase hline (bc (ho K2 s σ H _ I h) λv s1 z9=>?_)
 obtain⟨x,H1,I1,r1,ty,q1⟩:=z9;obtain⟨h1,h2⟩:=zi I1 r1 ty;exact⟨T,id,pa,slot,hty,h1,h2,Calls.callWith_builtin rfl (PySem.evalArgs_none (hm K2 s1 σ H1 x [] v [] Q I1 r1 .nil q1))⟩
theorem C5 (pa:PlainAttrs T) (slot:Slot T name id) (hty:typeOf (.builtin id)=pure (.type "method_descriptor")) (hm:Bu X id r) (ho:PE X o to) (ha:PA X (e::es) t)
  (hbase:attributeBase o name X.env (eval o X.env)=eval o X.env:=by rfl)
  (hfew:((backTo cpos (starEach (e::es) X.env)).all (λx=>!x.1) && (backToKw cpos (keywordEach [] X.env)).all (λx=>x.1.isSome)
   && decide ((e::es).length+([]:List Keyword).length+(if ([]:List Keyword).isEmpty then 0 else 1) < 30))=true:=by rfl)
  (hline:(apos.endLine == cpos.line)=true:=by rfl) (hs:starEach (e::es) X.env=(false,eval e X.env)::starEach es X.env:=by rfl) (hplain:(backTo cpos (starEach es X.env)).any (·.1)=false:=by rfl):
  PE X (.Call (.Attribute o name apos) (e::es) [] cpos) (Jo X.K T r to t):=by
 intro K2 s σ H Q I h;refine wpAny_Call_method_late hbase hfew hline rfl (bc (ho K2 s σ H _ I h) λv s1 z9=>?_)
 obtain⟨x,H1,I1,r1,ty,q1⟩:=z9;obtain⟨h1,h2⟩:=zi I1 r1 ty;refine⟨T,id,pa,slot,hty,h1,h2,?_⟩;have hA:=ha cpos K2 s1 σ H1 _ I1 q1;rw [hs] at hA ⊢;refine Calls.callWith_builtin (by show(false || (backTo cpos (starEach es X.env)).any (·.1))=false; rw [hplain] <;> rfl) (Calls.evalArgs_plain ?_)
 exact bc hA λus s2 z9=>by obtain⟨vs,H2,I2,r2,q2⟩:=z9; exact hm K2 s2 σ H2 x vs v us Q I2 r1 r2 q2
end
def Jv (X:Cx) (id:KZ) (r:V->List V->Hp->VK->Prop):Prop:=
 ∀ (K2:List (KN×K1)) (s:KL) (σ:St) (H:Hp) (x:V) (xs:List V) (v:KM) (us:List KM) (Q:VK),aE X K2 σ H s->aW x v->aV xs us->r x xs H Q->
  wpAny (model X.prog X.w) X.A (call (.builtin id) (v::us)) (EP X K2 σ Q) X.xe s
theorem aV.one:∀ {x:V} {us:List KM},aV [x] us->∃ u,us=[u]/\aW x u
 | _,_,.cons r .nil=>⟨_,rfl,r⟩
section
variable {X:Cx} {K2:List (KN×K1)} {σ:St} {H:Hp} {s:KL} {l b:KN} {xs ys zs:List V}
theorem aE.lset {its its':List KM} {n:Nat} {f:KW KM->KW KM} {t':Nat} (I:aE X K2 σ H s) (hH:H l=some (.lst xs))
  (e:s.heap.get? l=some {cls:=.type "list",data:=.seq its.toArray n}) (hf:f its.toArray=its'.toArray) (hv:aV ys its') (hz:ys.length<=sizeLine):
  aE X K2 σ (br H l (.lst ys)) {s with heap:=s.heap.update l (Obj.mapSeq f),toks:=t'}:=by
 have q:=PySem.IsL.update e f;rw [hf] at q;refine I.write (x:=l) (e:=l) (by rw [hH]; exact trivial) (.inl rfl) (λb' u hb hu=>(Heap.get?_update_other s.heap (Obj.mapSeq f) (Ne.symm hb)).trans hu) ⟨_,q⟩ ?_
 exact⟨hz,its',_,hv,q⟩
theorem aE.lnew {its:List KM} {t':Nat} (I:aE X K2 σ H s) (hv:aV ys its) (hz:ys.length<=sizeLine):
  aE X K2 σ (br H s.heap.objs.size (.lst ys)) {s with heap:=s.heap.push {cls:=.type "list",data:=.seq its.toArray},toks:=t'}:=
 I.laid (λ_ _ q=>pp _ q) (JX _) ⟨hz,its,0,hv,JV _ rfl⟩
theorem aE.fresh (I:aE X K2 σ H s):H s.heap.objs.size=none:=I.hok.fresh (JX _)
theorem aE.lstM (I:aE X K2 σ H s) (hH:H l=some (.lst xs)):xs.length<=sizeLine/\∃ (its:List KM) (n:Nat),aV xs its/\xs.length=its.length/\s.heap.get? l=some {cls:=.type "list",data:=.seq its.toArray n}:=by
 obtain⟨z,its,n,r,e⟩:=I.hok l _ hH;exact⟨z,its,n,r,r.length,e⟩
end
section
variable {X:Cx}
def BJ:V->List V->Hp->VK->Prop:=λx vs H Q=>∃ l xs y,x=.ref l/\vs=[y]/\H l=some (.lst xs)/\xs.length < sizeLine/\Q .non (br H l (.lst (xs++[y])))
theorem g9:Jv X "list.append" BJ:=by
 intro K2 s σ H x vs v us Q I rx rv h;obtain⟨l,xs,y,rfl,rfl,hH,hz,q⟩:=h;cases rx;obtain⟨u,rfl,ru⟩:=rv.one;obtain⟨z,its,n,r,hl,e⟩:=I.lstM hH;refine call_meets F.slot_list_append ⟨_,e,rfl⟩ F.entry_list_append (F.args_list_append_2 _ _) (PySem.list_append l its.toArray n u (by rw [J1]; omega)) ⟨e,?_⟩
 refine⟨.non,_,I.lset (its':=its++[u]) hH e (by simp) (r.append (.cons ru .nil)) ?_,rfl,q⟩
 rw [Kc,List.length_singleton];omega
def IG:R2:=λx y H Q=>∃ l b xs zs,x=.ref l/\y=.ref b/\H l=some (.lst xs)/\H b=some (.lst zs)/\xs.length+zs.length<=sizeLine/\∀ p,H p=none->Q (.ref p) (br H p (.lst (xs++zs)))
theorem Fh:cS X (binaryOp .Add) IG:=by
 intro K2 s σ H x y v u Q I rx ry h;obtain⟨l,b,xs,zs,rfl,rfl,hH,hB,hz,q⟩:=h;cases rx;cases ry;obtain⟨z,its,n,r,hl,e⟩:=I.lstM hH;obtain⟨z2,its2,n2,r2,hl2,e2⟩:=I.lstM hB;refine PySem.P.add_list e e2 ?_ (by rw [J1,J1]; omega)
 have ea:its.toArray++its2.toArray=(its++its2).toArray:=by simp
 rw [ea];exact⟨.ref _,_,I.lnew (t':=s.toks) (r.append r2) (by rw [Kc]; omega),rfl,q _ I.fresh⟩
end
section
variable {X:Cx} {K2:List (KN×K1)} {σ:St} {H:Hp} {s:KL} {a:KN} {y v:V} {u r:KM} {o:KO V} {A:KR} {E:KM->KL->Prop}
theorem aE.big (I:aE X K2 σ H s):sysModules < s.heap.objs.size:=by
 have h:mainGlobals < s.heap.objs.size:=(I.mod.glob.keeps I.bk).lt;exact Nat.lt_trans (by decide) h
theorem wV {h':KT} {t':Nat} {ob:HO} (I:aE X K2 σ H s) (mu:Hi (H a)) (hs:Heap.SameBut a s.heap h') (he:∃ q,h'.get? a=some q) (new:dy X.prog X.w (br H a ob) h' a ob):
  aE X K2 σ (br H a ob) {s with heap:=h',toks:=t'}:=
 I.write (x:=a) (e:=a) mu (.inl rfl) (λb q hb z=>(hs.2 b hb).trans z) he new
end
def Et (i:KP):Prop:=∀ ov iv,subscripted i false ov iv=operate [ov,iv] (getItem ov iv)
theorem B_ {prog:KQ} {w:KS} {A:KR} {E:KM->KL->Prop} {s:KL} {env:Env} {value slice:KP} {pos:Pos} {T id:KZ} {Q:KM->KL->Prop}
  (hl:typeLookup (.type T) "__getitem__"=pure (some (.builtin id))) (hs:Et slice)
  (h:wpAny (model prog w) A (eval value env) (λo s₁=>wpAny (model prog w) A (eval slice env) (λi s₂=>s₂.TypeIs o T/\wpAny (model prog w) A (getItem o i) Q E s₂) E s₁) E s):
  wpAny (model prog w) A (eval (.Subscript value slice pos) env) Q E s:=by
 refine Subscript_ (Km h (λo s₁ h₁=>Km h₁ (λi s₂ h₂=>?_) λ_ _ x=>x) λ_ _ x=>x)
 obtain⟨hT,h₂⟩:=h₂;unfold subscriptTail;refine gt ?_;rw [getitemInPython_of_ne hT.not_modules];refine gt (wpAny_specialOf hT hl ?_);have fin:wpAny (model prog w) A (subscripted slice false o i) (λr s₃=>wpAny (model prog w) A (letTemporaryGo value o r >>= λ_=>pure r) Q E s₃) E s₂:=by
  rw [hs o i];exact wpAny_operating (Km h₂ (λr s₃ h₃=>gt (wpAny_letTemporaryGo (JU h₃))) λ_ _ x=>x)
 first
  | exact JU (gt fin)
  | exact gt (JU (gt fin))
  | exact gt fin
abbrev VV:List (V×V)->List (KM×KM)->Prop:=Paired λp q=>aW p.1 q.1/\aW p.2 q.2
def bA (H:Hp) (a:KN):Prop:=(∃ kvs,Rd H a (.dK kvs))\/∃ kvs,Rd H a (.dT kvs)
end L2
namespace Att
open PySem PySem.W PySem.Calls PyProof.Rows
theorem oh {P:Params} {h:KT}:∀ (ns:List Int) (vs:List KM),WellAll P h vs (ns.map WData.int)->IntsAre vs ns:=by
 intro ns
 induction ns with
 | nil=>
  intro vs w;rw [List.map_nil] at w;cases w;exact .nil
 | cons n ns ih=>
  intro vs w;rw [J8] at w;cases w with
  | cons a b=>
   cases a;exact .cons _ _ (ih _ b)
theorem x_ {l:OpenLaw} {n:Nat} (hn:l.most=some n) {P:Params} {h:KT} {args:List WData} {vals:List KM}
  (hpre:l.row.toRowW.claim.pre args=true) (hwl:WellAll P h vals args):
  ∃ a vs ns,vals=[Value.ref a]/\args=[WData.list (ns.map WData.int)]/\h.get? a=some {cls:=.type "list",data:=.seq vs.toArray}/\IntsAre vs ns/\ns.length<=n:=by
 have hsh:WShape.hasAll [] args [.list .int]=true:=(pre_splitW hpre).1;have hc:l.pre.holds [] {args:=args}=true:=(pre_splitW hpre).2;obtain⟨d,r,rfl,h1,h2⟩:=hasAllW_cons hsh;obtain rfl:=hasAllW_nil h2;obtain⟨xs,rfl,h3⟩:=hasW_list h1;obtain⟨ns,rfl⟩:=items_int h3;have hlen:ns.length<=n:=by
  unfold OpenLaw.pre at hc;have h4:(WTm.not (.lt (.lit (.int (n:Int))) (.len (.arg 0)))).holds [] {args:=[.list (ns.map .int)]}=true:=by
   have h4:=(holds_andW hc).1;rw [hn] at h4;exact h4
  have h5:=condW_of h4 (w_not (w_lt w_lit (w_len_list (w_arg rfl))));rw [JZ] at h5;refine Nat.le_of_not_lt λq=>?_
  have q':(n:Int) < ((ns.length:Nat):Int):=by omega
  first
   | (rw [decide_eq_true q'] at h5; exact absurd h5 (by decide))
   | (simp at h5; omega)
 cases hwl with
 | cons w1 w2=>
  cases w2;cases w1 with
  | list ho hall=>exact⟨_,_,ns,rfl,rfl,ho,oh ns _ hall,hlen⟩
theorem yj (l:OpenLaw) (args:List WData):l.row.toRowW.claim.post args (.bool true) args=true:=
 postW_of (r:=l.row.toRowW) (X:=(true == true))
  (show WShape.has [] (.bool true) .bool=true by first | rfl | decide | simp [WShape.has,WShape.arms,WShape.armsAll])
  (show (WTm.eq .res (.lit (.bool true))).value [] {args:=args,res:=some (.bool true),after:=args}=some (.bool (true == true)) from w_eq_bool (w_res rfl) w_lit) rfl
theorem attach_call {l:OpenLaw} {n:Nat} {q:KQ} {loose:List Str} {XP:(Str->KO KM)->KT->Prop} {YP:KS->KT->Prop} {d:DefRec}
  (hn:l.most=some n) (hdf:d.params.defaults=[])
  (call:∀ (w:KS) (s₀ s₁:KL) (mg mb:Str->KO KM) (fa:KN) (o:K1) (pm cd doc:KM) (a:KN) (vs:List KM) (ns:List Int),
   Ground q loose [] XP w s₀ mg mb s₁.heap->YP w s₁.heap->
   s₁.heap.get? fa=some o->o.data=.func (docDef d.name d.params d.body d.scope pm cd doc)->s₁.heap.CodeRec cd d.name->mg d.name=some (.ref fa)->
   s₁.heap.get? a=some {cls:=.type "list",data:=.seq vs.toArray}->IntsAre vs ns->ns.length<=n->s₁.gens=#[]->
   codeAny (model l.prog w) callerA (.call (.ref fa) ⟨[.ref a],[]⟩) (λr s'=>r=.ok (.ret (.bool true))/\OldK s₁.heap s'.heap/\s'.os=s₁.os/\AllBare s'.gens) s₁):
  WalkO q loose XP YP l.row.toRowW d [] (λf vs=>PySem.call f vs):=by
 intro w s₀ s₁ mg mb G Y fa o pm cd doc dV kV ho hd hcd hD hmg hg args vals as hpre hlay hrd hwl hlo;obtain rfl:dV=.none:=Dflts.none hD hdf;obtain rfl:kV=.none:=Dflts.noKw hD;obtain⟨a,vs,ns,rfl,rfl,hobj,hints,hlen⟩:=x_ hn hpre hwl;refine enter_call (codeAny_mono (call w s₀ s₁ mg mb fa o pm cd doc a vs ns G Y ho (fd_plain hd) hcd hmg hobj hints hlen hg) λr s' hq=>?_)
 obtain⟨rfl,h2,h3,h4⟩:=hq;exact⟨.inl ⟨.bool true,.bool true,[],rfl,λ_=>rfl,.bool true,yj l _,λ_=>⟨List.Pairwise.nil,λ_ hm=>(nomatch hm)⟩⟩,h2,h3,h4⟩
section
variable {prog:KQ} {w:KS} {A:KR} {E:KM->KL->Prop} {s:KL} {K:Frag}
def Ip (h:KT) (L d:KN):List (KN×K1):=(List.range h.objs.size).filterMap λa=>if a=L\/a=d then none else(h.get? a).map λo=>(a,o)
end
end Att
namespace L2
open PySem PySem.Spec PyProof.Rows
theorem rF:∀ {vs:List KM} {ns:List Int},IntsAre vs ns->aV (ns.map V.int) vs
 | _,_,.nil=>.nil
 | _,_,.cons n t h=>.cons ⟨t,rfl⟩ (rF h)
def Bn (H:Hp):Prop:=∀ b,H b=none\/∃ o xs,H b=some (.frz o (.lst xs))
theorem yW {P:KQ} {w:KS} {K:PySem.W.Frag} {mg mb:Str->KO KM} {CX:Bg} {k:Nat} {fa a:KN} {fd:FuncData} {x:Str} {sp:Sp} {s₁:KL} {vs:List KM} {ns:List Int}
  (KX:K.In s₁.heap) (hns:s₁.heap.Ns mainGlobals mg) (hb:s₁.heap.Ns builtinsNs mb) (hbb:∀ x:Str,x≠"__name__"->mb x=bootBuiltins x) (hlim:s₁.heap.NoLimit) (hg:s₁.gens=#[])
  (ha:s₁.heap.get? a=some {cls:=.type "list",data:=.seq vs.toArray}) (hi:IntsAre vs ns) (hl:ns.length<=sizeLine) (hr:cv k callerA)
  (F:∀ base:KT,K.In base->base.Ns mainGlobals mg->aQ P w K mg base CX k fa fd [x] sp) (hbind:∀ (s:KL) (u:KM),BindsTo s fd ⟨[u],[]⟩ [(x,u)])
  (hsp:∀ H:Hp,Bn H->eH K H a (ns.map V.int)->sp [.ref a] H (λv _=>v=.bl true) λ_ _ _=>False)
  (hCX:∀ H e s',CX [] H s₁ (λ_ _ _=>False) e s'->False):
  codeAny (model P w) callerA (.call (.ref fa) ⟨[.ref a],[]⟩) (λr s'=>r=.ok (.ret (.bool true))/\OldK s₁.heap s'.heap/\s'.os=s₁.os/\AllBare s'.gens) s₁:=by
 have rv:=rF hi;have lenV:=hi.length;have core:∀ H:Hp,Bn H->eH K H a (ns.map V.int)->nZ P w H s₁.heap->(∀ b,H b≠none->b=a)->(H a≠none->K.lookup a=none)->
   codeAny (model P w) callerA (.call (.ref fa) ⟨[.ref a],[]⟩) (λr s'=>r=.ok (.ret (.bool true))/\OldK s₁.heap s'.heap/\s'.os=s₁.os/\AllBare s'.gens) s₁:=by
  intro H hO hS hok hA hK;have base_of:∀ {b:KN} {o:K1},s₁.heap.get? b=some o->H b=none->(rL s₁.heap H).get? b=some o:=λe n=>Aq e n
  have noA:∀ {b:KN} {o:K1} {es:KW K0} {ep:Nat},s₁.heap.get? b=some o->o.data=.dict es ep->H b=none:=λ{b o es ep} e d=>by
   cases q:H b with
   | none=>rfl
   | some u=>
    have e':b=a:=hA b (by rw [q]; simp)
    subst e';rw [ha] at e; cases e
    have d':Data.seq vs.toArray _=Data.dict es ep:=d;cases d'
  have nsK:∀ {b:KN} {m:Str->KO KM},s₁.heap.Ns b m->(rL s₁.heap H).Ns b m:=λ{b m} ⟨o,es,ep,e,d,r⟩=>⟨o,es,ep,base_of e (noA e d),d,r⟩
  have hKb:K.In (rL s₁.heap H):=λb o e=>base_of (KX b o e) (by
   cases q:H b with
   | none=>rfl
   | some u=>
    have e':b=a:=hA b (by rw [q]; simp)
    subst e';rw [hK (by rw [q]; simp)] at e; cases e)
  have hM:Mod K mg (rL s₁.heap H):=⟨hKb,nsK hns,⟨mb,nsK hb,hbb⟩,let ⟨mc,h1,h2⟩:=hlim; ⟨mc,nsK h1,h2⟩⟩
  have e0:BF P w K mg (rL s₁.heap H) callerA [] s₁ H:=⟨rfl,hM,λb o e=>Cy e,Nat.le_of_eq (xO _ _),trivial,λb hb=>absurd (show b∈([]:List KN) from hb) (by simp),hok,.of_eq hg⟩
  refine codeAny_mono ((F _ hKb (nsK hns)).run callerA [] s₁ H ⟨[.ref a],[]⟩ [.ref a] [.ref a] _ _ hr e0 (hbind s₁ (.ref a)) (.cons rfl .nil) (hsp H hO hS)) λr s' h=>?_
  cases r with
  | error e=>exact(hCX H e s' h).elim
  | ok fl=>
   cases fl with
   | next=>exact False.elim h
   | brk=>exact False.elim h
   | cont=>exact False.elim h
   | ret u=>
    obtain⟨v,H',os,bare,un,hok',r',q⟩:=h;have q':v=.bl true:=q;subst q';obtain rfl:u=Value.bool true:=r';refine⟨rfl,OldK.of_keep λb o e=>?_,os,bare⟩
    cases q:H b with
    | none=>exact un.keep b o e q (by intro z; exact absurd (show b∈([]:List KN) from z) (by simp)) (by simp)
    | some u=>
     rcases hO b with z | ⟨ob,xs,z⟩
     ·rw [q] at z; cases z
     ·have z2:=un.frzs b ob _ z;obtain⟨e1,_⟩:=hok b _ z;obtain⟨e2,_⟩:=hok' b _ z2;rw [e] at e1; cases e1
      exact e2
 cases hk:K.lookup a with
 | some o=>
  have e:=KX a o hk;rw [ha] at e;cases e;refine core (λ_=>none) (λ_=>.inl rfl) (.inr ⟨_,vs.toArray,_,hk,rfl,rfl,rfl,by rw [J1,lenV]; exact hl,by simpa using rv⟩) (λb u z=>by have z':(none:KO HO)=some u:=z; cases z') (λb z=>absurd rfl z) λz=>absurd rfl z
 | none=>
  refine core (λb=>if b=a then some (.frz {cls:=.type "list",data:=.seq vs.toArray} (.lst (ns.map V.int))) else none) (λb=>?_) (.inl (.inr ⟨{cls:=.type "list",data:=.seq vs.toArray},if_pos rfl⟩)) (λb u z=>?_) (λb z=>?_) λ_=>hk
  ·by_cases hb:b=a
   ·exact .inr ⟨_,_,if_pos hb⟩
   ·exact .inl (if_neg hb)
  ·by_cases hb:b=a
   ·have z':=(if_pos hb).symm.trans z;cases z';subst hb;exact⟨ha,by rw [JZ]; exact hl,vs,_,rv,ha⟩
   ·have z':=(if_neg hb).symm.trans z;cases z'
  ·by_cases hb:b=a
   ·exact hb
   ·exact absurd (if_neg hb) z
abbrev JT {K:PySem.W.Frag} {h:KT} (_:K.In h):PySem.W.Frag:=K
theorem Cf {l:PySem.W.OpenLaw} {n k:Nat} {q:KQ} {loose:List Str} {XP:(Str->KO KM)->KT->Prop} {YP:KS->KT->Prop} {d:DefRec} {K:Params->PySem.W.Frag} {CX:KS->Bg} {sp:KS->Sp} {x:Str}
  (hn:l.most=some n) (hn2:n<=sizeLine) (hdf:d.params.defaults=[]) (hr:cv k callerA)
  (hY:∀ (w:KS) (h:KT),YP w h->(K w.params).In h)
  (F:∀ (w:KS) (mg:Str->KO KM) (fa:KN) (h:KT),(K w.params).In h->h.Ns mainGlobals mg->mg d.name=some (.ref fa)->
   ∃ fd:FuncData,(∀ (s:KL) (u:KM),BindsTo s fd ⟨[u],[]⟩ [(x,u)])/\
    ∀ base:KT,(K w.params).In base->base.Ns mainGlobals mg->aQ l.prog w (K w.params) mg base (CX w) k fa fd [x] (sp w))
  (hsp:∀ (w:KS) (H:Hp) (a:KN) (ns:List Int),ns.length<=n->Bn H->eH (K w.params) H a (ns.map V.int)->sp w [.ref a] H (λv _=>v=.bl true) λ_ _ _=>False)
  (hCX:∀ (w:KS) (H:Hp) (s:KL) (e:KM) (s':KL),CX w [] H s (λ_ _ _=>False) e s'->False):
  PySem.W.WalkO q loose XP YP l.row.toRowW d [] (λf vs=>PySem.call f vs):=by
 refine Att.attach_call hn hdf λw s₀ s₁ mg mb fa o pm cd doc a vs ns G Y ho hd hcd hmg hobj hints hlen hg=>?_
 have KX:=hY w _ Y;obtain⟨fd,hb,hF⟩:=F w mg fa _ KX G.T.g hmg;exact yW KX G.T.g G.T.b G.T.builtins G.T.nolimit hg hobj hints (Kn hlen hn2) hr hF hb (λH hO hS=>hsp w H a ns hlen hO hS) λH e s'=>hCX w H s₁ e s'
def eD (s:KU):Arguments:=match s with
 | .FunctionDef _ a _ _ _ _ _ _ _ _=>a
 | _=>{posonlyargs:=[],args:=[],vararg:=none,kwonlyargs:=[],kw_defaults:=[],kwarg:=none,defaults:=[]}
def cN (s:KU):List KU:=match s with
 | .FunctionDef _ _ b _ _ _ _ _ _ _=>b
 | _=>[]
def aj (s:KU):Scope:=match s with
 | .FunctionDef _ _ _ _ _ _ sc _ _ _=>sc
 | _=>{kind:=.function,names:=[],isGenerator:=false,isCoroutine:=false}
abbrev b8:Bg:=λ_ _ _ _ _ _=>False
abbrev E0:XK:=λ_ _ _=>False
theorem G_ {X:Cx}:vx b8 X E0:=λ_ _ _ _ _ _ _ h=>h.elim
structure xP (K:PySem.W.Frag) (x K3:Str) (st:KU) (f:KN) (fd:FuncData):Prop where
 ex:∃ (oc:KM) (od:KO KN) (kV doc pm:KM) (an:KO KN) (cdv ct:KM) (osl:KW (KO KM)),
  fd=PySem.W.fnOf x K3 (eD st) (cN st) (aj st) .none kV doc pm an cdv ct/\K.lookup f=some ⟨oc,od,.func fd,osl⟩/\PySem.W.codeIn K cdv K3=true
 kp:PySem.W.keepIn K (.ref f)=true
section
variable {P:KQ} {w:KS} {K:PySem.W.Frag} {mg:Str->KO KM} {base:KT}
theorem xP.ok {x K3:Str} {st:KU} {f:KN} {fd:FuncData} {N ps:List Str} {k:Nat} {sp:Sp} (F:xP K x K3 st f fd) (S:ao N ps (aj st)) (len:∀ vs H Q E,sp vs H Q E->vs.length=ps.length)
  (hbody:∀ (cdv:KM) (A:KR) (outer:List Env) (s:KL) (H:Hp) (vs:List V) (Q:VK) (E:XK),cv k (A.deeper (envOfC K3 (aj st) s.heap.objs.size f cdv))->sp vs H Q E->
   ∃ t,rC (uu b8 P w K mg base N K3 (aj st) f cdv A outer s H E).nox (cN st) t/\t {nx:=λ_ H'=>Q .non H',rt:=Q} (start N vs) H):aQ P w K mg base b8 (k+1) f fd ps sp:=by
 obtain⟨oc,od,kV,doc,pm,an,cdv,ct,osl,rfl,lk,hcd⟩:=F.ex;refine GT lk hcd S len λA outer s H vs Q E hr hsp=>?_
 obtain⟨t,h,q⟩:=hbody cdv A outer s H vs Q E hr hsp;exact⟨t,h.nox,q⟩
theorem xP.binds {x K3:Str} {st:KU} {f:KN} {fd:FuncData} {ps:List Str} (F:xP K x K3 st f fd)
  (h:∀ (kV doc pm:KM) (an:KO KN) (cdv ct:KM) (us:List KM),us.length=ps.length->bindArgs (PySem.W.fnOf x K3 (eD st) (cN st) (aj st) .none kV doc pm an cdv ct) ⟨us,[]⟩=pure (ps.zip us)):pC K fd ps []:=by
 obtain⟨oc,od,kV,doc,pm,an,cdv,ct,osl,rfl,lk,hcd⟩:=F.ex;exact .all (h kV doc pm an cdv ct)
theorem Ay {x K3:Str} {st:KU} {f:KN} {oc:KM} {od an:KO KN} {osl:KW (KO KM)} {kV doc pm cdv ct:KM} (l:K.lookup f=some ⟨oc,od,.func (PySem.W.fnOf x K3 (eD st) (cN st) (aj st) .none kV doc pm an cdv ct),osl⟩)
  (c:PySem.W.codeIn K cdv K3=true) (k:PySem.W.keepIn K (.ref f)=true):xP K x K3 st f (PySem.W.fnOf x K3 (eD st) (cN st) (aj st) .none kV doc pm an cdv ct):=⟨⟨oc,od,kV,doc,pm,an,cdv,ct,osl,rfl,l,c⟩,k⟩
end
theorem Ch {A B:Prop} (h:B):if false=true then A else B:=by
 rw [if_neg J0];exact h
theorem wa {A B:Prop} (h:A):if true=true then A else B:=by
 rw [if_pos rfl];exact h
end L2
set_option linter.all false
namespace HM
theorem uA (a b:Int):Int.gcd b (a.fmod b)=Int.gcd a b:=by
 have h:=Int.gcd_sub_mul_right_right b a (a.fdiv b);rw [Int.fmod_def,Int.mul_comm b,h,Int.gcd_comm]
theorem wA (a b:Int) (h:b≠0):(a.fmod b).natAbs < b.natAbs:=by
 rcases Int.lt_or_gt_of_ne h with hb | hb
 ·have e:a.fmod b=-((-a).fmod (-b)):=by rw [Int.neg_fmod_neg,Int.neg_neg]
  have h1:=Kv (-a) (show 0 < -b by omega)
  have h2:=KH (-a) (show 0 < -b by omega)
  omega
 ·have h1:=Kv a hb;have h2:=KH a hb;omega
theorem uF (a:Int):((Int.gcd a 0:Nat):Int)=if a < 0 then -a else a:=by
 rw [Int.gcd_zero_right]
 split <;> omega
def yq (t b:Int):Int:=if b < 0 then -((Int.gcd t b:Nat):Int) else((Int.gcd t b:Nat):Int)
theorem Ba {t b:Int} (h:b≠0):yq t b≠0:=by
 have h1:Int.gcd t b≠0:=λe=>h (Int.gcd_eq_zero_iff.mp e).2
 unfold yq
 split <;> omega
theorem se {t b:Int} (h:b≠0):t.fdiv (yq t b)=(Rat.divInt t b).num:=by
 have hg:((Int.gcd t b:Nat):Int) ∣ t:=Int.gcd_dvd_left t b;rw [Rat.num_divInt,Int.gcd_comm b t];unfold yq;rcases Int.lt_or_gt_of_ne h with hb | hb
 ·rw [if_pos hb,Int.sign_eq_neg_one_of_neg hb,Int.fdiv_eq_ediv_of_dvd (Int.neg_dvd.mpr hg),Int.ediv_neg,Int.neg_mul,Int.one_mul,Int.neg_ediv_of_dvd hg]
 ·rw [if_neg (by omega),Int.sign_eq_one_of_pos hb,Int.fdiv_eq_ediv_of_dvd hg,Int.one_mul]
theorem sB {t b:Int} (h:b≠0):b.fdiv (yq t b)=((Rat.divInt t b).den:Int):=by
 have hg:((Int.gcd t b:Nat):Int) ∣ b:=Int.gcd_dvd_right t b;rw [Rat.den_divInt,Int.gcd_comm b t,if_neg h];unfold yq;rcases Int.lt_or_gt_of_ne h with hb | hb
 ·rw [if_pos hb,Int.fdiv_eq_ediv_of_dvd (Int.neg_dvd.mpr hg),Int.ediv_neg,Int.natCast_ediv];rw [show ((b.natAbs:Nat):Int)=-b by omega,Int.neg_ediv_of_dvd hg]
 ·rw [if_neg (by omega),Int.fdiv_eq_ediv_of_dvd hg,Int.natCast_ediv]
  rw [show ((b.natAbs:Nat):Int)=b by omega]
theorem Fo (a b:Rat):Rat.divInt (a.num*b.den+b.num*a.den) (a.den*b.den)=a+b:=by
 rw [Rat.add_def',Rat.mkRat_eq_div,Rat.divInt_eq_div]; simp [Rat.intCast_natCast]
theorem wb (a b:Rat):Rat.divInt (a.num*b.num) (a.den*b.den)=a*b:=by
 rw [Rat.mul_def',Rat.mkRat_eq_div,Rat.divInt_eq_div]; simp [Rat.intCast_natCast]
theorem AZ (a b:Rat):Rat.divInt (a.num*b.den) (a.den*b.num)=a / b:=by
 rw [Rat.div_def,<- Rat.num_divInt_den b,Rat.inv_divInt]
 conv=>rhs; rw [<- Rat.num_divInt_den a]
 rw [Rat.divInt_mul_divInt,Rat.num_divInt_den]
def iJ:Nat->Nat
 | 0=>0
 | n+1=>if (iJ n+1)*(iJ n+1)<=n+1 then iJ n+1 else iJ n
theorem rG:∀ n,iJ n*iJ n<=n/\n < (iJ n+1)*(iJ n+1)
 | 0=>by decide
 | n+1=>by
  obtain⟨h1,h2⟩:=rG n;unfold iJ
  split
  ·rename_i h
   refine⟨h,?_⟩;have:(iJ n+1+1)*(iJ n+1+1)=(iJ n+1)*(iJ n+1)+2*(iJ n+1)+1:=by grind
   omega
  ·rename_i h
   exact⟨Nat.le_succ_of_le h1,Nat.lt_of_not_le h⟩
def jo (n:Int):Int:=(iJ n.toNat:Nat)
structure Rt (n r:Int):Prop where
 nn:0<=r
 le:r*r<=n
 lt:n < (r+1)*(r+1)
theorem jW {n:Int} (h:0<=n):Rt n (jo n):=by
 obtain⟨h1,h2⟩:=rG n.toNat;refine⟨by unfold jo; omega,?_,?_⟩
 ·unfold jo;have:((iJ n.toNat*iJ n.toNat:Nat):Int)<=(n.toNat:Int):=Int.ofNat_le.mpr h1;rw [Int.natCast_mul] at this;omega
 ·unfold jo;have:((n.toNat:Nat):Int) < (((iJ n.toNat+1)*(iJ n.toNat+1):Nat):Int):=Int.ofNat_lt.mpr h2;rw [Int.natCast_mul,Int.natCast_add] at this;rw [show ((n.toNat:Nat):Int)=n by omega] at this
  exact this
theorem lS {a b:Int} (ha:0<=a) (h:a<=b):a*a<=b*b:=Int.mul_le_mul h h ha (by omega)
theorem Rt.le_of {n r x:Int} (h:Rt n r) (hx:x*x<=n):x<=r:=by
 apply Int.not_lt.mp;intro hl;have:=lS (a:=r+1) (b:=x) (by have:=h.nn; omega) (by omega)
 have:=h.lt;omega
theorem Rt.uniq {n r q:Int} (h:Rt n r) (h':Rt n q):r=q:=Int.le_antisymm (h'.le_of h.le) (h.le_of h'.le)
theorem A0 {n r:Int} (h:Rt n r):jo n=r:=(jW (Int.le_trans (by have:=lS (Int.le_refl 0) h.nn; omega) h.le)).uniq h
theorem yD {n x:Int} (e:x*x=n):jo n*jo n=n:=by
 have h:Rt n x.natAbs:=by
  refine⟨by omega,?_,?_⟩
  ·rw [Int.natAbs_mul_self' x]; omega
  ·have:((x.natAbs:Int)+1)*((x.natAbs:Int)+1)=(x.natAbs:Int)*(x.natAbs:Int)+2*x.natAbs+1:=by grind
   rw [Int.natAbs_mul_self' x] at this;omega
 rw [A0 h,Int.natAbs_mul_self' x];exact e
theorem xX {n g r:Int} (hg:0 < g) (hr:0<=r) (h:r*r<=n):r<=(g+n / g) / 2:=by
 apply Int.not_lt.mp;intro hl;have h1:g+n / g+1<=2*r:=by omega
 have hn:0<=n:=by have:=lS (Int.le_refl 0) hr; omega
 have hq:0<=n / g:=Int.ediv_nonneg hn (by omega)
 have h2:=lS (a:=g+n / g+1) (b:=2*r) (by omega) h1
 have h3:n < (n / g+1)*g:=by
  have:=Int.lt_ediv_add_one_mul_self n hg;exact this
 have h4:0<=(g - (n / g+1))*(g - (n / g+1)):=by
  rw [<- Int.natAbs_mul_self' (g - (n / g+1))]; exact Int.natCast_nonneg _
 generalize n / g=q at*
 grind
theorem ya {n g r:Int} (hn:0<=n) (h:Rt n r) (hg:r < g):(g+n / g) / 2 < g:=by
 have h0:=h.nn;have h1:n / g < r+1:=by
  apply Int.ediv_lt_of_lt_mul (by omega)
  have:=h.lt;have h2:(r+1)*(r+1)<=(r+1)*g:=Int.mul_le_mul_of_nonneg_left (by omega) (by omega)
  omega
 omega
def Bt (n:Nat) (x:Int):Prop:=x.natAbs < 2 ^ n
theorem oU {m n:Nat} (h:m<=n):2 ^ m<=2 ^ n:=Nat.pow_le_pow_right (by decide) h
theorem Bt.mono {m n:Nat} {x:Int} (h:Bt m x) (hm:m<=n):Bt n x:=J6 h (oU hm)
theorem Bt.mul {m n:Nat} {x y:Int} (hx:Bt m x) (hy:Bt n y):Bt (m+n) (x*y):=by
 unfold Bt at*
 rw [Int.natAbs_mul,Nat.pow_add];exact Nat.mul_lt_mul'' hx hy
theorem Bt.neg {m:Nat} {x:Int} (hx:Bt m x):Bt m (-x):=by unfold Bt at *; omega
theorem Bt.le {m:Nat} {x y:Int} (hx:Bt m x) (h:y.natAbs<=x.natAbs):Bt m y:=Nat.lt_of_le_of_lt h hx
structure Sz (n:Nat) (q:Rat):Prop where
 num:Bt n q.num
 den:Bt n q.den
theorem Sz.mono {m n:Nat} {q:Rat} (h:Sz m q) (hm:m<=n):Sz n q:=⟨h.num.mono hm,h.den.mono hm⟩
theorem jY:∀ a b:Int,(a.fdiv b).natAbs<=a.natAbs
 | .ofNat 0,b=>by
  have e:Int.fdiv (.ofNat 0) b=0:=Int.zero_fdiv b;rw [e]; exact Kz _
 | .ofNat (k+1),.ofNat j=>Nat.div_le_self (k+1) j
 | .ofNat (k+1),.negSucc j=>Nat.succ_le_succ (Nat.div_le_self k (j+1))
 | .negSucc _,.ofNat 0=>Kz _
 | .negSucc k,.ofNat (j+1)=>Nat.succ_le_succ (Nat.div_le_self k (j+1))
 | .negSucc k,.negSucc j=>Nat.div_le_self (k+1) (j+1)
theorem Sz.divInt {n:Nat} {t b:Int} (ht:Bt n t) (hb:Bt n b) (h:b≠0):Sz n (Rat.divInt t b):=
 ⟨by rw [<- se h]; exact ht.le (jY _ _),by rw [<- sB h]; exact hb.le (jY _ _)⟩
theorem sx (q:Rat):(q.den:Int)≠0:=by have:=q.den_nz; omega
theorem fN (p q:Rat):(p.den:Int)*q.den≠0:=Int.mul_ne_zero (sx p) (sx q)
theorem Sz.mul {m n:Nat} {a b:Rat} (ha:Sz m a) (hb:Sz n b):Sz (m+n) (a*b):=by
 rw [<- wb];exact .divInt (ha.num.mul hb.num) (ha.den.mul hb.den) (fN a b)
theorem iB {q:Rat} (h:q≠0):q.num≠0:=λe=>h (Rat.num_eq_zero.mp e)
theorem Sz.div {m n:Nat} {a b:Rat} (ha:Sz m a) (hb:Sz n b) (h:b≠0):Sz (m+n) (a / b):=by
 rw [<- AZ];exact .divInt (ha.num.mul hb.den) (ha.den.mul hb.num) (Int.mul_ne_zero (sx a) (iB h))
theorem Sz.neg {m:Nat} {a:Rat} (ha:Sz m a):Sz m (-a):=⟨by rw [Rat.neg_num]; exact ha.num.neg,by rw [Rat.neg_den]; exact ha.den⟩
theorem u9 (r:Rat):(r*r).num=r.num*r.num:=by
 have h:=Rat.num_pow r 2;rw [show r ^ 2=r*r by grind,show r.num ^ 2=r.num*r.num by grind] at h
 exact h
theorem vg (r:Rat):(r*r).den=r.den*r.den:=by
 have h:=Rat.den_pow r 2;rw [show r ^ 2=r*r by grind,show r.den ^ 2=r.den*r.den by grind] at h
 exact h
def Ap (u:Rat):Prop:=∀ r:Rat,r*r≠u
theorem DD {n:Int} (h:0<=n):jo n<=n:=by
 have rt:=jW h;have h0:=rt.nn;have h1:=rt.le;rcases Int.lt_or_le (jo n) 1 with h2 | h2
 ·omega
 ·have:jo n*1<=jo n*jo n:=Int.mul_le_mul_of_nonneg_left h2 h0;omega
theorem EH {n:Int} {m:Nat} (h:0<=n) (hb:Bt m n):Bt m (jo n):=hb.le (by have:=DD h; have:=(jW h).nn; omega)
theorem Aj:jo 0=0:=by decide
structure Gd (n g:Int):Prop where
 pos:0 < g
 ge:jo n<=g
 bt:Bt 2002 g
theorem qO (a:Int) {b:Int} (h:0 < b):a.fdiv b=a / b:=Int.fdiv_eq_ediv_of_nonneg a (by omega)
theorem Gd.next {n g:Int} (h0:1<=n) (h:Gd n g) (hl:(g+n.fdiv g).fdiv 2 < g):Gd n ((g+n.fdiv g).fdiv 2):=by
 have rt:=jW (n:=n) (by omega)
 have r1:1<=jo n:=rt.le_of (by omega)
 rw [qO _ (by decide),qO _ h.pos] at hl ⊢
 have h1:=xX h.pos rt.nn rt.le;exact⟨by omega,h1,h.bt.le (by have:=h.pos; omega)⟩
theorem Gd.last {n g:Int} (h0:1<=n) (h:Gd n g) (hl:¬ (g+n.fdiv g).fdiv 2 < g):g=jo n:=by
 have rt:=jW (n:=n) (by omega)
 rw [qO _ (by decide),qO _ h.pos] at hl
 have h1:=h.ge;rcases Int.lt_or_le (jo n) g with h2 | h2
 ·exact absurd (ya (by omega) rt h2) hl
 ·omega
theorem Gd.first {n:Int} {b:Nat} (h0:1<=n) (hn:n.natAbs < 2 ^ b) (hb:b<=4000):Gd n ((1:Int)*2 ^ ((((b:Nat):Int)+1).fdiv 2).toNat):=by
 have e:((((b:Nat):Int)+1).fdiv 2).toNat=(b+1) / 2:=by rw [qO _ (by decide)]; omega
 rw [e,Int.one_mul];have hp:(0:Int) < 2 ^ ((b+1) / 2):=Int.pow_pos (by decide)
 have rt:=jW (n:=n) (by omega)
 refine⟨hp,?_,?_⟩
 ·apply Int.not_lt.mp;intro hl;have h1:=lS (Int.le_of_lt hp) (Int.le_of_lt hl);have h2:=rt.le;have h3:(2:Int) ^ ((b+1) / 2)*2 ^ ((b+1) / 2)=2 ^ ((b+1) / 2+(b+1) / 2):=(Int.pow_add _ _ _).symm;have h4:2 ^ b<=2 ^ ((b+1) / 2+(b+1) / 2):=oU (by omega)
  have h5:((2 ^ ((b+1) / 2+(b+1) / 2):Nat):Int)=(2:Int) ^ ((b+1) / 2+(b+1) / 2):=by rw [Int.natCast_pow]; rfl
  have h6:((2 ^ b:Nat):Int)<=((2 ^ ((b+1) / 2+(b+1) / 2):Nat):Int):=Int.ofNat_le.mpr h4;have h7:(n.natAbs:Int) < ((2 ^ b:Nat):Int):=Int.ofNat_lt.mpr hn;rw [h3] at h1;rw [h5] at h6;omega
 ·unfold Bt;rw [Int.natAbs_pow];exact Nat.pow_lt_pow_right (by decide) (by omega)
abbrev kQ (a:Int):Int:=if a < 0 then -a else a
theorem wv (a:Int):0<=kQ a:=by unfold kQ; split <;> omega
theorem Ce {n:Nat} {a:Int} (h:Bt n a):Bt n (kQ a):=h.le (by unfold kQ; split <;> omega)
theorem qa (r:Rat):0<=r*r:=by
 rcases Rat.le_total (a:=0) (b:=r) with h | h
 ·exact Rat.mul_nonneg h h
 ·have:0<=-r:=by grind
  have:=Rat.mul_nonneg this this;grind
theorem nN (w:Rat):(w.num:Rat)=w*(w.den:Rat):=by
 have h:=Rat.num_divInt_den w;rw [Rat.divInt_eq_div,Rat.intCast_natCast] at h;have hd:(w.den:Rat)≠0:=by
  have:=w.den_nz;exact λe=>this (by exact_mod_cast e)
 grind
theorem oX (w:Rat):(w.den:Rat)≠0:=by
 have:=w.den_nz;exact λe=>this (by exact_mod_cast e)
theorem BE (q:Rat):Int.gcd q.num (q.den:Int)=1:=by
 have:=q.reduced;unfold Nat.Coprime at this
 simpa [Int.gcd] using this
def ab (b:Rat):Rat:=if b < 0 then -b else b
theorem AU (b:Rat):0<=ab b:=by unfold ab; split <;> grind
theorem C4 (b:Rat):ab b*ab b=b*b:=by unfold ab; split <;> grind
def ss (b:Rat):Rat:=b*ab b
theorem gw (q:Rat):q.num < 0↔q < 0:=by
 have:=Rat.num_nonneg (q:=q)
 constructor
 ·intro h;apply Rat.not_le.mp;intro h2;have:=this.mpr h2;omega
 ·intro h;apply Int.not_le.mp;intro h2;exact absurd (this.mp h2) (Rat.not_le.mpr h)
theorem E8 (q:Rat):(ab q).num=kQ q.num:=by
 unfold ab kQ
 by_cases h:q < 0
 ·rw [if_pos h,if_pos ((gw q).mpr h),Rat.neg_num]
 ·rw [if_neg h,if_neg (λe=>h ((gw q).mp e))]
theorem Ew (q:Rat):(ab q).den=q.den:=by
 unfold ab
 split
 ·exact Rat.neg_den _
 ·rfl
theorem tw {x:Int} (h:0<=x):jo (x*x)=x:=A0 ⟨h,Int.le_refl _,by grind⟩
theorem wG {b u:Rat} (hu:0 < u):ss b*u=0↔b=0:=by
 unfold ss ab
 constructor
 ·intro h;have hu':u≠0:=by grind
  split at h <;> grind
 ·intro h;subst h;grind
theorem F6 {b u:Rat} (hu:0 < u):ab (ss b*u)=b*b*u:=by
 have h2:=qa b;have h3:=Rat.mul_nonneg h2 (Rat.le_of_lt hu);unfold ss
 by_cases h:b < 0
 ·have e:b*ab b*u=-(b*b*u):=by unfold ab; rw [if_pos h]; grind
  rw [e];have hp:0 < b*b*u:=by
   have h4:0 < -b:=by grind
   have h5:=Rat.mul_pos h4 h4;have h6:=Rat.mul_pos h5 hu;grind
  unfold ab;rw [if_pos (by grind)]
  grind
 ·have e:b*ab b*u=b*b*u:=by unfold ab; rw [if_neg h]
  rw [e];unfold ab;rw [if_neg (by grind)]
def Jh (q:Rat):Int:=if 0 < q then 1 else if q < 0 then -1 else 0
def Js (a b u:Rat):Int:=if 0 < a*a - b*b*u then Jh a else Jh b
theorem yS {x y:Rat} (hx:0<=x) (hy:0<=y):0<=x / y:=by
 by_cases h:y=0
 ·subst h;rw [show x / 0=0 by grind]
  exact Rat.le_refl
 ·apply Rat.not_lt.mp;intro hl;have h1:=Rat.mul_pos (show 0 < -(x / y) by grind) (show 0 < y by grind)
  have h2:x / y*y=x:=by grind
  grind
theorem vv {q:Rat} (h:0<=q):0<=q.num:=Rat.num_nonneg.mpr h
theorem vz {q r:Rat} (h0:0<=r) (e:r*r=q):jo q.num=r.num/\jo (q.den:Int)=(r.den:Int):=by
 subst e;rw [u9,vg];refine⟨tw (vv h0),?_⟩;rw [Int.natCast_mul];exact tw (by omega)
theorem vI {q:Rat} (h0:0<=q) (s1:jo q.num*jo q.num=q.num) (s2:jo (q.den:Int)*jo (q.den:Int)=(q.den:Int)):∃ r:Rat,0<=r/\r*r=q:=by
 have n1:=(jW (vv h0)).nn;have n2:=(jW (n:=(q.den:Int)) (by omega)).nn
 generalize jo q.num=x at s1 n1
 generalize jo (q.den:Int)=y at s2 n2
 have t1:(x:Rat)*x=(q.num:Rat):=by
  have:=congrArg (λz:Int=>(z:Rat)) s1
  simpa [Rat.intCast_mul] using this
 have t2:(y:Rat)*y=(q.den:Rat):=by
  have:=congrArg (λz:Int=>(z:Rat)) s2
  simpa [Rat.intCast_mul,Rat.intCast_natCast] using this
 have hd:=oX q;have hy0:(y:Rat)≠0:=by intro e; rw [e] at t2; exact hd (by grind)
 have hwn:=nN q;have x0:(0:Rat)<=x:=by exact_mod_cast n1
 have y0:(0:Rat)<=y:=by exact_mod_cast n2
 refine⟨(x:Rat) / y,?_,by grind⟩
 exact yS x0 y0
theorem GD {e:Rat} (h:e≠0):ab e≠0:=by unfold ab; split <;> grind
theorem zE {b e u:Rat} (u0:0 < u) (he:e≠0):(ab b / ab e)*(ab b / ab e)=(b*b*u) / (e*e*u):=by
 have u1:u≠0:=by grind
 have e1:=C4 e;have b1:=C4 b;have e2:=GD he;have:ab b / ab e*(ab b / ab e)=(ab b*ab b) / (ab e*ab e):=by grind
 rw [this,e1,b1];grind
def pick (b d:Rat):Rat:=if b=0 then d else b
theorem zd {b u:Rat} (u0:0 < u):ab (ss b*u)=b*b*u:=F6 u0
theorem Sz.ab {n:Nat} {q:Rat} (h:Sz n q):Sz n (HM.ab q):=by
 unfold HM.ab
 split
 ·exact h.neg
 ·exact h
theorem Sz.ss {n:Nat} {q:Rat} (h:Sz n q):Sz (n+n) (HM.ss q):=h.mul h.ab
theorem Sz.zero:Sz 1 0:=⟨by show(0:Int).natAbs < 2 ^ 1; decide,by show((1:Nat):Int).natAbs < 2 ^ 1; decide⟩
end HM
namespace L2
open PySem PySem.Spec PyProof.Rows
theorem sT (elt target iter:KP) (scope:Scope) (pos:Pos) (it acc:KM) (env:Env):
  compTurn (.ListComp elt [⟨target,iter,[],0⟩] scope pos) 0 it acc env=(standAt iter.pos >>= λ_=>pyNext it >>= λr=>match r with
   | none=>pure (.done .next)
   | some v=>letOwnedTupleGo target it v >>= λ_=>assign target env v >>= λ_=>
    (eval elt env >>= λx=>call (.builtin "list.append") [acc,x] >>= λ_=>pure ()) >>= λ_=>
     again (.compLoop (.ListComp elt [⟨target,iter,[],0⟩] scope pos) 0 it acc env)):=by rfl
section
variable {prog:KQ} {w:KS} {A:KR} {R:Result->KL->Prop} {s:KL}
abbrev p_:KM->KL->Prop:=λ_ _=>False
theorem zZ {α:Type} {M:Model} {A:KR} {t:Sem α} {Q:α->KL->Prop} {E:KM->KL->Prop} {s:KL} (h:wpAny M A t Q p_ s):wpAny M A t Q E s:=Km h (λ_ _ q=>q) λ_ _ z=>z.elim
theorem lP {elt target iter:KP} {scope:Scope} {pos:Pos} {it acc:KM} {env:Env} (I:Nat->KL->Prop)
  (turn:∀ n s,I n s->wpAny (model prog w) A (pyNext it) (λr s1=>match r with
   | none=>R (.ok .next) s1
   | some v=>wpAny (model prog w) A (letOwnedTupleGo target it v) (λ_ s2=>wpAny (model prog w) A (assign target env v) (λ_ s3=>wpAny (model prog w) A (eval elt env) (λx s4=>
     wpAny (model prog w) A (call (.builtin "list.append") [acc,x]) (λ_ s5=>∃ m,m < n/\I m s5) p_ s4) p_ s3) p_ s2) p_ s1) p_ s)
  (n:Nat) (h:I n s):codeAny (model prog w) A (.compLoop (.ListComp elt [⟨target,iter,[],0⟩] scope pos) 0 it acc env) R s:=by
 refine codeAny_loop rfl I (λn s hI=>?_) n h
 show wpAny _ _ ((compTurn (.ListComp elt [⟨target,iter,[],0⟩] scope pos) 0 it acc env).onRaise (λx=>do noteFrame x env; theTreesLotGoes x)) _ _ s
 refine wpAny_noted ?_;rw [sT];refine gt (wpAny_standAt (gt (zZ (Km (turn n s hI) (λr s1 h1=>?_) λ_ _ z=>z))))
 cases r with
 | none=>exact JU h1
 | some v=>
  exact gt (zZ (bc h1 λ_ s2 h2=>gt (zZ (bc h2 λ_ s3 h3=>gt (gt (zZ (bc h3 λx s4 h4=>gt (zZ (bc h4 λ_ s5 h5=>JU (JU ⟨rfl,h5⟩))))))))))
theorem n6 {M:Model} {A:KR} {E:KM->KL->Prop} {c:KP} {env:Env} {Q:KY->KL->Prop} {s:KL} (h:wpAny M A (PySem.isTrue c env (eval c env)) Q E s):
  wpAny M A (forIn [c] true λc r=>if r=true then do let ok <- PySem.isTrue c env (eval c env); pure (ForInStep.yield ok) else pure (ForInStep.yield r)) Q E s:=by
 rw [List.forIn_cons];refine gt ?_;rw [if_pos rfl];refine gt (bc h λok s1 q=>JU ?_)
 show wpAny M A (forIn [] ok _) Q E s1
 rw [List.forIn_nil];exact JU q
theorem lT {elt target iter c:KP} {scope:Scope} {pos:Pos} {it acc:KM} {env:Env} (I:Nat->KL->Prop)
  (turn:∀ n s,I n s->wpAny (model prog w) A (pyNext it) (λr s1=>match r with
   | none=>R (.ok .next) s1
   | some v=>wpAny (model prog w) A (letOwnedTupleGo target it v) (λ_ s2=>wpAny (model prog w) A (assign target env v) (λ_ s3=>wpAny (model prog w) A (isTrue c env (eval c env)) (λb s3'=>
     if b=true then wpAny (model prog w) A (eval elt env) (λx s4=>wpAny (model prog w) A (call (.builtin "list.append") [acc,x]) (λ_ s5=>∃ m,m < n/\I m s5) p_ s4) p_ s3'
     else ∃ m,m < n/\I m s3') p_ s3) p_ s2) p_ s1) p_ s)
  (n:Nat) (h:I n s):codeAny (model prog w) A (.compLoop (.ListComp elt [⟨target,iter,[c],0⟩] scope pos) 0 it acc env) R s:=by
 refine codeAny_loop rfl I (λn s hI=>?_) n h
 show wpAny _ _ ((compTurn (.ListComp elt [⟨target,iter,[c],0⟩] scope pos) 0 it acc env).onRaise (λx=>do noteFrame x env; theTreesLotGoes x)) _ _ s
 refine wpAny_noted ?_;rw [compTurn_list];refine gt (wpAny_standAt (gt (zZ (Km (turn n s hI) (λr s1 h1=>?_) λ_ _ z=>z))))
 cases r with
 | none=>exact JU h1
 | some v=>
  refine gt (zZ (bc h1 λ_ s2 h2=>gt (zZ (bc h2 λ_ s3 h3=>gt (n6 (zZ (bc h3 λb s3' h3'=>?_)))))))
  cases b with
  | true=>
   rw [if_pos rfl] at h3' ⊢;exact gt (gt (zZ (bc h3' λx s4 h4=>gt (zZ (bc h4 λ_ s5 h5=>JU (JU ⟨rfl,h5⟩))))))
  | false=>
   rw [if_neg J0] at h3' ⊢;exact JU ⟨rfl,h3'⟩
end
def eN (X:Cx) (scope:Scope) (cl:List (Str×KN)) (N:List Str) (s0:KL) (H0:Hp) (ex:List KN) (C:KN):Cx where
 prog:=X.prog
 w:=X.w
 K:=X.K
 mg:=X.mg
 base:=X.base
 A:=X.A
 N:=N
 s₀:=s0
 H₀:=H0
 env:=compEnvC scope cl C X.env
 outer:=X.stack
 stack:=X.stack
 ex:=ex
 fn:=λ_=>false
 calm:=X.calm
 pn:=[]
 xe:=p_
structure dJ (X:Cx) (scope:Scope) (cl:List (Str×KN)) (N:List Str) (cap:List (KO Nat)):Prop where
 kind:scope.kind=.function
 clos:closureFor scope X.env=pure cl
 nocell:(scope.names.all λy=>y.2 != NameKind.cell)=true
 names:(scope.names.all λy=>y.2 != NameKind.local || scope.names.lookup y.1 == some NameKind.local)=true
 sub:∀ p∈cl,X.env.cells.lookup p.1=some p.2
 has:((relabel scope X.env).names.all λy=>(y.2 != NameKind.cell && y.2 != NameKind.free) || (cl.lookup y.1).isSome)=true
 len:cap.length=N.length
 caps:∀ (i j:Nat) (x:Str),cap[i]?=some (some j)->N[i]?=some x->X.N[j]?=some x/\(X.env.scope.names.lookup x=some .cell\/X.env.scope.names.lookup x=some .free)/\((relabel scope X.env).names.lookup x=some .cell\/(relabel scope X.env).names.lookup x=some .free)
def ma (cap:List (KO Nat)) (σ:St):St:=cap.map λo=>match o with
 | some j=>(σ[j]?).join
 | none=>none
theorem xM {cap:List (KO Nat)} {σ:St} {i:Nat} {v:V} (h:(ma cap σ)[i]?=some (some v)):∃ j,cap[i]?=some (some j)/\σ[j]?=some (some v):=by
 unfold ma at h;rw [Ki] at h;cases e:cap[i]? with
 | none=>rw [e] at h; cases h
 | some o=>
  rw [e] at h;cases o with
  | none=>cases h
  | some j=>
   refine⟨j,rfl,?_⟩;have h:(σ[j]?).join=some v:=Kj h;cases e2:σ[j]? with
   | none=>rw [e2] at h; cases h
   | some q=>rw [e2] at h; exact congrArg some h
theorem d_ {X:Cx} {cl:List (Str×KN)} (h:∀ p∈cl,X.env.cells.lookup p.1=some p.2) {x:Str} {c:KN} (e:cl.lookup x=some c):X.env.cells.lookup x=some c:=h (x,c) (Kr e)
theorem mv {X:Cx} {scope:Scope} {cl:List (Str×KN)} {N:List Str} {cap:List (KO Nat)} (Sc:dJ X scope cl N cap) {K2:List (KN×K1)} {σ:St} {H:Hp} {s:KL} {fp:List KN} (I:aE X K2 σ H s)
  (hf:∀ b∈fp,nj X K2 H b) (ho:∀ b∈fp,∃ o,s.heap.get? b=some o) {h1 h1':KT} {m:Str->KO KM} {tk:Nat} {ob:K1}
  (hD:s.heap.push {cls:=.type "list",data:=.seq ([]:List KM).toArray}=h1') (hns:h1.Ns h1'.objs.size m) (hsb:Heap.SameBut h1'.objs.size (h1'.push ob) h1):
  aE (eN X scope cl N {s with heap:=h1'} (br H s.heap.objs.size (.lst [])) fp h1'.objs.size) [] (ma cap σ) (br H s.heap.objs.size (.lst [])) {s with heap:=h1,toks:=tk}/\
   Un (tu X.stack) fp H (br H s.heap.objs.size (.lst [])) s.heap h1':=by
 have hC:h1'.objs.size=s.heap.objs.size+1:=by rw [<- hD,KB]
 have k1:∀ b o,s.heap.get? b=some o->h1'.get? b=some o:=λb o e=>by rw [<- hD]; exact pp _ e
 have k2:∀ b o,h1'.get? b=some o->h1.get? b=some o:=λb o e=>(hsb.2 b (J3 (JW e))).trans (pp _ e)
 have hHn:H s.heap.objs.size=none:=I.hok.fresh (JX _);have neD:∀ b o,s.heap.get? b=some o->b≠s.heap.objs.size:=λb o e=>J3 (JW e)
 have un1:Un (tu X.stack) fp H (br H s.heap.objs.size (.lst [])) s.heap h1':=Un.laid k1 (JX _) hHn;have new:dy X.prog X.w (br H s.heap.objs.size (.lst [])) h1' s.heap.objs.size (.lst []):=⟨Kz _,[],0,.nil,by rw [<- hD]; exact JV _ rfl⟩
 have hok1:nZ X.prog X.w (br H s.heap.objs.size (.lst [])) h1':=I.hok.laid k1 (JX _) new;have fsub:∀ b∈fp,b∉tu X.stack:=λb hb z=>by
  obtain⟨_,f1,f2,_⟩:=hf b hb;rcases J2.mp (I.stkSub b z) with e | e
  ·exact f1 e
  ·exact f2 e
 have cellK:∀ x c,cl.lookup x=some c->∃ v,s.heap.IsCell c v:=λx c e=>I.cell x c (d_ Sc.sub e)
 refine⟨⟨⟨I.ok.mod,?_,I.ok.glob,I.ok.blt,JX _,λx y c e1 e2=>I.ok.inj x y c (d_ Sc.sub e1) (d_ Sc.sub e2),λx hx=>?_,λx c z=>(by cases z),I.ok.hd,I.ok.frames,.inl rfl,λb hb=>⟨?_,λx c e=>?_⟩,λb o e=>⟨?_,?_⟩,?_,λb o e hb=>?_,fsub,?_,λb hb=>?_⟩,
  rfl,I.bare,Un.kept k2,⟨m,hns,λi x v e1 e2 e3=>?_⟩,λx c e=>?_,?_,λx c e=>?_,λp hp=>absurd hp (by simp [eN]),hok1.kept k2,?_⟩,un1⟩
 ·exact Sc.kind
 ·have hx:(relabel scope X.env).names.lookup x=some .cell\/(relabel scope X.env).names.lookup x=some .free:=hx;have ha:=KC.mp Sc.has
  show ∃ c,cl.lookup x=some c
  rcases hx with hx | hx
  ·have:=ha _ (Kr hx);exact KI.mp (by simpa using this)
  ·have:=ha _ (Kr hx);exact KI.mp (by simpa using this)
 ·obtain⟨o,e⟩:=ho b hb;have:=JW e
  show b≠h1'.objs.size
  rw [hC];exact J3 (Nat.lt_succ_of_lt this)
 ·exact(hf b hb).2.2.2.2.1 x c (d_ Sc.sub e)
 ·exact k1 b o (I.bk b o e)
 ·show br H s.heap.objs.size (.lst []) b=none
  rw [aN (neD b o (I.bk b o e))];exact(I.bs b o e).2
 ·show X.base.objs.size<=h1'.objs.size
  rw [hC];exact Nat.le_succ_of_le (Kn I.ok.bsz I.sz)
 ·obtain⟨_,_,_,f3,_⟩:=hf b hb;rcases f3 with f3 | f3
  ·exact I.ok.noex b o e f3
  ·have q1:=JW e;have q2:=I.ok.bsz;exact absurd (J6 q1 (Kn q2 f3)) (KA _)
 ·exact I.stack.of_keeps λb o e _=>⟨o,k1 b o e,rfl⟩
 ·show br H s.heap.objs.size (.lst []) b=none
  obtain⟨_,o,e,_⟩:=I.stack.mem hb;rw [aN (neD b o e)];exact I.stkFree b hb
 ·obtain⟨j,c1,c2⟩:=xM e2;obtain⟨d1,d2,d3⟩:=Sc.caps i j x c1 e1;obtain⟨m0,_,l0⟩:=I.loc;obtain⟨u,ru,lk⟩:=l0 j x v d1 c2 (d2.elim (λz=>.inr (.inl z)) λz=>.inr (.inr z))
  refine⟨u,ru,.inr ⟨d3,?_⟩⟩;rcases lk with ⟨z,_⟩ | ⟨_,c,z1,z2⟩
  ·have z:X.env.scope.names.lookup x=some .local:=z;rcases d2 with q | q <;> (rw [q] at z; cases z)
  ·have ha:=KC.mp Sc.has;have hs:∃ c',cl.lookup x=some c':=by
    rcases d3 with q | q
    ·exact KI.mp (by simpa using ha _ (Kr q))
    ·exact KI.mp (by simpa using ha _ (Kr q))
   obtain⟨c',q⟩:=hs;have q2:=d_ Sc.sub q;rw [z1] at q2;cases q2;obtain⟨o,e,d⟩:=z2;exact⟨c,q,o,k2 _ _ (k1 _ _ e),d⟩
 ·obtain⟨v,o,e1,d⟩:=cellK x c e;exact⟨v,o,k2 _ _ (k1 _ _ e1),d⟩
 ·show br H s.heap.objs.size (.lst []) h1'.objs.size=none
  rw [hC,aN (Nat.succ_ne_self _)];exact I.hok.fresh (Nat.le_succ _)
 ·obtain⟨v,o,e1,d⟩:=cellK x c e
  show br H s.heap.objs.size (.lst []) c=none
  rw [aN (neD c o e1)];exact I.freeC x c (d_ Sc.sub e)
 ·show(ma cap σ).length=N.length
  unfold ma;rw [JZ];exact Sc.len
def C8 (cap:List (KO Nat)) (wi:TI) (g:TG) (te:TE):TE:=fun σ H Q=>wi σ H λJ H1=>∀ D,H1 D=none->∃ W:Nat->Nat->St->Hp->Prop,(∃ m,W 0 m (ma cap σ) (br H1 D (.lst [])))/\∀ i m σ' H',W i m σ' H'->
 (J.stop i H'/\Q (.ref D) H')\/(J.go i H'/\∃ N:St->Hp->Prop,(∀ σ2 H2,N σ2 H2->∃ m',m' < m/\W (i+1) m' σ2 H2)/\∀ x H2,J.yld i H' x H2->g x σ' H2 fun σ3 H3=>te σ3 H3 λv H4=>∃ ys,H4 D=some (.lst ys)/\ys.length < sizeLine/\N σ3 (br H4 D (.lst (ys++[v]))))
def rR (cap:List (KO Nat)) (wi:TI) (g:TG) (tc:TT) (te:TE):TE:=fun σ H Q=>wi σ H λJ H1=>∀ D,H1 D=none->∃ W:Nat->Nat->St->Hp->Prop,(∃ m,W 0 m (ma cap σ) (br H1 D (.lst [])))/\∀ i m σ' H',W i m σ' H'->
 (J.stop i H'/\Q (.ref D) H')\/(J.go i H'/\∃ N:St->Hp->Prop,(∀ σ2 H2,N σ2 H2->∃ m',m' < m/\W (i+1) m' σ2 H2)/\∀ x H2,J.yld i H' x H2->g x σ' H2 fun σ3 H3=>tc σ3 H3 λb H3'=>if b=true then te σ3 H3' λv H4=>∃ ys,H4 D=some (.lst ys)/\ys.length < sizeLine/\N σ3 (br H4 D (.lst (ys++[v]))) else N σ3 H3')
section
variable {X:Cx} {elt tg iter c:KP} {scope:Scope} {cl:List (Str×KN)} {N:List Str} {cap:List (KO Nat)} {pos:Pos} {wi:TI} {g:TG} {te:TE} {tc:TT}
theorem oK (Sc:dJ X scope cl N cap) {K2:List (KN×K1)} {σ σ3:St} {H2 H3:Hp} {s2 s4:KL} {fp:List KN} {h1':KT} {C:KN} (I2:aE X K2 σ H2 s2) (f2:∀ b∈fp,nj X K2 H2 b) {H1:Hp}
  (un3:Un (tu X.stack) fp H2 H1 s2.heap h1') (I4:aE (eN X scope cl N {s2 with heap:=h1'} H1 fp C) [] σ3 H3 s4) {h':KT} (hC:s2.heap.objs.size<=C) (sb:Heap.SameBut C s4.heap h'):aE X K2 σ H3 {s4 with heap:=h'}:=by
 have u:Un (tu X.stack) fp H2 H3 s2.heap s4.heap:=un3.trans I4.base;have ne:∀ b o,s2.heap.get? b=some o->b≠C:=λb o e=>J3 (J6 (JW e) hC)
 have u':Un (tu X.stack) fp H2 H3 s2.heap h':=⟨λb o e n hb hx=>(sb.2 b (ne b o e)).trans (u.keep b o e n hb hx),λb o e n hb hx=>by
   obtain⟨sl,q⟩:=u.slot b o e n hb hx;exact⟨sl,(sb.2 b (ne b o e)).trans q⟩,u.free,λb o e hx=>by
   obtain⟨o',q⟩:=u.there b o e hx;exact⟨o',(sb.2 b (ne b o e)).trans q⟩,u.tups,u.frzs,u.tbls⟩
 have hok:nZ X.prog X.w H3 h':=λb ob e=>by
  refine(I4.hok b ob e).stay (λc w' hc q=>(sb.2 c ?_).trans q) (λ_ q=>q) λ_ _ q=>q
  rintro rfl;have hfree:H3 c=none:=I4.free;rcases hc with rfl | hc
  ·rw [hfree] at e; cases e
  ·rw [hfree] at hc; cases hc
 refine I2.call' (s':={s4 with heap:=h'}) (ch:=fp) I4.os u' hok I4.bare λb hb=>?_
 obtain⟨_,f1,_,f3,f4,f5⟩:=f2 b hb;exact⟨f3,f1,f4,f5⟩
theorem da {s0:KL} {H0:Hp} {C:KN} {fp:List KN} {σ:St} {H:Hp} {s:KL} (I:aE (eN X scope cl N s0 H0 fp C) [] σ H s) (hn:∀ b∈fp,H b=none):∀ b∈fp,nj (eN X scope cl N s0 H0 fp C) [] H b:=λb hb=>
 ⟨hn b hb,(I.ok.exf b hb).1,I.ok.exfs b hb,.inl hb,(I.ok.exf b hb).2,λp hp=>absurd hp (by simp [eN])⟩
theorem xg (hc:X.calm=true) (Sc:dJ X scope cl N cap) (hi:PI X tg iter wi) (hg:∀ s0 H0 ex C,PG (eN X scope cl N s0 H0 ex C) tg g) (he:∀ s0 H0 ex C,PE (eN X scope cl N s0 H0 ex C) elt te)
  (hs:∀ x,foldedSetIterable iter X.env x=pure x:=by intro _; rfl):PE X (.ListComp elt [⟨tg,iter,[],0⟩] scope pos) (C8 cap wi g te):=by
 intro K2 s σ H Q I h;rw [eval_ListComp];have hcell:∀ y∈scope.names,y.2≠.cell:=λy hy=>by simpa using KC.mp Sc.nocell y hy
 have hnames:∀ y∈scope.names,y.2=.local->scope.names.lookup y.1=some .local:=λy hy e=>by
  have:=KC.mp Sc.names y hy;rw [e] at this
  simpa using this
 refine wpAny_comprehension_free (use:=none) rfl hs Sc.clos Sc.kind hnames (bc (hi K2 s σ H _ I h) λv s1 h1=>bc h1 λitv s2 h2=>?_)
 obtain⟨it,fp,tn,J,H2,e,I2,T,st2,f2,hW⟩:=h2;subst e;refine Kh (wpAny_newFunctionEnv hcell (by intro y hy; simp at hy) (λh1 hns hsb=>?_) Sc.kind)
 obtain⟨W,⟨m0,w0⟩,turn⟩:=hW s2.heap.objs.size I2.fresh;dsimp only at hns hsb ⊢
 generalize hD:s2.heap.push {cls:=.type "list",dict:=none,data:=.seq ([]:List KM).toArray}=h1' at hns hsb ⊢
 obtain⟨I3,un3⟩:=mv (tk:=s2.toks+([]:List (Str×KM)).length) Sc I2 f2 (λb hb=>let ⟨o,e,_⟩:=T.obj 0 _ st2 b hb; ⟨o,e⟩) hD hns hsb
 have hC:s2.heap.objs.size<=h1'.objs.size:=by rw [<- hD,KB]; exact Nat.le_succ _
 have k1:∀ b o,s2.heap.get? b=some o->h1.get? b=some o:=λb o e=>by
  have e1:h1'.get? b=some o:=by rw [<- hD]; exact pp _ e
  exact(hsb.2 b (J3 (JW e1))).trans (pp _ e1)
 have st3:tn 0 h1:=T.keep 0 _ _ st2 λb _ o e=>k1 b o e
 have fr3:∀ b∈fp,(br H2 s2.heap.objs.size (.lst [])) b=none:=λb hb=>by
  obtain⟨o,e,_⟩:=T.obj 0 _ st2 b hb;rw [aN (J3 (JW e))];exact(f2 b hb).1
 have loop:∀ s3:KL,s3={s2 with heap:=h1,toks:=s2.toks+([]:List (Str×KM)).length}->
   codeAny (model X.prog X.w) X.A (.compLoop (.ListComp elt [⟨tg,iter,[],0⟩] scope pos) 0 (.ref it) (.ref s2.heap.objs.size) (compEnvC scope cl h1'.objs.size X.env))
    (compPost (model X.prog X.w) X.A X.xe none (EP X K2 σ Q) (.ref s2.heap.objs.size) h1'.objs.size) s3:=by
  rintro s3 rfl;refine lP (λn s'=>∃ i σ' H',aE (eN X scope cl N {s2 with heap:=h1'} (br H2 s2.heap.objs.size (.lst [])) fp h1'.objs.size) [] σ' H' s'/\tn i s'.heap/\(∀ b∈fp,H' b=none)/\W i n σ' H') ?_ m0 ⟨0,_,_,I3,st3,fr3,w0⟩
  rintro n s3 ⟨i,σ3,H3,I3,st3,fr3,w3⟩;rcases turn i n σ3 H3 w3 with ⟨stop,qn⟩ | ⟨go,Nn,hN,step⟩
  ·refine bc (T.done (eN X scope cl N {s2 with heap:=h1'} (br H2 s2.heap.objs.size (.lst [])) fp h1'.objs.size) rfl rfl rfl hc i [] s3 σ3 H3 p_ I3 (da I3 fr3) st3 stop) λr s4 z9=>?_
   obtain⟨hr,I4⟩:=z9;subst hr;obtain⟨m,hm,_⟩:=I4.loc;exact⟨m,hm,λh' sb=>⟨.ref _,H3,oK Sc I2 f2 un3 I4 hC sb,rfl,qn⟩⟩
  ·refine bc (T.item (eN X scope cl N {s2 with heap:=h1'} (br H2 s2.heap.objs.size (.lst [])) fp h1'.objs.size) rfl rfl rfl hc i [] s3 σ3 H3 p_ I3 (da I3 fr3) st3 go) λr s4 z9=>?_
   obtain⟨u,hr,h4⟩:=z9;subst hr;refine bc h4 λ_ s5 z9=>?_
   obtain⟨x,H5,I5,r5,y5,st5,fr5⟩:=z9;have I5':=I5.pinned (da I5 fr5) (T.obj _ _ st5);refine bc (hg _ _ _ _ _ s5 σ3 H5 x u _ I5' r5 (step x H5 y5)) λ_ s6 z9=>?_
   obtain⟨σ6,H6,I6,q6⟩:=z9;refine bc (he _ _ _ _ _ s6 σ6 H6 _ I6 q6) λuv s7 z9=>?_
   obtain⟨v,H7,I7,r7,ys,hy,hl,q7⟩:=z9;refine bc (g9 (X:=eN X scope cl N {s2 with heap:=h1'} (br H2 s2.heap.objs.size (.lst [])) fp h1'.objs.size) _ s7 σ6 H7 (.ref s2.heap.objs.size) [v] (.ref s2.heap.objs.size) [uv] (λ_ H8=>Nn σ6 H8) I7 rfl (.cons r7 .nil) ⟨_,ys,v,rfl,rfl,hy,hl,q7⟩) λ_ s8 z9=>?_
   obtain⟨_,H8,I8,_,n8⟩:=z9;obtain⟨m',hm,w8⟩:=hN σ6 H8 n8;refine⟨m',hm,i+1,σ6,H8,I8.unpinned,T.keep _ _ _ st5 λb hb o e=>(I8.pin (b,o) (J7 _ (J7 _ (bX hb e)))).1,λb hb=>?_,w8⟩
   obtain⟨o,e,d⟩:=T.obj _ _ st5 b hb;exact(I8.pin (b,o) (J7 _ (J7 _ (bX hb e)))).2.1
 exact codeAny_compStart_list (loop _ rfl) (T.self _ 0 _ _ _ st3 (loop _ rfl))
theorem rn (hc:X.calm=true) (Sc:dJ X scope cl N cap) (hi:PI X tg iter wi) (hg:∀ s0 H0 ex C,PG (eN X scope cl N s0 H0 ex C) tg g) (hcnd:∀ s0 H0 ex C,PT (eN X scope cl N s0 H0 ex C) c tc) (he:∀ s0 H0 ex C,PE (eN X scope cl N s0 H0 ex C) elt te)
  (hs:∀ x,foldedSetIterable iter X.env x=pure x:=by intro _; rfl):PE X (.ListComp elt [⟨tg,iter,[c],0⟩] scope pos) (rR cap wi g tc te):=by
 intro K2 s σ H Q I h;rw [eval_ListComp];have hcell:∀ y∈scope.names,y.2≠.cell:=λy hy=>by simpa using KC.mp Sc.nocell y hy
 have hnames:∀ y∈scope.names,y.2=.local->scope.names.lookup y.1=some .local:=λy hy e=>by
  have:=KC.mp Sc.names y hy;rw [e] at this
  simpa using this
 refine wpAny_comprehension_free (use:=none) rfl hs Sc.clos Sc.kind hnames (bc (hi K2 s σ H _ I h) λv s1 h1=>bc h1 λitv s2 h2=>?_)
 obtain⟨it,fp,tn,J,H2,e,I2,T,st2,f2,hW⟩:=h2;subst e;refine Kh (wpAny_newFunctionEnv hcell (by intro y hy; simp at hy) (λh1 hns hsb=>?_) Sc.kind)
 obtain⟨W,⟨m0,w0⟩,turn⟩:=hW s2.heap.objs.size I2.fresh;dsimp only at hns hsb ⊢
 generalize hD:s2.heap.push {cls:=.type "list",dict:=none,data:=.seq ([]:List KM).toArray}=h1' at hns hsb ⊢
 obtain⟨I3,un3⟩:=mv (tk:=s2.toks+([]:List (Str×KM)).length) Sc I2 f2 (λb hb=>let ⟨o,e,_⟩:=T.obj 0 _ st2 b hb; ⟨o,e⟩) hD hns hsb
 have hC:s2.heap.objs.size<=h1'.objs.size:=by rw [<- hD,KB]; exact Nat.le_succ _
 have k1:∀ b o,s2.heap.get? b=some o->h1.get? b=some o:=λb o e=>by
  have e1:h1'.get? b=some o:=by rw [<- hD]; exact pp _ e
  exact(hsb.2 b (J3 (JW e1))).trans (pp _ e1)
 have st3:tn 0 h1:=T.keep 0 _ _ st2 λb _ o e=>k1 b o e
 have fr3:∀ b∈fp,(br H2 s2.heap.objs.size (.lst [])) b=none:=λb hb=>by
  obtain⟨o,e,_⟩:=T.obj 0 _ st2 b hb;rw [aN (J3 (JW e))];exact(f2 b hb).1
 have loop:∀ s3:KL,s3={s2 with heap:=h1,toks:=s2.toks+([]:List (Str×KM)).length}->
   codeAny (model X.prog X.w) X.A (.compLoop (.ListComp elt [⟨tg,iter,[c],0⟩] scope pos) 0 (.ref it) (.ref s2.heap.objs.size) (compEnvC scope cl h1'.objs.size X.env))
    (compPost (model X.prog X.w) X.A X.xe none (EP X K2 σ Q) (.ref s2.heap.objs.size) h1'.objs.size) s3:=by
  rintro s3 rfl;refine lT (λn s'=>∃ i σ' H',aE (eN X scope cl N {s2 with heap:=h1'} (br H2 s2.heap.objs.size (.lst [])) fp h1'.objs.size) [] σ' H' s'/\tn i s'.heap/\(∀ b∈fp,H' b=none)/\W i n σ' H') ?_ m0 ⟨0,_,_,I3,st3,fr3,w0⟩
  rintro n s3 ⟨i,σ3,H3,I3,st3,fr3,w3⟩;rcases turn i n σ3 H3 w3 with ⟨stop,qn⟩ | ⟨go,Nn,hN,step⟩
  ·refine bc (T.done (eN X scope cl N {s2 with heap:=h1'} (br H2 s2.heap.objs.size (.lst [])) fp h1'.objs.size) rfl rfl rfl hc i [] s3 σ3 H3 p_ I3 (da I3 fr3) st3 stop) λr s4 z9=>?_
   obtain⟨hr,I4⟩:=z9;subst hr;obtain⟨m,hm,_⟩:=I4.loc;exact⟨m,hm,λh' sb=>⟨.ref _,H3,oK Sc I2 f2 un3 I4 hC sb,rfl,qn⟩⟩
  ·refine bc (T.item (eN X scope cl N {s2 with heap:=h1'} (br H2 s2.heap.objs.size (.lst [])) fp h1'.objs.size) rfl rfl rfl hc i [] s3 σ3 H3 p_ I3 (da I3 fr3) st3 go) λr s4 z9=>?_
   obtain⟨u,hr,h4⟩:=z9;subst hr;refine bc h4 λ_ s5 z9=>?_
   obtain⟨x,H5,I5,r5,y5,st5,fr5⟩:=z9;have I5':=I5.pinned (da I5 fr5) (T.obj _ _ st5);refine bc (hg _ _ _ _ _ s5 σ3 H5 x u _ I5' r5 (step x H5 y5)) λ_ s6 z9=>?_
   obtain⟨σ6,H6,I6,q6⟩:=z9;have again:∀ {s8:KL} {H8:Hp},aE (eN X scope cl N {s2 with heap:=h1'} (br H2 s2.heap.objs.size (.lst [])) fp h1'.objs.size) ([]++mF fp s5.heap) σ6 H8 s8->Nn σ6 H8->
     ∃ m,m < n/\∃ i σ' H',aE (eN X scope cl N {s2 with heap:=h1'} (br H2 s2.heap.objs.size (.lst [])) fp h1'.objs.size) [] σ' H' s8/\tn i s8.heap/\(∀ b∈fp,H' b=none)/\W i m σ' H':=λ{s8 H8} I8 n8=>by
    obtain⟨m',hm,w8⟩:=hN σ6 H8 n8;refine⟨m',hm,i+1,σ6,H8,I8.unpinned,T.keep _ _ _ st5 λb hb o e=>(I8.pin (b,o) (J7 _ (J7 _ (bX hb e)))).1,λb hb=>?_,w8⟩
    obtain⟨o,e,d⟩:=T.obj _ _ st5 b hb;exact(I8.pin (b,o) (J7 _ (J7 _ (bX hb e)))).2.1
   refine bc (hcnd _ _ _ _ _ s6 σ6 H6 _ I6 q6) λb s6' z9=>?_
   obtain⟨H6',I6',q6'⟩:=z9;cases b with
   | true=>
    rw [if_pos rfl] at q6' ⊢;refine bc (he _ _ _ _ _ s6' σ6 H6' _ I6' q6') λuv s7 z9=>?_
    obtain⟨v,H7,I7,r7,ys,hy,hl,q7⟩:=z9;refine bc (g9 (X:=eN X scope cl N {s2 with heap:=h1'} (br H2 s2.heap.objs.size (.lst [])) fp h1'.objs.size) _ s7 σ6 H7 (.ref s2.heap.objs.size) [v] (.ref s2.heap.objs.size) [uv] (λ_ H8=>Nn σ6 H8) I7 rfl (.cons r7 .nil) ⟨_,ys,v,rfl,rfl,hy,hl,q7⟩) λ_ s8 z9=>?_
    obtain⟨_,H8,I8,_,n8⟩:=z9;exact again I8 n8
   | false=>
    rw [if_neg J0] at q6' ⊢;exact again I6' q6'
 exact codeAny_compStart_list (loop _ rfl) (T.self _ 0 _ _ _ st3 (loop _ rfl))
end
end L2
namespace DL
open PySem PySem.Spec PyProof.Rows L2
abbrev Fg:=PySem.W.Frag
inductive Ty where
 | non | bool | int | str | tup | lst | dic | verr
def Ty.name:Ty->KZ
 | .non=>"NoneType" | .bool=>"bool" | .int=>"int" | .str=>"str" | .tup=>"tuple" | .lst=>"list" | .dic=>"dict" | .verr=>"ValueError"
inductive D where
 | non | bl (b:KY) | int (i:Int) | str (x:Str) | tup (ds:List D) | rl (ds:List D) | ref (a:KN) | ty (n:Ty)
def FK (K:Fg) (H:Hp) (a:KN) (xs:List V):Prop:=
 (∃ o,H a=some (.frz o (.lst xs)))\/∃ (o:K1) (its:KW KM) (n:Nat),K.lookup a=some o/\o.cls=.type "list"/\o.dict=none/\o.data=.seq its n/\its.size<=sizeLine/\aV xs its.toList
theorem FK.sq {K:Fg} {H:Hp} {a:KN} {xs:List V} (h:FK K H a xs):eH K H a xs:=by
 rcases h with h | h
 ·exact .inl (.inr h)
 ·exact .inr h
mutual
def bA (K:Fg) (H:Hp):D->V->Prop
 | .non,v=>v=.non
 | .bl b,v=>v=.bl b
 | .int i,v=>v=.int i
 | .str x,v=>v=.str x
 | .tup ds,v=>∃ a xs,v=.ref a/\gZ K H a xs/\IsDs K H ds xs
 | .rl ds,v=>∃ a xs,v=.ref a/\FK K H a xs/\IsDs K H ds xs
 | .ref a,v=>v=.ref a
 | .ty n,v=>v=.ty n.name
def IsDs (K:Fg) (H:Hp):List D->List V->Prop
 | [],vs=>vs=[]
 | d::ds,vs=>∃ v r,vs=v::r/\bA K H d v/\IsDs K H ds r
end
def HL:HO->Prop
 | .tup _=>True
 | .frz _ _=>True
 | _=>False
def Kp (H H':Hp):Prop:=∀ a o,H a=some o->HL o->H' a=some o
theorem Kp.refl (H:Hp):Kp H H:=λ_ _ h _=>h
theorem Kp.trans {H H1 H2:Hp} (a:Kp H H1) (b:Kp H1 H2):Kp H H2:=λc o h i=>b c o (a c o h i) i
theorem Kp.tup {K:Fg} {H H':Hp} {a:KN} {xs:List V} (k:Kp H H') (h:gZ K H a xs):gZ K H' a xs:=by
 rcases h with (h | ⟨o,h⟩) | h
 ·exact .inl (.inl (k _ _ h trivial))
 ·exact .inl (.inr ⟨o,k _ _ h trivial⟩)
 ·exact .inr h
theorem Kp.fro {K:Fg} {H H':Hp} {a:KN} {xs:List V} (k:Kp H H') (h:FK K H a xs):FK K H' a xs:=by
 rcases h with ⟨o,h⟩ | h
 ·exact .inl ⟨o,k _ _ h trivial⟩
 ·exact .inr h
theorem Kp.new {H:Hp} {p:KN} {o:HO} (h:H p=none):Kp H (br H p o):=λb u e _=>by rw [aN (bO e h)]; exact e
theorem Kp.mut {H:Hp} {p:KN} {o u:HO} (h:H p=some u) (n:¬ HL u):Kp H (br H p o):=λb z e i=>by
 rw [aN (λq=>by subst q; rw [h] at e; cases e; exact n i)]; exact e
mutual
theorem bA.kp {K:Fg} {H H':Hp} (k:Kp H H'):∀ {d:D} {v:V},bA K H d v->bA K H' d v
 | .non,_,h=>by unfold bA at *; exact h
 | .bl _,_,h=>by unfold bA at *; exact h
 | .int _,_,h=>by unfold bA at *; exact h
 | .str _,_,h=>by unfold bA at *; exact h
 | .ref _,_,h=>by unfold bA at *; exact h
 | .ty _,_,h=>by unfold bA at *; exact h
 | .tup ds,_,h=>by
  unfold bA at*
  obtain⟨a,xs,e,t,r⟩:=h;exact⟨a,xs,e,k.tup t,IsDs.kp k r⟩
 | .rl ds,_,h=>by
  unfold bA at*
  obtain⟨a,xs,e,t,r⟩:=h;exact⟨a,xs,e,k.fro t,IsDs.kp k r⟩
theorem IsDs.kp {K:Fg} {H H':Hp} (k:Kp H H'):∀ {ds:List D} {vs:List V},IsDs K H ds vs->IsDs K H' ds vs
 | [],_,h=>by unfold IsDs at *; exact h
 | d::ds,_,h=>by
  unfold IsDs at*
  obtain⟨v,r,e,h1,h2⟩:=h;exact⟨v,r,e,bA.kp k h1,IsDs.kp k h2⟩
end
section
variable {K:Fg} {H:Hp}
theorem isInt {i:Int} {v:V}:bA K H (.int i) v↔v=.int i:=by unfold bA; exact Iff.rfl
theorem aS {b:KY} {v:V}:bA K H (.bl b) v↔v=.bl b:=by unfold bA; exact Iff.rfl
theorem a7 {b:Str} {v:V}:bA K H (.str b) v↔v=.str b:=by unfold bA; exact Iff.rfl
theorem b7 {v:V}:bA K H .non v↔v=.non:=by unfold bA; exact Iff.rfl
theorem aR {a:KN} {v:V}:bA K H (.ref a) v↔v=.ref a:=by unfold bA; exact Iff.rfl
theorem AV {a:Ty} {v:V}:bA K H (.ty a) v↔v=.ty a.name:=by unfold bA; exact Iff.rfl
theorem bw {ds:List D} {v:V}:bA K H (.tup ds) v↔∃ a xs,v=.ref a/\gZ K H a xs/\IsDs K H ds xs:=by unfold bA; exact Iff.rfl
theorem tW {ds:List D} {v:V}:bA K H (.rl ds) v↔∃ a xs,v=.ref a/\FK K H a xs/\IsDs K H ds xs:=by unfold bA; exact Iff.rfl
theorem eF {vs:List V}:IsDs K H [] vs↔vs=[]:=by unfold IsDs; exact Iff.rfl
theorem bD {d:D} {ds:List D} {vs:List V}:IsDs K H (d::ds) vs↔∃ v r,vs=v::r/\bA K H d v/\IsDs K H ds r:=by
 constructor
 ·intro h; unfold IsDs at h; exact h
 ·intro h; unfold IsDs; exact h
theorem IsDs.nil:IsDs K H [] []:=eF.mpr rfl
theorem IsDs.cons {d:D} {ds:List D} {v:V} {vs:List V} (h1:bA K H d v) (h2:IsDs K H ds vs):IsDs K H (d::ds) (v::vs):=bD.mpr ⟨v,vs,rfl,h1,h2⟩
theorem IsDs.length:∀ {ds:List D} {vs:List V},IsDs K H ds vs->ds.length=vs.length
 | [],_,h=>by rw [eF.mp h]; rfl
 | d::ds,_,h=>by
  obtain⟨v,r,rfl,_,h2⟩:=bD.mp h;rw [J9,J9,IsDs.length h2]
theorem IsDs.get:∀ {ds:List D} {vs:List V} {i:Nat} {d:D},IsDs K H ds vs->ds[i]?=some d->∃ v,vs[i]?=some v/\bA K H d v
 | [],_,_,_,_,e=>by simp at e
 | c::ds,_,0,d,h,e=>by
  obtain⟨v,r,rfl,h1,h2⟩:=bD.mp h;simp at e;subst e;exact⟨v,rfl,h1⟩
 | c::ds,_,i+1,d,h,e=>by
  obtain⟨v,r,rfl,h1,h2⟩:=bD.mp h;obtain⟨u,q1,q2⟩:=IsDs.get (i:=i) (d:=d) h2 (by simpa using e)
  exact⟨u,by simpa using q1,q2⟩
theorem IsDs.set:∀ {ds:List D} {vs:List V} {d:D} {v:V} (i:Nat),IsDs K H ds vs->bA K H d v->IsDs K H (ds.set i d) (vs.set i v)
 | [],_,_,_,_,h,_=>by rw [eF.mp h]; exact IsDs.nil
 | c::ds,_,d,v,0,h,hd=>by
  obtain⟨u,r,rfl,h1,h2⟩:=bD.mp h;exact IsDs.cons hd h2
 | c::ds,_,d,v,i+1,h,hd=>by
  obtain⟨u,r,rfl,h1,h2⟩:=bD.mp h;exact IsDs.cons h1 (IsDs.set i h2 hd)
theorem IsDs.append:∀ {ds es:List D} {vs us:List V},IsDs K H ds vs->IsDs K H es us->IsDs K H (ds++es) (vs++us)
 | [],_,_,_,h,h'=>by rw [eF.mp h]; exact h'
 | c::ds,_,_,_,h,h'=>by
  obtain⟨u,r,rfl,h1,h2⟩:=bD.mp h;exact IsDs.cons h1 (IsDs.append h2 h')
theorem IsDs.drop:∀ {ds:List D} {vs:List V} (n:Nat),IsDs K H ds vs->IsDs K H (ds.drop n) (vs.drop n)
 | _,_,0,h=>h
 | [],_,n+1,h=>by rw [eF.mp h]; exact IsDs.nil
 | c::ds,_,n+1,h=>by
  obtain⟨u,r,rfl,h1,h2⟩:=bD.mp h;exact IsDs.drop n h2
theorem IsDs.take:∀ {ds:List D} {vs:List V} (n:Nat),IsDs K H ds vs->IsDs K H (ds.take n) (vs.take n)
 | _,_,0,h=>by simpa using IsDs.nil
 | [],_,n+1,h=>by rw [eF.mp h]; exact IsDs.nil
 | c::ds,_,n+1,h=>by
  obtain⟨u,r,rfl,h1,h2⟩:=bD.mp h;exact IsDs.cons h1 (IsDs.take n h2)
end
def qE (ks:List Int):Int:=reduceHash (Builtin.Tuple.tupleHashOf (ks.map hashInt))
def eT (x:List Int×KN×KM):K0:=⟨qE x.1,.ref x.2.1,x.2.2⟩
def nP (es:KW K0) (ep:Nat):K1:={cls:=.type "dict",dict:=none,data:=.dict es ep,slots:=#[]}
def mW (a:KN) (xs:List (List Int×KN×KM)) (ep:Nat):KT->Prop:=λh=>(a == sysModules)=false/\xs.length<=sizeLine/\(xs.map (·.1)).Nodup/\h.get? a=some (nP (xs.map eT).toArray ep)
inductive FJ where
 | dT (kvs:List (List Int×D)) (ep:Nat)
 | dK (kvs:List (sd×D))
abbrev li (K:Fg) (H:Hp):List (List Int×D)->List (List Int×KN×KM)->Prop:=Paired λp q=>p.1=q.1/\gZ K H q.2.1 (p.1.map V.int)/\∃ v,aW v q.2.2/\bA K H p.2 v
def oq (K:Fg) (H:Hp) (a:KN):FJ->Prop
 | .dT kvs ep=>∃ xs,H a=some (.ext (mW a xs ep))/\li K H kvs xs
 | .dK kvs=>∃ ys,H a=some (.dK ys)/\Paired (λ(p:sd×D) (q:sd×V)=>p.1=q.1/\bA K H p.2 q.2) kvs ys
theorem li.kp {K:Fg} {H H':Hp} {kvs:List (List Int×D)} {xs:List (List Int×KN×KM)} (r:li K H kvs xs) (k:Kp H H'):li K H' kvs xs:=
 Paired.mapP r λ_ _ z9=>by obtain⟨a,b,v,c,d⟩:=z9; exact⟨a,k.tup b,v,c,d.kp k⟩
theorem oq.there {K:Fg} {H:Hp} {a:KN} {g:FJ} (h:oq K H a g):∃ o,H a=some o/\¬ HL o:=by
 cases g with
 | dT kvs ep=>obtain⟨xs,e,_⟩:=h; exact⟨_,e,λz=>z⟩
 | dK kvs=>obtain⟨xs,e,_⟩:=h; exact⟨_,e,λz=>z⟩
theorem oq.step {K:Fg} {H H':Hp} {a:KN} {g:FJ} (h:oq K H a g) (k:Kp H H') (s:H' a=H a):oq K H' a g:=by
 cases g with
 | dT kvs ep=>obtain⟨xs,e,r⟩:=h; exact⟨xs,s.trans e,r.kp k⟩
 | dK kvs=>obtain⟨xs,e,r⟩:=h; exact⟨xs,s.trans e,Paired.mapP r λ_ _ z=>⟨z.1,z.2.kp k⟩⟩
inductive DO where
 | lst (ds:List D)
 | dic
 | exc (C:KN)
 | fn (φ:Hp->Prop)
 | tbl (ψ:Hp->KW KM->Prop)
 | gen (g:FJ)
abbrev DH:=KN->KO DO
def put (S:DH) (a:KN) (o:DO):DH:=λb=>if b=a then some o else S b
theorem ak {S:DH} {a:KN} {o:DO}:put S a o a=some o:=by unfold put; rw [if_pos rfl]
theorem cm {S:DH} {a b:KN} {o:DO} (h:b≠a):put S a o b=S b:=by unfold put; rw [if_neg h]
theorem wY {S:DH} {a:KN} {o u:DO}:put (put S a o) a u=put S a u:=by funext b; unfold put; split <;> rfl
theorem ve {S:DH} {a p:KN} {o:DO} (h:S a=some o) (h':S p=none):a≠p:=by intro e; subst e; rw [h] at h'; cases h'
def xZ (K:Fg) (H:Hp) (a:KN):DO->Prop
 | .lst ds=>∃ xs,H a=some (.lst xs)/\IsDs K H ds xs
 | .dic=>∃ kvs,H a=some (.dK kvs)
 | .exc C=>∃ o u,H a=some (.frz o u)/\o.cls=.ref C
 | .fn φ=>(∃ o u,H a=some (.frz o u))/\∀ H',Kp H H'->φ H'
 | .tbl ψ=>∃ ps,H a=some (.tbl ps)/\∀ H',Kp H H'->ψ H' ps
 | .gen g=>oq K H a g
def Hs (K:Fg) (H:Hp) (S:DH):Prop:=∀ a o,S a=some o->xZ K H a o
section
variable {K:Fg} {H H':Hp} {S:DH} {p:KN}
theorem Hs.lst {ds:List D} (h:Hs K H S) (e:S p=some (.lst ds)):∃ xs,H p=some (.lst xs)/\IsDs K H ds xs:=h p _ e
theorem Hs.free (h:Hs K H S) (e:H p=none):S p=none:=by
 cases q:S p with
 | none=>rfl
 | some o=>
  have z:=h p o q;cases o with
  | lst ds=>obtain⟨xs,z,_⟩:=z; rw [e] at z; cases z
  | dic=>obtain⟨xs,z⟩:=z; rw [e] at z; cases z
  | exc C=>obtain⟨_,_,z,_⟩:=z; rw [e] at z; cases z
  | fn φ=>obtain⟨⟨_,_,z⟩,_⟩:=z; rw [e] at z; cases z
  | tbl ψ=>obtain⟨_,z,_⟩:=z; rw [e] at z; cases z
  | gen g=>obtain⟨_,z,_⟩:=oq.there z; rw [e] at z; cases z
theorem Hs.step (h:Hs K H S) (k:Kp H H') (s:∀ a o,S a=some o->H' a=H a):Hs K H' S:=λa o e=>by
 have z:=h a o e;cases o with
 | lst ds=>obtain⟨xs,z,r⟩:=z; exact⟨xs,by rw [s a _ e]; exact z,r.kp k⟩
 | dic=>obtain⟨xs,z⟩:=z; exact⟨xs,by rw [s a _ e]; exact z⟩
 | exc C=>obtain⟨x,y,z,r⟩:=z; exact⟨x,y,by rw [s a _ e]; exact z,r⟩
 | fn φ=>obtain⟨⟨x,y,z⟩,r⟩:=z; exact⟨⟨x,y,by rw [s a _ e]; exact z⟩,λH2 k2=>r H2 (k.trans k2)⟩
 | tbl ψ=>obtain⟨ps,z,r⟩:=z; exact⟨ps,by rw [s a _ e]; exact z,λH2 k2=>r H2 (k.trans k2)⟩
 | gen g=>exact oq.step z k (s a _ e)
theorem Hs.new {o:HO} (h:Hs K H S) (e:H p=none):Hs K (br H p o) S:=h.step (Kp.new e) λa u q=>by
 rw [aN]; intro z; subst z; rw [h.free e] at q; cases q
theorem Hs.newL {xs:List V} {ds:List D} (h:Hs K H S) (e:H p=none) (r:IsDs K H ds xs):Hs K (br H p (.lst xs)) (put S p (.lst ds)):=λa o q=>by
 by_cases z:a=p
 ·subst z;rw [ak] at q;cases q;exact⟨xs,bo,r.kp (Kp.new e)⟩
 ·rw [cm z] at q;exact(h.new e) a o q
theorem Hs.setL {xs ys:List V} {ds:List D} (h:Hs K H S) (e:H p=some (.lst xs)) (r:IsDs K H ds ys):Hs K (br H p (.lst ys)) (put S p (.lst ds)):=λa o q=>by
 have k:Kp H (br H p (.lst ys)):=Kp.mut e (λz=>z)
 by_cases z:a=p
 ·subst z;rw [ak] at q;cases q;exact⟨ys,bo,r.kp k⟩
 ·rw [cm z] at q;have w:=h a o q;cases o with
  | lst ds=>obtain⟨xs,w,r⟩:=w; exact⟨xs,by rw [aN z]; exact w,r.kp k⟩
  | dic=>obtain⟨xs,w⟩:=w; exact⟨xs,by rw [aN z]; exact w⟩
  | exc C=>obtain⟨x,y,w,r⟩:=w; exact⟨x,y,by rw [aN z]; exact w,r⟩
  | fn φ=>obtain⟨⟨x,y,w⟩,r⟩:=w; exact⟨⟨x,y,by rw [aN z]; exact w⟩,λH2 k2=>r H2 (k.trans k2)⟩
  | tbl ψ=>obtain⟨ps,w,r⟩:=w; exact⟨ps,by rw [aN z]; exact w,λH2 k2=>r H2 (k.trans k2)⟩
  | gen g=>exact oq.step w k (aN z)
end
abbrev Lo:=List (KO D)
def Lc (K:Fg) (H:Hp):Lo->L2.St->Prop
 | [],σ=>σ=[]
 | none::L,σ=>∃ x r,σ=x::r/\Lc K H L r
 | some d::L,σ=>∃ v r,σ=some v::r/\bA K H d v/\Lc K H L r
section
variable {K:Fg} {H H':Hp}
theorem Lc.kp (k:Kp H H'):∀ {L:Lo} {σ:L2.St},Lc K H L σ->Lc K H' L σ
 | [],_,h=>h
 | none::L,_,h=>by
  obtain⟨x,r,e,h⟩:=h;exact⟨x,r,e,Lc.kp k h⟩
 | some d::L,_,h=>by
  obtain⟨v,r,e,h1,h⟩:=h;exact⟨v,r,e,h1.kp k,Lc.kp k h⟩
theorem Lc.get:∀ {L:Lo} {σ:L2.St} {i:Nat} {d:D},Lc K H L σ->L[i]?=some (some d)->∃ v,σ[i]?=some (some v)/\bA K H d v
 | [],_,_,_,_,e=>by simp at e
 | none::L,_,0,_,_,e=>by simp at e
 | some c::L,_,0,d,h,e=>by
  obtain⟨v,r,rfl,h1,h⟩:=h;simp at e;subst e;exact⟨v,rfl,h1⟩
 | none::L,_,i+1,d,h,e=>by
  obtain⟨x,r,rfl,h⟩:=h;obtain⟨u,q1,q2⟩:=Lc.get (i:=i) (d:=d) h (by simpa using e)
  exact⟨u,by simpa using q1,q2⟩
 | some c::L,_,i+1,d,h,e=>by
  obtain⟨v,r,rfl,_,h⟩:=h;obtain⟨u,q1,q2⟩:=Lc.get (i:=i) (d:=d) h (by simpa using e)
  exact⟨u,by simpa using q1,q2⟩
theorem Lc.set {d:D} {v:V} (hd:bA K H d v):∀ {L:Lo} {σ:L2.St} (i:Nat),Lc K H L σ->Lc K H (L.set i (some d)) (σ.set i (some v))
 | [],_,_,h=>by
  have e:_=[]:=h;subst e;exact rfl
 | none::L,_,0,h=>by
  obtain⟨x,r,rfl,h⟩:=h;exact⟨v,r,rfl,hd,h⟩
 | some c::L,_,0,h=>by
  obtain⟨x,r,rfl,_,h⟩:=h;exact⟨v,r,rfl,hd,h⟩
 | none::L,_,i+1,h=>by
  obtain⟨x,r,rfl,h⟩:=h;exact⟨x,r.set i (some v),rfl,Lc.set hd i h⟩
 | some c::L,_,i+1,h=>by
  obtain⟨x,r,rfl,h1,h⟩:=h;exact⟨x,r.set i (some v),rfl,h1,Lc.set hd i h⟩
theorem Lc.none:∀ (n:Nat),Lc K H (List.replicate n .none) (List.replicate n .none)
 | 0=>rfl
 | n+1=>⟨_,_,rfl,Lc.none n⟩
theorem Lc.start:∀ {ds:List D} {vs:List V} (n:Nat),IsDs K H ds vs->Lc K H (ds.map some++List.replicate n .none) (vs.map some++List.replicate n .none)
 | [],_,n,h=>by rw [eF.mp h]; exact Lc.none n
 | d::ds,_,n,h=>by
  obtain⟨v,r,rfl,h1,h2⟩:=bD.mp h;exact⟨v,_,rfl,h1,Lc.start n h2⟩
end
abbrev DK:=D->DH->Prop
abbrev DE:=Lo->DH->DK->Prop
abbrev DT:=Lo->DH->(KY->DH->Prop)->Prop
abbrev DA:=Lo->DH->(List D->DH->Prop)->Prop
structure lZ where
 nx:Lo->DH->Prop
 rt:DK
 bk:Lo->DH->Prop:=λ_ _=>False
 ct:Lo->DH->Prop:=λ_ _=>False
abbrev DS:=lZ->Lo->DH->Prop
def up (K:Fg) (g:DE):TE:=fun σ H Q=>∃ L S k,Lc K H L σ/\Hs K H S/\g L S k/\∀ d S' v H',k d S'->Kp H H'->Hs K H' S'->bA K H' d v->Q v H'
def tm (K:Fg) (g:DT):TT:=fun σ H Q=>∃ L S k,Lc K H L σ/\Hs K H S/\g L S k/\∀ b S' H',k b S'->Kp H H'->Hs K H' S'->Q b H'
def qT (K:Fg) (g:DA):TA:=fun σ H Q=>∃ L S k,Lc K H L σ/\Hs K H S/\g L S k/\∀ ds S' vs H',k ds S'->Kp H H'->Hs K H' S'->IsDs K H' ds vs->Q vs H'
structure Bb (K:Fg) (H:Hp) (M:lZ) (N:qi):Prop where
 nx:∀ L S σ H',M.nx L S->Kp H H'->Lc K H' L σ->Hs K H' S->N.nx σ H'
 rt:∀ d S v H',M.rt d S->Kp H H'->Hs K H' S->bA K H' d v->N.rt v H'
 bk:∀ L S σ H',M.bk L S->Kp H H'->Lc K H' L σ->Hs K H' S->N.bk σ H'
 ct:∀ L S σ H',M.ct L S->Kp H H'->Lc K H' L σ->Hs K H' S->N.ct σ H'
theorem Bb.kp {K:Fg} {H H1:Hp} {M:lZ} {N:qi} (r:Bb K H M N) (k:Kp H H1):Bb K H1 M N:=
 ⟨λL S σ H' h k'=>r.nx L S σ H' h (k.trans k'),λd S v H' h k'=>r.rt d S v H' h (k.trans k'),λL S σ H' h k'=>r.bk L S σ H' h (k.trans k'),λL S σ H' h k'=>r.ct L S σ H' h (k.trans k')⟩
def Cr (K:Fg) (g:DS):TS:=λN σ H=>∃ L S M,Lc K H L σ/\Hs K H S/\g M L S/\Bb K H M N
theorem PE.imp {X:Cx} {e:KP} {t t':TE} (h:PE X e t) (i:∀ σ H Q,t' σ H Q->t σ H Q):PE X e t':=λK2 s σ H Q I q=>h K2 s σ H Q I (i σ H Q q)
theorem PT.imp {X:Cx} {e:KP} {t t':TT} (h:PT X e t) (i:∀ σ H Q,t' σ H Q->t σ H Q):PT X e t':=λK2 s σ H Q I q=>h K2 s σ H Q I (i σ H Q q)
theorem PW.imp {X:Cx} {e:KP} {t t':TT} (h:PW X e t) (i:∀ σ H Q,t' σ H Q->t σ H Q):PW X e t':=λw K2 s σ H Q I q=>h w K2 s σ H Q I (i σ H Q q)
theorem PA.imp {X:Cx} {e:List KP} {t t':TA} (h:PA X e t) (i:∀ σ H Q,t' σ H Q->t σ H Q):PA X e t':=λpos K2 s σ H Q I q=>h pos K2 s σ H Q I (i σ H Q q)
theorem PS.imp {X:Cx} {e:KU} {t t':TS} (h:PS X e t) (i:∀ N σ H,t' N σ H->t N σ H):PS X e t':=λK2 s σ H Q I q=>h K2 s σ H Q I (i Q σ H q)
theorem rC.imp {X:Cx} {e:List KU} {t t':TS} (h:rC X e t) (i:∀ N σ H,t' N σ H->t N σ H):rC X e t':=λK2 s σ H Q I q=>h K2 s σ H Q I (i Q σ H q)
theorem up.go {K:Fg} {g:DE} {σ:L2.St} {H:Hp} {Q:VK} {L:Lo} {S:DH} {k:DK} (hL:Lc K H L σ) (hS:Hs K H S) (h:g L S k)
  (n:∀ d S' v H',k d S'->Kp H H'->Lc K H' L σ->Hs K H' S'->bA K H' d v->Q v H'):up K g σ H Q:=
 ⟨L,S,k,hL,hS,h,λd S' v H' a b c e=>n d S' v H' a b (hL.kp b) c e⟩
theorem tm.go {K:Fg} {g:DT} {σ:L2.St} {H:Hp} {Q:KY->Hp->Prop} {L:Lo} {S:DH} {k:KY->DH->Prop} (hL:Lc K H L σ) (hS:Hs K H S) (h:g L S k)
  (n:∀ b S' H',k b S'->Kp H H'->Lc K H' L σ->Hs K H' S'->Q b H'):tm K g σ H Q:=
 ⟨L,S,k,hL,hS,h,λb S' H' a c e=>n b S' H' a c (hL.kp c) e⟩
theorem qT.go {K:Fg} {g:DA} {σ:L2.St} {H:Hp} {Q:List V->Hp->Prop} {L:Lo} {S:DH} {k:List D->DH->Prop} (hL:Lc K H L σ) (hS:Hs K H S) (h:g L S k)
  (n:∀ ds S' vs H',k ds S'->Kp H H'->Lc K H' L σ->Hs K H' S'->IsDs K H' ds vs->Q vs H'):qT K g σ H Q:=
 ⟨L,S,k,hL,hS,h,λd S' v H' a b c e=>n d S' v H' a b (hL.kp b) c e⟩
section
variable {X:Cx} {a b c:KP} {ga gb gc:DE} {pos:Pos}
def cL (i:Nat):DE:=λL S k=>match L[i]? with
 | some (some d)=>k d S
 | _=>False
def dC (d:D):DE:=λ_ S k=>k d S
theorem CL {e:KP} {d:D} {v:V} (h:PE X e (tC v)) (hd:∀ H,bA X.K H d v):PE X e (up X.K (dC d)):=
 PE.imp h fun σ H Q z9=>by obtain⟨L,S,k,hL,hS,h,n⟩:=z9; exact n d S v H h (Kp.refl H) hS (hd H)
def CW:KP->KY
 | .Starred _ _=>true
 | _=>false
theorem cQ {a:KP} {es:List KP} {env:Env} (h:CW a=false):starEach (a::es) env=(false,eval a env)::starEach es env:=by
 cases a <;> first | rfl | cases h
theorem hV {pos:Pos} {env:Env}:∀ {es:List KP},(es.all λe=>!CW e)=true->(backTo pos (starEach es env)).any (·.1)=false
 | [],_=>rfl
 | e::es,h=>by
  rw [List.all_cons,Ko] at h;rw [cQ (by simpa using h.1)]
  exact hV h.2
def ng:DA:=λ_ S k=>k [] S
def eX (g:DE) (t:DA):DA:=λL S k=>g L S λd S1=>t L S1 λds S2=>k (d::ds) S2
def EX (t:DA):DE:=λL S k=>t L S λds S1=>ds.length<=sizeLine/\k (.tup ds) S1
def I0 (t:DA):DE:=λL S k=>t L S λds S1=>ds.length<=sizeLine/\∀ p,S1 p=none->k (.ref p) (put S1 p (.lst ds))
abbrev D2:=D->D->DH->DK->Prop
def fm (K:Fg) (r:D2):R2:=λx y H Q=>∃ d e S k,bA K H d x/\bA K H e y/\Hs K H S/\r d e S k/\∀ d' S' v H',k d' S'->Kp H H'->Hs K H' S'->bA K H' d' v->Q v H'
def xp (r:D2) (ga gb:DE):DE:=λL S k=>ga L S λx S1=>gb L S1 λy S2=>r x y S2 k
theorem so {K:Fg} {r:D2}:∀ σ H Q,up K (xp r ga gb) σ H Q->Hy (fm K r) (up K ga) (up K gb) σ H Q:=fun σ H Q ⟨L,S,k,hL,hS,h,n⟩=>
 up.go hL hS h λd S1 v H1 h1 k1 hL1 hS1 i1=>up.go hL1 hS1 h1 λe S2 u H2 h2 k2 hL2 hS2 i2=>
  ⟨d,e,S2,k,i1.kp k2,i2,hS2,h2,λd' S' v H' q k3 z1 z2=>n d' S' v H' q (k1.trans (k2.trans k3)) z1 z2⟩
abbrev D1:=D->DH->DK->Prop
def Jg (K:Fg) (r:D1):V->Hp->VK->Prop:=λx H Q=>∃ d S k,bA K H d x/\Hs K H S/\r d S k/\∀ d' S' v H',k d' S'->Kp H H'->Hs K H' S'->bA K H' d' v->Q v H'
def HN (r:D1) (ga:DE):DE:=λL S k=>ga L S λx S1=>r x S1 k
def h_ (g:DE):DT:=λL S k=>g L S λd S1=>match d with
 | .bl c=>k c S1
 | _=>False
theorem uf {K:Fg} {g:DE}:∀ σ H Q,tm K (h_ g) σ H Q->Af (up K g) σ H Q:=fun σ H Q ⟨L,S,k,hL,hS,h,n⟩=>
 up.go hL hS h λd S1 v H1 h1 k1 hL1 hS1 i1=>by
  cases d with
  | bl c=>
   have e:=aS.mp i1;subst e;exact⟨c,rfl,n c S1 H1 h1 k1 hS1⟩
  | _=>exact(show False from h1).elim
variable {tA tB':DT} {a_:List KP}
def CP (t u:DT):DT:=λL S k=>t L S λc S1=>if c=true then u L S1 k else k false S1
def GQ (t u:DT):DT:=λL S k=>t L S λc S1=>if c=true then k true S1 else u L S1 k
def zU (t:DT):DT:=λL S k=>t L S λc S1=>k (!c) S1
def FX (ga gb:DE):DE:=λL S k=>ga L S λx S1=>match x with
 | .bl c=>if c=true then gb L S1 k else k (.bl false) S1
 | _=>False
def IT (ga gb:DE):DE:=λL S k=>ga L S λx S1=>match x with
 | .bl c=>if c=true then k (.bl true) S1 else gb L S1 k
 | _=>False
def GP (ga:DE):DE:=λL S k=>ga L S λx S1=>match x with
 | .bl c=>k (.bl (!c)) S1
 | _=>False
def HS (t:DT) (ga gb:DE):DE:=λL S k=>t L S λc S1=>if c=true then ga L S1 k else gb L S1 k
end
section
variable {X:Cx}
theorem eJ {K:Fg} {H:Hp} {S:DH} {k:DK} {Q:VK} {d:D} {v:V} (n:∀ d' S' v H',k d' S'->Kp H H'->Hs K H' S'->bA K H' d' v->Q v H') (hS:Hs K H S) (h:k d S) (i:bA K H d v):Q v H:=n d S v H h (Kp.refl H) hS i
def FO (C:Int->Int->Prop) (g:Int->Int->D):D2:=λd e S k=>match d,e with
 | .int i,.int j=>C i j/\k (g i j) S
 | _,_=>False
theorem Ab {f:KM->KM->Sem KM} {C:Int->Int->Prop} {g:Int->Int->D} {gV:Int->Int->V} (ho:cS X f (rI C gV)) (hg:∀ i j H,bA X.K H (g i j) (gV i j)):cS X f (fm X.K (FO C g)):=by
 intro K2 s σ H x y v u Q I rx ry h;obtain⟨d,e,S,k,i1,i2,hS,r,n⟩:=h;cases d with
 | int i=>
  cases e with
  | int j=>
   have e1:=isInt.mp i1;have e2:=isInt.mp i2;subst e1;subst e2;exact ho K2 s σ H _ _ v u Q I rx ry ⟨i,j,rfl,rfl,r.1,eJ n hS r.2 (hg i j H)⟩
  | _=>exact(show False from r).elim
 | _=>exact(show False from r).elim
def xG (g:Int->Int->D):D2:=λd e S k=>match d,e with
 | .int i,.int j=>k (g i j) S
 | _,_=>False
theorem uB {f:KM->KM->Sem KM} {g:Int->Int->D} {gV:Int->Int->V} (ho:cS X f (Cg gV)) (hg:∀ i j H,bA X.K H (g i j) (gV i j)):cS X f (fm X.K (xG g)):=by
 intro K2 s σ H x y v u Q I rx ry h;obtain⟨d,e,S,k,i1,i2,hS,r,n⟩:=h;cases d with
 | int i=>
  cases e with
  | int j=>
   have e1:=isInt.mp i1;have e2:=isInt.mp i2;subst e1;subst e2;exact ho K2 s σ H _ _ v u Q I rx ry ⟨i,j,rfl,rfl,eJ n hS r (hg i j H)⟩
  | _=>exact(show False from r).elim
 | _=>exact(show False from r).elim
def re (i j:Int):Prop:=j≠0/\j.natAbs.log2 < 9000
abbrev HY:D2:=xG λi j=>.int (i - j)
abbrev Gp:D2:=FO IntMulOk λi j=>.int (i*j)
abbrev IR:D2:=FO re λi j=>.int (i.fdiv j)
abbrev Ie:D2:=FO (λ_ j=>j≠0) λi j=>.int (i.fmod j)
abbrev Ik:D2:=FO yf λi j=>.int (i ^ j.toNat)
abbrev IB:D2:=FO yf λi j=>.int (i*2 ^ j.toNat)
abbrev Jk:D2:=xG λi j=>.bl (decide (i < j))
abbrev Jn:D2:=xG λi j=>.bl (decide (i<=j))
abbrev JO:D2:=xG λi j=>.bl (decide (j < i))
abbrev Jf:D2:=xG λi j=>.bl (decide (j<=i))
theorem o_:cS X (binaryOp .Sub) (fm X.K HY):=uB ED λ_ _ _=>isInt.mpr rfl
theorem dZ:cS X (binaryOp .Mult) (fm X.K Gp):=Ab (C:=IntMulOk) (gV:=λi j=>.int (i*j)) (FW λ_ _ _ _ _ _ _ hc q=>mul_int q hc) λ_ _ _=>isInt.mpr rfl
theorem jr:cS X (binaryOp .FloorDiv) (fm X.K IR):=Ab (C:=re) (gV:=λi j=>.int (i.fdiv j)) (FW λ_ _ _ _ _ _ _ hc q=>floordiv_int hc.1 q (.inl (PyProof.noPylong_of_log2 hc.2))) λ_ _ _=>isInt.mpr rfl
theorem ky:cS X (binaryOp .Mod) (fm X.K Ie):=Ab B6 λ_ _ _=>isInt.mpr rfl
theorem xk:cS X (binaryOp .Pow) (fm X.K Ik):=Ab DP λ_ _ _=>isInt.mpr rfl
theorem Hx:cS X (binaryOp .LShift) (fm X.K IB):=Ab EZ λ_ _ _=>isInt.mpr rfl
theorem tR:cS X (compareOp .Lt) (fm X.K Jk):=uB HH λ_ _ _=>aS.mpr rfl
theorem zf:cS X (compareOp .LtE) (fm X.K Jn):=uB Hl λ_ _ _=>aS.mpr rfl
theorem tZ:cS X (compareOp .Gt) (fm X.K JO):=uB HJ λ_ _ _=>aS.mpr rfl
theorem yM:cS X (compareOp .GtE) (fm X.K Jf):=uB Gm λ_ _ _=>aS.mpr rfl
def Fi:D2:=λd e S k=>match d,e with
 | .int i,.int j=>k (.int (i+j)) S
 | .str x,.str y=>x.length+y.length<=sizeLine/\k (.str (x++y)) S
 | .tup xs,.tup ys=>xs≠[]/\ys≠[]/\xs.length+ys.length<=sizeLine/\k (.tup (xs++ys)) S
 | .ref a,.ref b=>∃ xs ys,S a=some (.lst xs)/\S b=some (.lst ys)/\xs.length+ys.length<=sizeLine/\∀ p,S p=none->k (.ref p) (put S p (.lst (xs++ys)))
 | _,_=>False
theorem qU {K:Fg} {H:Hp} {ds:List D} {vs:List V} (i:IsDs K H ds vs) (h:ds≠[]):vs≠[]:=by
 intro e;subst e;have:=i.length;exact h (KJ.mp this)
theorem bv:cS X (binaryOp .Add) (fm X.K Fi):=by
 intro K2 s σ H x y v u Q I rx ry h;obtain⟨d,e,S,k,i1,i2,hS,r,n⟩:=h;cases d with
 | int i=>
  cases e with
  | int j=>
   have e1:=isInt.mp i1;have e2:=isInt.mp i2;subst e1;subst e2;exact Fv K2 s σ H _ _ v u Q I rx ry ⟨i,j,rfl,rfl,eJ n hS r (isInt.mpr rfl)⟩
  | _=>exact(show False from r).elim
 | str i=>
  cases e with
  | str j=>
   have e1:=a7.mp i1;have e2:=a7.mp i2;subst e1;subst e2;exact vR K2 s σ H _ _ v u Q I rx ry ⟨i,j,rfl,rfl,r.1,eJ n hS r.2 (a7.mpr rfl)⟩
  | _=>exact(show False from r).elim
 | tup xs=>
  cases e with
  | tup ys=>
   obtain⟨a,vs,rfl,t1,j1⟩:=bw.mp i1;obtain⟨b,us,rfl,t2,j2⟩:=bw.mp i2;obtain⟨h1,h2,h3,r⟩:=r;refine B1 K2 s σ H _ _ v u Q I rx ry ⟨a,b,vs,us,rfl,rfl,t1,t2,qU j1 h1,by rw [<- j1.length,<- j2.length]; exact h3,λz=>absurd z (qU j2 h2),λ_ p hp=>?_⟩
   have kp:Kp H (br H p (.tup (vs++us))):=Kp.new hp;exact n _ S _ _ r kp (hS.new hp) (bw.mpr ⟨p,_,rfl,gZ.of bo,(j1.append j2).kp kp⟩)
  | _=>exact(show False from r).elim
 | ref a=>
  cases e with
  | ref b=>
   have e1:=aR.mp i1;have e2:=aR.mp i2;subst e1;subst e2;obtain⟨xs,ys,h1,h2,h3,r⟩:=r;obtain⟨vs,q1,j1⟩:=hS.lst h1;obtain⟨us,q2,j2⟩:=hS.lst h2;refine Fh K2 s σ H _ _ v u Q I rx ry ⟨a,b,vs,us,rfl,rfl,q1,q2,by rw [<- j1.length,<- j2.length]; exact h3,λp hp=>?_⟩
   exact n _ _ _ _ (r p (hS.free hp)) (Kp.new hp) (hS.newL hp (j1.append j2)) (aR.mpr rfl)
  | _=>exact(show False from r).elim
 | _=>exact(show False from r).elim
def FI:D->D->KO KY
 | .int i,.int j=>some (decide (i=j))
 | .bl i,.bl j=>some (decide (i=j))
 | .str i,.str j=>some (decide (i=j))
 | _,_=>none
def HP:D2:=λd e S k=>match FI d e with
 | some b=>k (.bl b) S
 | none=>False
def HR:D2:=λd e S k=>match FI d e with
 | some b=>k (.bl (!b)) S
 | none=>False
theorem C1 {K:Fg} {H:Hp} {d e:D} {x y:V} {b:KY} (h:FI d e=some b) (i1:bA K H d x) (i2:bA K H e y):Ed x y=true/\decide (x=y)=b:=by
 unfold FI at h
 split at h
 ·have e1:=isInt.mp i1;have e2:=isInt.mp i2;subst e1; subst e2
  cases h;exact⟨rfl,by simp⟩
 ·have e1:=aS.mp i1;have e2:=aS.mp i2;subst e1; subst e2
  cases h;exact⟨rfl,by simp⟩
 ·have e1:=a7.mp i1;have e2:=a7.mp i2;subst e1; subst e2
  cases h;exact⟨rfl,by simp⟩
 ·cases h
theorem dX:cS X (compareOp .Eq) (fm X.K HP):=by
 intro K2 s σ H x y v u Q I rx ry h;obtain⟨d,e,S,k,i1,i2,hS,r,n⟩:=h;unfold HP at r;cases q:FI d e with
 | none=>rw [q] at r; exact r.elim
 | some b=>
  rw [q] at r;obtain⟨h1,h2⟩:=C1 q i1 i2;exact Hu K2 s σ H _ _ v u Q I rx ry ⟨h1,by rw [h2]; exact eJ n hS r (aS.mpr rfl)⟩
theorem kN:cS X (compareOp .NotEq) (fm X.K HR):=by
 intro K2 s σ H x y v u Q I rx ry h;obtain⟨d,e,S,k,i1,i2,hS,r,n⟩:=h;unfold HR at r;cases q:FI d e with
 | none=>rw [q] at r; exact r.elim
 | some b=>
  rw [q] at r;obtain⟨h1,h2⟩:=C1 q i1 i2;exact F2 K2 s σ H _ _ v u Q I rx ry ⟨h1,by rw [h2]; exact eJ n hS r (aS.mpr rfl)⟩
def vM:D->KY
 | .non=>true
 | _=>false
def Je:D2:=λd e S k=>match d,e with
 | .bl c,.bl b=>k (.bl (c == b)) S
 | d,.non=>k (.bl (vM d)) S
 | _,_=>False
def yY:D2:=λd e S k=>match d,e with
 | .bl c,.bl b=>k (.bl (!(c == b))) S
 | d,.non=>k (.bl (!vM d)) S
 | _,_=>False
theorem tY {K:Fg} {H:Hp} {d:D} {x:V} (i:bA K H d x):decide (x=.non)=vM d:=by
 cases d with
 | non=>rw [b7.mp i]; rfl
 | bl b=>rw [aS.mp i]; rfl
 | int b=>rw [isInt.mp i]; rfl
 | str b=>rw [a7.mp i]; rfl
 | ref b=>rw [aR.mp i]; rfl
 | ty b=>rw [AV.mp i]; rfl
 | tup b=>obtain⟨a,xs,rfl,_⟩:=bw.mp i; rfl
 | rl b=>obtain⟨a,xs,rfl,_⟩:=tW.mp i; rfl
theorem DF:cS X (compareOp .Is) (fm X.K Je):=by
 intro K2 s σ H x y v u Q I rx ry h;obtain⟨d,e,S,k,i1,i2,hS,r,n⟩:=h;unfold Je at r
 split at r
 ·rename_i c b
  have e1:=aS.mp i1;have e2:=aS.mp i2;subst e1; subst e2
  cases rx; cases ry
  exact is_bool ⟨.bl _,H,I,rfl,eJ n hS r (aS.mpr rfl)⟩
 ·have e2:=b7.mp i2;exact DV K2 s σ H _ _ v u Q I rx ry ⟨e2,by rw [tY i1]; exact eJ n hS r (aS.mpr rfl)⟩
 ·exact r.elim
theorem w_:cS X (compareOp .IsNot) (fm X.K yY):=by
 intro K2 s σ H x y v u Q I rx ry h;obtain⟨d,e,S,k,i1,i2,hS,r,n⟩:=h;unfold yY at r
 split at r
 ·rename_i c b
  have e1:=aS.mp i1;have e2:=aS.mp i2;subst e1; subst e2
  cases rx; cases ry
  exact isnot_bool ⟨.bl _,H,I,rfl,eJ n hS r (aS.mpr rfl)⟩
 ·have e2:=b7.mp i2;exact Bm K2 s σ H _ _ v u Q I rx ry ⟨e2,by rw [tY i1]; exact eJ n hS r (aS.mpr rfl)⟩
 ·exact r.elim
def Ep:D1:=λd S k=>match d with
 | .int i=>k (.int (-i)) S
 | _=>False
theorem qM:G4 X (unaryOp .USub) (Jg X.K Ep):=by
 intro K2 s σ H x v Q I rx h;obtain⟨d,S,k,i1,hS,r,n⟩:=h;cases d with
 | int i=>
  have e1:=isInt.mp i1;subst e1;exact DX K2 s σ H _ v Q I rx ⟨i,rfl,eJ n hS r (isInt.mpr rfl)⟩
 | _=>exact(show False from r).elim
def tv:D2:=λd e S k=>match d,e with
 | .tup ds,.int i=>(match atI ds i with
  | some c=>k c S
  | none=>False)
 | .rl ds,.int i=>(match atI ds i with
  | some c=>k c S
  | none=>False)
 | .ref a,.int i=>(match S a with
  | some (.lst ds)=>(match atI ds i with
   | some c=>k c S
   | none=>False)
  | _=>False)
 | _,_=>False
theorem IsDs.atI {K:Fg} {H:Hp} {ds:List D} {vs:List V} {i:Int} {d:D} (r:IsDs K H ds vs) (h:atI ds i=some d):∃ v,L2.atI vs i=some v/\bA K H d v:=by
 unfold L2.atI at h ⊢;rw [<- r.length];cases q:zo ds.length i with
 | none=>rw [q] at h; cases h
 | some j=>
  rw [q] at h;exact r.get h
theorem Gh:wz X (fm X.K tv):=by
 intro value slice K2 s σ H x y v u Q I rx ry h hs;obtain⟨d,e,S,k,i1,i2,hS,r,n⟩:=h;cases e with
 | int i=>
  have e2:=isInt.mp i2;subst e2;cases d with
  | tup ds=>
   obtain⟨a,vs,rfl,t,j⟩:=bw.mp i1;cases q:atI ds i with
   | none=>simp only [tv,q] at r
   | some c=>
    simp only [tv,q] at r;obtain⟨w,e1,e2⟩:=j.atI q;exact Ej value slice K2 s σ H _ _ v u Q I rx ry ⟨a,vs,i,w,rfl,rfl,t,e1,eJ n hS r e2⟩ hs
  | rl ds=>
   obtain⟨a,vs,rfl,t,j⟩:=tW.mp i1;cases q:atI ds i with
   | none=>simp only [tv,q] at r
   | some c=>
    simp only [tv,q] at r;obtain⟨w,e1,e2⟩:=j.atI q;exact wE value slice K2 s σ H _ _ v u Q I rx ry ⟨a,vs,i,w,rfl,rfl,t.sq,e1,eJ n hS r e2⟩ hs
  | ref a=>
   have e1:=aR.mp i1;subst e1;cases z:S a with
   | none=>simp only [tv,z] at r
   | some o=>
    cases o with
    | dic=>simp only [tv,z] at r
    | exc _=>simp only [tv,z] at r
    | fn _=>simp only [tv,z] at r
    | tbl _=>simp only [tv,z] at r
    | gen _=>simp only [tv,z] at r
    | lst ds=>
     obtain⟨vs,hl,j⟩:=hS.lst z;cases q:atI ds i with
     | none=>simp only [tv,z,q] at r
     | some c=>
      simp only [tv,z,q] at r;obtain⟨w,e1,e2⟩:=j.atI q;exact wE value slice K2 s σ H _ _ v u Q I rx ry ⟨a,vs,i,w,rfl,rfl,eH.of hl,e1,eJ n hS r e2⟩ hs
  | _=>exact(show False from r).elim
 | _=>
  cases d <;> exact(show False from r).elim
end
abbrev bE:=List D->DH->DK->Prop
def nX (K:Fg) (r:bE):List V->Hp->VK->Prop:=λxs H Q=>∃ ds S k,IsDs K H ds xs/\Hs K H S/\r ds S k/\∀ d' S' v H',k d' S'->Kp H H'->Hs K H' S'->bA K H' d' v->Q v H'
def gj (r:bE) (t:DA):DE:=λL S k=>t L S λds S1=>r ds S1 k
section
variable {X:Cx} {x:Str} {p pos:Pos} {e:KP} {es:List KP} {t:DA} {id T:KZ} {r:bE}
theorem uq {K:Fg}:∀ σ H Q,up K (gj r t) σ H Q->Iw (nX K r) (qT K t) σ H Q:=fun σ H Q ⟨L,S,k,hL,hS,h,n⟩=>
 qT.go hL hS h λds S1 vs H1 h1 k1 hL1 hS1 i1=>⟨ds,S1,k,i1,hS1,h1,λd' S' v H' q k3 z1 z2=>n d' S' v H' q (k1.trans k3) z1 z2⟩
def ca (K:Fg) (F:bE):Sp:=λvs H Q _=>nX K F vs H Q
structure bf (P:KQ) (w:KS) (K:Fg) (mg:Str->KO KM) (base:KT) (x:Str) (n:Nat) (F:bE):Prop where
 ex:∃ f fd ps,aQ P w K mg base b8 n f fd ps (ca K F)/\mg x=some (.ref f)/\PySem.W.keepIn K (.ref f)=true/\pC K fd ps []
theorem EY {n:Nat} {F:bE} (c:bf X.prog X.w X.K X.mg X.base x n F) (hr:cv n X.A) (hg:Gl X x) (ha:PA X (e::es) (qT X.K t)) (hdb:(x == ("__debug__":Str))=false:=by decide)
  (he:starEach (e::es) X.env=(false,eval e X.env)::starEach es X.env:=by exact cQ rfl) (hpl:(backTo pos (starEach es X.env)).any (·.1)=false:=by exact hV rfl):
  PE X (.Call (.Name x p) (e::es) [] pos) (up X.K (gj F t)):=by
 obtain⟨f,fd,ps,F1,h1,h2,h3⟩:=c.ex;refine PE.imp (B9 F1 hr hg h1 h2 h3 .nil G_ ha hdb he hpl) fun σ H Q z9=>?_
 obtain⟨L,S,k,hL,hS,h,n⟩:=z9;refine qT.go hL hS h λds S1 vs H1 h1 k1 hL1 hS1 i1=>?_
 show ca X.K F (vs++[]) H1 Q E0
 rw [Ke];exact⟨ds,S1,k,i1,hS1,h1,λd' S' v H' q k3 z1 z2=>n d' S' v H' q (k1.trans k3) z1 z2⟩
def G':bE:=λds S k=>match ds with
 | [.int i]=>k (.int (if i < 0 then -i else i)) S
 | _=>False
theorem cf {K:Fg} {H:Hp} {d:D} {xs:List V} (h:IsDs K H [d] xs):∃ x,xs=[x]/\bA K H d x:=by
 obtain⟨v,r,rfl,h1,h2⟩:=bD.mp h;rw [eF.mp h2];exact⟨v,rfl,h1⟩
theorem kB {K:Fg} {H:Hp} {d e:D} {xs:List V} (h:IsDs K H [d,e] xs):∃ x y,xs=[x,y]/\bA K H d x/\bA K H e y:=by
 obtain⟨v,r,rfl,h1,h2⟩:=bD.mp h;obtain⟨y,rfl,h3⟩:=cf h2;exact⟨v,y,rfl,h1,h3⟩
theorem qL:bP X (.builtin "abs") (nX X.K G'):=by
 intro K2 s σ H xs us Q I rs h;obtain⟨ds,S,k,i,hS,r,n⟩:=h;unfold G' at r
 split at r
 ·obtain⟨x,rfl,i1⟩:=cf i;have e1:=isInt.mp i1;subst e1;exact zh K2 s σ H _ us Q I rs ⟨_,rfl,eJ n hS r (isInt.mpr rfl)⟩
 ·exact r.elim
def Dy:bE:=λds S k=>match ds with
 | [.tup xs]=>k (.int xs.length) S
 | [.rl xs]=>k (.int xs.length) S
 | [.ref a]=>(match S a with
  | some (.lst xs)=>k (.int xs.length) S
  | _=>False)
 | _=>False
theorem GK:bP X (.builtin "len") (nX X.K Dy):=by
 intro K2 s σ H xs us Q I rs h;obtain⟨ds,S,k,i,hS,r,n⟩:=h;unfold Dy at r
 split at r
 ·obtain⟨x,rfl,i1⟩:=cf i;obtain⟨a,vs,rfl,t,j⟩:=bw.mp i1;exact i6 K2 s σ H _ us Q I rs ⟨a,vs,rfl,.inr t,by rw [<- j.length]; exact eJ n hS r (isInt.mpr rfl)⟩
 ·obtain⟨x,rfl,i1⟩:=cf i;obtain⟨a,vs,rfl,t,j⟩:=tW.mp i1;exact i6 K2 s σ H _ us Q I rs ⟨a,vs,rfl,.inl t.sq,by rw [<- j.length]; exact eJ n hS r (isInt.mpr rfl)⟩
 ·obtain⟨x,rfl,i1⟩:=cf i;have e1:=aR.mp i1;subst e1
  split at r
  ·rename_i z
   obtain⟨vs,hl,j⟩:=hS.lst z;exact i6 K2 s σ H _ us Q I rs ⟨_,vs,rfl,.inl (eH.of hl),by rw [<- j.length]; exact eJ n hS r (isInt.mpr rfl)⟩
  ·exact r.elim
 ·exact r.elim
def GI:bE:=λds S k=>match ds with
 | [.int i,.int j]=>k (.int (if j > i then j else i)) S
 | _=>False
def G5:bE:=λds S k=>match ds with
 | [.int i,.int j]=>k (.int (if j < i then j else i)) S
 | _=>False
theorem CY (hc:X.calm=true:=by rfl):bP X (.builtin "max") (nX X.K GI):=by
 intro K2 s σ H xs us Q I rs h;obtain⟨ds,S,k,i,hS,r,n⟩:=h;unfold GI at r
 split at r
 ·obtain⟨x,y,rfl,i1,i2⟩:=kB i;have e1:=isInt.mp i1;have e2:=isInt.mp i2;subst e1; subst e2
  exact xQ hc K2 s σ H _ us Q I rs ⟨_,_,rfl,eJ n hS r (isInt.mpr rfl)⟩
 ·exact r.elim
theorem HD (hc:X.calm=true:=by rfl):bP X (.builtin "min") (nX X.K G5):=by
 intro K2 s σ H xs us Q I rs h;obtain⟨ds,S,k,i,hS,r,n⟩:=h;unfold G5 at r
 split at r
 ·obtain⟨x,y,rfl,i1,i2⟩:=kB i;have e1:=isInt.mp i1;have e2:=isInt.mp i2;subst e1; subst e2
  exact yc hc K2 s σ H _ us Q I rs ⟨_,_,rfl,eJ n hS r (isInt.mpr rfl)⟩
 ·exact r.elim
def En:bE:=λds S k=>match ds with
 | [.int i]=>k (.int i) S
 | [.bl b]=>k (.int (if b then 1 else 0)) S
 | _=>False
theorem yu:bP X (.type "int") (nX X.K En):=by
 intro K2 s σ H xs us Q I rs h;obtain⟨ds,S,k,i,hS,r,n⟩:=h;unfold En at r
 split at r
 ·obtain⟨x,rfl,i1⟩:=cf i;have e1:=isInt.mp i1;subst e1;exact qP K2 s σ H _ us Q I rs (.inl ⟨_,rfl,eJ n hS r (isInt.mpr rfl)⟩)
 ·obtain⟨x,rfl,i1⟩:=cf i;have e1:=aS.mp i1;subst e1;exact qP K2 s σ H _ us Q I rs (.inr ⟨_,rfl,eJ n hS r (isInt.mpr rfl)⟩)
 ·exact r.elim
def FC:bE:=λds S k=>match ds with
 | [.int i]=>i.natAbs.log2 < 1920/\k (.str (toString i)) S
 | _=>False
theorem G6:bP X (.type "str") (nX X.K FC):=by
 intro K2 s σ H xs us Q I rs h;obtain⟨ds,S,k,i,hS,r,n⟩:=h;unfold FC at r
 split at r
 ·obtain⟨x,rfl,i1⟩:=cf i;have e1:=isInt.mp i1;subst e1;exact sF K2 s σ H _ us Q I rs ⟨_,rfl,r.1,eJ n hS r.2 (a7.mpr rfl)⟩
 ·exact r.elim
def HE:KO DO->KO Ty
 | some (.lst _)=>some .lst
 | some .dic=>some .dic
 | _=>none
def FM (S:DH):D->KO Ty
 | .non=>some .non
 | .bl _=>some .bool
 | .int _=>some .int
 | .str _=>some .str
 | .tup _=>some .tup
 | .rl _=>none
 | .ref a=>HE (S a)
 | .ty _=>none
def pZ:Ty->Ty->KY
 | .non,.non=>true | .bool,.bool=>true | .bool,.int=>true | .int,.int=>true | .str,.str=>true | .tup,.tup=>true | .lst,.lst=>true | .dic,.dic=>true | .verr,.verr=>true
 | _,_=>false
theorem uT {K:Fg} (t c:Ty):PySem.W.kitOne K (.type t.name) (.type c.name)=some (pZ t c):=by
 cases t <;> cases c <;> rfl
def GC:D1:=λd S k=>match d with
 | .int i=>k (.int ((Builtin.Int.intBits i:Nat):Int)) S
 | _=>False
def jt (xs:List D) (lo hi:KO Int):List D:=(xs.drop (HT.cI xs.length 0 lo)).take (HT.cI xs.length xs.length hi - HT.cI xs.length 0 lo)
abbrev Bf:=Lo->DH->(KO Int->DH->Prop)->Prop
def JN (K:Fg) (g:Bf):TO:=fun σ H Q=>∃ L S k,Lc K H L σ/\Hs K H S/\g L S k/\∀ i S' H',k i S'->Kp H H'->Hs K H' S'->Q i H'
def Hb:Bf:=λ_ S k=>k none S
def FS (g:DE):Bf:=λL S k=>g L S λd S1=>match d with
 | .int i=>k (some i) S1
 | _=>False
end
section
variable {X:Cx} {st:KU} {a_:List KU} {g h:DS} {e:KP} {ge:DE} {pos:Pos}
def wZ:DS:=λM L S=>M.nx L S
def rW (g h:DS):DS:=λM L S=>g {M with nx:=h M} L S
theorem Cn {K:Fg}:∀ N σ H,Cr K (rW g h) N σ H->GY (Cr K g) (Cr K h) N σ H:=λN σ H ⟨L,S,M,hL,hS,q,r⟩=>
 ⟨L,S,{M with nx:=h M},hL,hS,q,⟨λL' S' σ' H' q' k' hL' hS'=>⟨L',S',M,hL',hS',q',r.kp k'⟩,r.rt,r.bk,r.ct⟩⟩
def GX (ge:DE):DS:=λM L S=>ge L S λ_ S1=>M.nx L S1
def Al (ge:DE):DS:=λM L S=>ge L S M.rt
def xT (c:DT) (g h:DS):DS:=λM L S=>c L S λb S1=>if b=true then g M L S1 else h M L S1
def sH:DS:=λ_ _ _=>False
def uW (i:Nat) (ge:DE):DS:=λM L S=>ge L S λd S1=>M.nx (L.set i (some d)) S1
def I_ (i j:Nat) (ta:DA):DS:=λM L S=>ta L S λds S1=>match ds with
 | [d,e]=>M.nx ((L.set i (some d)).set j (some e)) S1
 | _=>False
abbrev DG:=D->Lo->DH->(Lo->DH->Prop)->Prop
def DW (K:Fg) (g:DG):TG:=λv σ H Q=>∃ d L S k,bA K H d v/\Lc K H L σ/\Hs K H S/\g d L S k/\∀ L' S' σ' H',k L' S'->Kp H H'->Lc K H' L' σ'->Hs K H' S'->Q σ' H'
theorem PG.imp {e:KP} {t t':TG} (h:PG X e t) (i:∀ v σ H Q,t' v σ H Q->t v σ H Q):PG X e t':=λK2 s σ H v u Q I rv q=>h K2 s σ H v u Q I rv (i v σ H Q q)
def eV (i:Nat):DG:=λd L S k=>k (L.set i (some d)) S
abbrev Be:=List D->Lo->DH->(Lo->DH->Prop)->Prop
def Ja (K:Fg) (g:Be):zB:=λv σ H Q=>∃ d L S k,IsDs K H d v/\Lc K H L σ/\Hs K H S/\g d L S k/\∀ L' S' σ' H',k L' S'->Kp H H'->Lc K H' L' σ'->Hs K H' S'->Q σ' H'
theorem zg.imp {e:List KP} {t t':zB} (h:zg X e t) (i:∀ v σ H Q,t' v σ H Q->t v σ H Q):zg X e t':=λK2 s σ H v u Q I rv q=>h K2 s σ H v u Q I rv (i v σ H Q q)
def HA:Be:=λds L S k=>ds=[]/\k L S
def Fj (t:DG) (u:Be):Be:=λds L S k=>match ds with
 | d::r=>t d L S λL1 S1=>u r L1 S1 k
 | []=>False
def FY (ge:DE) (g:DG):DS:=λM L S=>ge L S λd S1=>g d L S1 M.nx
def Ea (c:DT) (b:DS):DS:=λM L S=>∃ W:Nat->Lo->DH->Prop,(∃ m,W m L S)/\∀ m L S,W m L S->
 c L S λt S1=>if t=true then ∃ N:Lo->DH->Prop,(∀ L' S',N L' S'->∃ m',m' < m/\W m' L' S')/\b {M with nx:=N,ct:=N,bk:=M.nx} L S1 else M.nx L S1
def fZ (ok:DH->Prop) (g:DG) (b:DS) (M:lZ):List D->Lo->DH->Prop
 | [],L,S=>ok S/\M.nx L S
 | d::r,L,S=>ok S/\g d L S λL1 S1=>b {M with nx:=λL2 S2=>fZ ok g b M r L2 S2,ct:=λL2 S2=>fZ ok g b M r L2 S2,bk:=M.nx} L1 S1
theorem ml {K:Fg} {ok:DH->Prop} {gg:DG} {b:DS} {M:lZ} {ds:List D} {L:Lo} {S:DH} {N:qi} {σ:L2.St} {H:Hp} {J:It} (hL:Lc K H L σ) (hS:Hs K H S) (h:fZ ok gg b M ds L S) (r:Bb K H M N)
  (hgo:∀ i d S1 H1,ds[i]?=some d->Kp H H1->Hs K H1 S1->ok S1->J.go i H1/\∀ x H',J.yld i H1 x H'->H'=H1/\bA K H1 d x)
  (hst:∀ S1 H1,Kp H H1->Hs K H1 S1->ok S1->J.stop ds.length H1):
  ∃ W:Nat->Nat->L2.St->Hp->Prop,(∃ m,W 0 m σ H)/\∀ i m σ H,W i m σ H->
   (J.stop i H/\N.nx σ H)\/(J.go i H/\∃ N':L2.St->Hp->Prop,(∀ σ' H',N' σ' H'->∃ m',m' < m/\W (i+1) m' σ' H')/\∀ x H',J.yld i H x H'->DW K gg x σ H' fun σ2 H2=>Cr K b {N with nx:=N',ct:=N',bk:=N.nx} σ2 H2):=by
 refine⟨λi m σ1 H1=>m=ds.length - i/\i<=ds.length/\∃ L1 S1,Lc K H1 L1 σ1/\Hs K H1 S1/\Kp H H1/\fZ ok gg b M (ds.drop i) L1 S1,⟨ds.length,by simp,Kz _,L,S,hL,hS,Kp.refl H,h⟩,?_⟩
 rintro i m σ1 H1 ⟨rfl,hi,L1,S1,hL1,hS1,k1,w1⟩
 by_cases hlt:i < ds.length
 ·have e:ds.drop i=ds[i]::ds.drop (i+1):=Kw hlt;rw [e] at w1;obtain⟨o1,w1⟩:=w1;obtain⟨g1,y1⟩:=hgo i ds[i] S1 H1 (by simp [hlt]) k1 hS1 o1
  refine .inr ⟨g1,fun σ' H'=>i+1<=ds.length/\∃ L' S',Lc K H' L' σ'/\Hs K H' S'/\Kp H H'/\fZ ok gg b M (ds.drop (i+1)) L' S',fun σ' H' z9=>by obtain⟨q1,q2⟩:=z9; exact⟨ds.length - (i+1),by omega,rfl,q1,q2⟩,λx H' y=>?_⟩
  obtain⟨rfl,ix⟩:=y1 x H' y;refine⟨ds[i],L1,S1,_,ix,hL1,hS1,w1,λL2 S2 σ2 H2 q k2 hL2 hS2=>⟨L2,S2,_,hL2,hS2,q,?_⟩⟩
  have r2:=r.kp (k1.trans k2);exact⟨λL3 S3 σ3 H3 q3 k3 hL3 hS3=>⟨hlt,L3,S3,hL3,hS3,(k1.trans k2).trans k3,q3⟩,r2.rt,r2.nx,λL3 S3 σ3 H3 q3 k3 hL3 hS3=>⟨hlt,L3,S3,hL3,hS3,(k1.trans k2).trans k3,q3⟩⟩
 ·have e:i=ds.length:=by omega
  subst e;rw [List.drop_length] at w1;obtain⟨o1,w1⟩:=w1;exact .inl ⟨hst S1 H1 k1 hS1 o1,r.nx L1 S1 σ1 H1 w1 k1 hL1 hS1⟩
def aI (S:DH):D->KO (List D×KO KN)
 | .tup ds=>some (ds,none)
 | .rl ds=>some (ds,none)
 | .ref a=>(match S a with
  | some (.lst ds)=>some (ds,some a)
  | _=>none)
 | _=>none
def eK:List D×KO KN->DH->Prop
 | (_,none)=>λ_=>True
 | (ds,some a)=>λS=>S a=some (.lst ds)
theorem PI.imp {tg e:KP} {w w':TI} (h:PI X tg e w) (i:∀ σ H R,w' σ H R->w σ H R):PI X tg e w':=λK2 s σ H R I q=>h K2 s σ H R I (i σ H R q)
def Ic (K:Fg) (t:TE):TI:=fun σ H R=>t σ H λx H1=>∃ a,x=.ref a/\(((∃ xs,eH K H1 a xs)/\R (F0 K a) H1)\/((∃ xs,gZ K H1 a xs)/\R (Ho K a) H1))
theorem sg {tg l:KP} {tl:TE} (hl:PE X l tl):PI X tg l (Ic X.K tl):=by
 intro K2 s σ H R I h;refine bc (hl K2 s σ H _ I h) λv s1 z9=>?_
 obtain⟨x,H1,I1,r1,q1⟩:=z9;obtain⟨a,e,q1⟩:=q1;subst e;cases r1;rcases q1 with ⟨⟨xs,hq⟩,q⟩ | ⟨⟨xs,hq⟩,q⟩
 ·obtain⟨its,rv,p,hz⟩:=I1.list hq;refine wpAny_pyIter_list p.isList ?_;refine⟨s1.heap.objs.size,[s1.heap.objs.size],_,_,H1,rfl,I1.kept (t':=s1.toks) λb o e=>pp _ e,x5 a _,⟨_,JV _ rfl,rfl,rfl⟩,λb hb=>?_,q⟩
  have e:b=s1.heap.objs.size:=by simpa using hb
  subst e;exact I1.fpOk (JX _) (I1.hok.fresh (JX _))
 ·obtain⟨its,rv,p,hz⟩:=I1.tuple hq;refine wpAny_pyIter_tuple (show s1.heap.IsTuple a its.toArray from p) ?_
  refine⟨s1.heap.objs.size,[s1.heap.objs.size],_,_,H1,rfl,I1.kept (t':=s1.toks) λb o e=>pp _ e,vB a _,⟨_,JV _ rfl,rfl,rfl⟩,λb hb=>?_,q⟩
  have e:b=s1.heap.objs.size:=by simpa using hb
  subst e;exact I1.fpOk (JX _) (I1.hok.fresh (JX _))
def Gs (ta:DA) (g:DG) (b:DS):DS:=λM L S=>ta L S λds S1=>match ds with
 | [.int n]=>(-(2 ^ 62)<=n/\n < 2 ^ 62)/\fZ (λ_=>True) g b M ((List.range n.toNat).map λi=>D.int (i:Nat)) L S1
 | _=>False
end
section
variable {P:KQ} {w:KS} {K:Fg} {mg:Str->KO KM} {base:KT}
theorem _root_.L2.xP.okD {x K3:Str} {st:KU} {f:KN} {fd:FuncData} {N ps:List Str} {k:Nat} {F:bE} (Fn:xP K x K3 st f fd) (Sc:ao N ps (aj st)) (len:∀ ds S k,F ds S k->ds.length=ps.length)
  (hbody:∀ (cdv:KM) (A:KR) (outer:List Env) (s:KL) (H:Hp) (E:XK),cv k (A.deeper (envOfC K3 (aj st) s.heap.objs.size f cdv))->
   ∃ g,rC (uu b8 P w K mg base N K3 (aj st) f cdv A outer s H E).nox (cN st) (Cr K g)/\
    ∀ ds S k,F ds S k->g {nx:=λ_ S'=>k .non S',rt:=k} (ds.map some++List.replicate (N.length - ps.length) none) S):aQ P w K mg base b8 (k+1) f fd ps (ca K F):=by
 refine Fn.ok Sc (λvs H Q E h=>?_) (λcdv A outer s H vs Q E hr h=>?_)
 ·obtain⟨ds,S,k,i,_,q,_⟩:=h;rw [<- i.length];exact len ds S k q
 ·obtain⟨g,hg,q⟩:=hbody cdv A outer s H E hr;obtain⟨ds,S,k',i,hS,h,n⟩:=h;refine⟨_,hg,ds.map some++List.replicate (N.length - ps.length) none,S,_,?_,hS,q ds S k' h,?_⟩
  ·unfold L2.start;rw [<- i.length,len ds S k' h];exact Lc.start _ i
  ·exact⟨λL S' σ H' h1 k1 _ hS'=>n _ S' _ H' h1 k1 hS' (b7.mpr rfl),λd S' v H' h1 k1 hS' i1=>n d S' v H' h1 k1 hS' i1,λ_ _ _ _ h1=>h1.elim,λ_ _ _ _ h1=>h1.elim⟩
theorem bf.mk' {x K3:Str} {st:KU} {f:KN} {fd:FuncData} {ps:List Str} {n:Nat} {F:bE} (Fn:xP K x K3 st f fd) (h:aQ P w K mg base b8 n f fd ps (ca K F)) (hm:mg x=some (.ref f)) (hb:pC K fd ps []):bf P w K mg base x n F:=
 ⟨f,fd,ps,h,hm,Fn.kp,hb⟩
end
end DL
namespace DL
open PySem PySem.Spec PyProof.Rows L2 HM
theorem C' {K:Fg} {H:Hp} {a:KN} {ns:List Int} {F:bE} {E:XK} (ho:Bn H) (hS:eH K H a (ns.map V.int)) (h:F [.rl (ns.map D.int)] (λ_=>none) (λd _=>d=.bl true)):ca K F [.ref a] H (λv _=>v=.bl true) E:=by
 refine⟨[.rl (ns.map D.int)],λ_=>none,λd _=>d=.bl true,IsDs.cons (tW.mpr ⟨a,ns.map V.int,rfl,?_,?_⟩) IsDs.nil,λa o e=>(by cases e),h,λd' S' v H' e _ _ i=>?_⟩
 ·rcases hS with (h1 | h1) | h1
  ·rcases ho a with z | ⟨o,xs,z⟩
   ·rw [z] at h1; cases h1
   ·rw [z] at h1; cases h1
  ·exact .inl h1
  ·exact .inr h1
 ·clear h hS
  induction ns with
  | nil=>exact IsDs.nil
  | cons n ns ih=>exact IsDs.cons (isInt.mpr rfl) ih
 ·subst e;exact aS.mp i
theorem uR {m n:Nat} {x y:Int} (hx:Bt m x) (hy:Bt n y) (h:m+n<=134217728:=by decide):IntMulOk x y:=IntMulOk.of_le (intBits_le_iff.mpr hx) (intBits_le_iff.mpr hy) h
theorem BW {m:Nat} {y:Int} (h0:y≠0) (hy:Bt m y) (h:m<=9000:=by decide):re x y:=⟨h0,(Nat.log2_lt (by omega)).mpr (hy.mono h)⟩
def pr (a b:Int):D:=.tup [.int a,.int b]
def fr (q:Rat):D:=pr q.num (q.den:Int)
end DL
namespace DL
theorem bq {x:D} {r:List D}:L2.atI (x::r) 0=some x:=L2.fk (j:=0) rfl
theorem m_ {x y:D} {r:List D}:L2.atI (x::y::r) 1=some y:=L2.fk (j:=1) rfl
theorem Cz {x y z:D} {r:List D}:L2.atI (x::y::z::r) 2=some z:=L2.fk (j:=2) rfl
theorem Eu {x y z u:D} {r:List D}:L2.atI (x::y::z::u::r) 3=some u:=L2.fk (j:=3) rfl
theorem GF {n:Nat}:L2.zo (n+1) 0=some 0:=by
 unfold L2.zo;rw [if_pos (by decide),if_pos (by omega)]
 rfl
end DL
namespace DL
open PySem PySem.Spec PyProof.Rows L2
def Ct:D->D->KO KY
 | .int i,.int j=>some (i == j)
 | .bl i,.bl j=>some (i == j)
 | .str i,.str j=>some (i == j)
 | .non,.non=>some true
 | .non,.int _=>some false
 | .int _,.non=>some false
 | .non,.bl _=>some false
 | .bl _,.non=>some false
 | .bl a,.int j=>some ((if a then 1 else 0) == j)
 | .int i,.bl b=>some (i == (if b then 1 else 0))
 | _,_=>none
def gF (f:D->D->KO KY):List D->List D->KO KY
 | [],[]=>some true
 | [],_::_=>some false
 | _::_,[]=>some false
 | x::xs,y::ys=>match f x y,gF f xs ys with
  | some a,some b=>some (a && b)
  | _,_=>none
def g7:Nat->D->D->KO KY
 | 0,d,e=>Ct d e
 | n+1,.tup xs,.tup ys=>gF (g7 n) xs ys
 | _+1,d,e=>Ct d e
theorem pD (n:Nat) (d e:D):g7 (n+1) d e=(match d,e with | .tup xs,.tup ys=>gF (g7 n) xs ys | d,e=>Ct d e):=by
 cases d <;> cases e <;> rfl
def hU (f:D->D->KO KY):List D->List D->Nat->KY
 | x::_,y::_,0=>(f x y).getD false
 | _::xs,_::ys,j+1=>hU f xs ys j
 | _,_,_=>false
theorem yK (e:Nat->KY) (m:Nat):(List.range (m+1)).all e=(e 0 && (List.range m).all λj=>e (j+1)):=by
 rw [List.range_succ_eq_map,List.all_cons,List.all_map]
 rfl
theorem lH {f:D->D->KO KY}:∀ {xs ys:List D} {b:KY},gF f xs ys=some b->((List.range (min xs.length ys.length)).all (hU f xs ys) && xs.length == ys.length)=b
 | [],[],b,h=>by unfold gF at h; cases h; rfl
 | [],_::_,b,h=>by unfold gF at h; cases h; simp
 | _::_,[],b,h=>by unfold gF at h; cases h; simp
 | x::xs,y::ys,b,h=>by
  unfold gF at h
  split at h
  ·rename_i a c e1 e2
   cases h;have ih:=lH e2;rw [J9,J9,Nat.succ_min_succ,yK];have e3:hU f (x::xs) (y::ys) 0=a:=by unfold hU; rw [e1]; rfl
   rw [e3,Bool.and_assoc];have e4:(λj=>hU f (x::xs) (y::ys) (j+1))=hU f xs ys:=by funext j; rfl
   rw [e4];have e5:(xs.length+1 == ys.length+1)=(xs.length == ys.length):=by simp
   rw [e5,ih]
  ·cases h
theorem oF {f:D->D->KO KY}:∀ {xs ys:List D} {b:KY} {j:Nat} {x y:D},gF f xs ys=some b->xs[j]?=some x->ys[j]?=some y->f x y=some (hU f xs ys j)
 | [],_,_,_,_,_,_,e,_=>by simp at e
 | _::_,[],_,_,_,_,_,_,e=>by simp at e
 | x::xs,y::ys,b,0,x',y',h,e1,e2=>by
  simp at e1 e2
  subst e1; subst e2
  unfold gF at h
  split at h
  ·rename_i a c q1 q2
   unfold hU;rw [q1]
   rfl
  ·cases h
 | x::xs,y::ys,b,j+1,x',y',h,e1,e2=>by
  unfold gF at h
  split at h
  ·rename_i a c q1 q2
   unfold hU;exact oF q2 (by simpa using e1) (by simpa using e2)
  ·cases h
section
variable {X:Cx} {K2:List (KN×K1)} {σ:L2.St} {H:Hp} {s:KL}
theorem lC {K:Fg} {ds es:List D} {xs ys:List V} {us ws:List KM} {j:Nat} (i1:IsDs K H ds xs) (i2:IsDs K H es ys) (r1:aV xs us) (r2:aV ys ws) (h1:j < us.length) (h2:j < ws.length):
  ∃ d e x y,ds[j]?=some d/\es[j]?=some e/\bA K H d x/\bA K H e y/\aW x us[j]/\aW y ws[j]:=by
 have l1:=i1.length;have l2:=i2.length;have l3:=r1.length;have l4:=r2.length;have e1:ds[j]?=some ds[j]:=by simp [show j < ds.length by omega]
 have e2:es[j]?=some es[j]:=by simp [show j < es.length by omega]
 obtain⟨x,q1,d1⟩:=i1.get e1;obtain⟨y,q2,d2⟩:=i2.get e2;obtain⟨u,q3,rx⟩:=r1.get q1;obtain⟨w,q4,ry⟩:=r2.get q2;have f1:us[j]=u:=(Kl.mp q3).2;have f2:ws[j]=w:=(Kl.mp q4).2;exact⟨_,_,x,y,e1,e2,d1,d2,by rw [f1]; exact rx,by rw [f2]; exact ry⟩
theorem AO {K:Fg} {A:KR} {d e:D} {x y:V} {u w:KM} {b:KY} (h:Ct d e=some b) (i1:bA K H d x) (i2:bA K H e y) (rx:aW x u) (ry:aW y w):SeqAt.EqAt A s u w b/\SeqAt.RcAt A s u w b:=by
 unfold Ct at h
 split at h
 ·cases h; rw [isInt.mp i1] at rx; rw [isInt.mp i2] at ry; obtain⟨t,rfl⟩:=rx; obtain⟨t',rfl⟩:=ry; exact⟨(SeqAt.EqAt.int_int _ _ _ _),(SeqAt.RcAt.int_int _ _ _ _)⟩
 ·cases h; rw [aS.mp i1] at rx; rw [aS.mp i2] at ry; cases rx; cases ry; exact⟨(SeqAt.EqAt.bool_bool _ _),(SeqAt.RcAt.bool_bool _ _)⟩
 ·cases h; rw [a7.mp i1] at rx; rw [a7.mp i2] at ry; obtain⟨t,rfl⟩:=rx; obtain⟨t',rfl⟩:=ry; exact⟨(SeqAt.EqAt.str_str _ _ _ _),(SeqAt.RcAt.str_str _ _ _ _)⟩
 ·cases h; rw [b7.mp i1] at rx; rw [b7.mp i2] at ry; cases rx; cases ry; exact⟨SeqAt.EqAt.same _,SeqAt.RcAt.none_none⟩
 ·cases h; rw [b7.mp i1] at rx; rw [isInt.mp i2] at ry; cases rx; obtain⟨t',rfl⟩:=ry; exact⟨(SeqAt.EqAt.none_int _ _),(SeqAt.RcAt.none_int _ _)⟩
 ·cases h; rw [isInt.mp i1] at rx; rw [b7.mp i2] at ry; obtain⟨t,rfl⟩:=rx; cases ry; exact⟨(SeqAt.EqAt.int_none _ _),(SeqAt.RcAt.int_none _ _)⟩
 ·cases h; rw [b7.mp i1] at rx; rw [aS.mp i2] at ry; cases rx; cases ry; exact⟨(SeqAt.EqAt.none_bool _),(SeqAt.RcAt.none_bool _)⟩
 ·cases h; rw [aS.mp i1] at rx; rw [b7.mp i2] at ry; cases rx; cases ry; exact⟨(SeqAt.EqAt.bool_none _),(SeqAt.RcAt.bool_none _)⟩
 ·cases h; rw [aS.mp i1] at rx; rw [isInt.mp i2] at ry; cases rx; obtain⟨t',rfl⟩:=ry; exact⟨(SeqAt.EqAt.bool_int _ _ _),(SeqAt.RcAt.bool_int _ _ _)⟩
 ·cases h; rw [isInt.mp i1] at rx; rw [aS.mp i2] at ry; obtain⟨t,rfl⟩:=rx; cases ry; exact⟨(SeqAt.EqAt.int_bool _ _ _),(SeqAt.RcAt.int_bool _ _ _)⟩
 ·cases h
theorem ui {K:Fg} {d e:D} {x:V} {b:KY} (h:Ct d e=some b) (i1:bA K H d x) (i2:bA K H e x):b=true:=by
 unfold Ct at h
 split at h
 ·cases h; have e1:=isInt.mp i1; have e2:=isInt.mp i2; rw [e1] at e2; cases e2; simp
 ·cases h; have e1:=aS.mp i1; have e2:=aS.mp i2; rw [e1] at e2; cases e2; simp
 ·cases h; have e1:=a7.mp i1; have e2:=a7.mp i2; rw [e1] at e2; cases e2; simp
 ·cases h; rfl
 ·have e1:=b7.mp i1; have e2:=isInt.mp i2; rw [e1] at e2; cases e2
 ·have e1:=isInt.mp i1; have e2:=b7.mp i2; rw [e1] at e2; cases e2
 ·have e1:=b7.mp i1; have e2:=aS.mp i2; rw [e1] at e2; cases e2
 ·have e1:=aS.mp i1; have e2:=b7.mp i2; rw [e1] at e2; cases e2
 ·have e1:=aS.mp i1; have e2:=isInt.mp i2; rw [e1] at e2; cases e2
 ·have e1:=isInt.mp i1; have e2:=aS.mp i2; rw [e1] at e2; cases e2
 ·cases h
theorem g_ {K:Fg} {f:D->D->KO KY} (hf:∀ d e x b,f d e=some b->bA K H d x->bA K H e x->b=true):∀ {ds es:List D} {xs:List V} {b:KY},gF f ds es=some b->IsDs K H ds xs->IsDs K H es xs->b=true
 | [],[],_,_,h,_,_=>by unfold gF at h; cases h; rfl
 | [],_::_,_,_,_,i1,i2=>by
  have e1:=eF.mp i1;obtain⟨v,r,e2,_⟩:=bD.mp i2;rw [e1] at e2; cases e2
 | _::_,[],_,_,_,i1,i2=>by
  have e1:=eF.mp i2;obtain⟨v,r,e2,_⟩:=bD.mp i1;rw [e1] at e2; cases e2
 | d::ds,e::es,xs,b,h,i1,i2=>by
  obtain⟨v,r,e1,h1,h2⟩:=bD.mp i1;obtain⟨v',r',e2,h3,h4⟩:=bD.mp i2;rw [e1] at e2;cases e2;unfold gF at h
  split at h
  ·rename_i a c q1 q2
   cases h;rw [hf _ _ _ _ q1 h1 h3,g_ hf q2 h2 h4]
   rfl
  ·cases h
theorem uy (I:aE X K2 σ H s):∀ (n:Nat) (d e:D) (x:V) (b:KY),g7 n d e=some b->bA X.K H d x->bA X.K H e x->b=true
 | 0,d,e,x,b,h,i1,i2=>ui (by unfold g7 at h; exact h) i1 i2
 | n+1,d,e,x,b,h,i1,i2=>by
  rw [pD] at h
  split at h
  ·rename_i xs ys
   obtain⟨a,vs,e1,t1,j1⟩:=bw.mp i1;obtain⟨a',vs',e2,t2,j2⟩:=bw.mp i2;rw [e1] at e2;cases e2;have q:=I.tuple_inj t1 t2;subst q;exact g_ (λd e x b=>uy I n d e x b) h j1 j2
  ·exact ui h i1 i2
theorem kO (I:aE X K2 σ H s):∀ (n:Nat) (A:KR) (d e:D) (x y:V) (u w:KM) (b:KY),A.units+n < cLine->g7 n d e=some b->bA X.K H d x->bA X.K H e y->aW x u->aW y w->SeqAt.EqAt A s u w b/\SeqAt.RcAt A s u w b
 | 0,A,d,e,x,y,u,w,b,hu,h,i1,i2,rx,ry=>AO (by unfold g7 at h; exact h) i1 i2 rx ry
 | n+1,A,d,e,x,y,u,w,b,hu,h,i1,i2,rx,ry=>by
  have h0:=h;rw [pD] at h
  split at h
  ·rename_i xs ys
   obtain⟨p,vs,rfl,t1,j1⟩:=bw.mp i1;obtain⟨q,vs',rfl,t2,j2⟩:=bw.mp i2;cases rx;cases ry;obtain⟨us,r1,p1,_⟩:=I.tuple t1;obtain⟨ws,r2,p2,_⟩:=I.tuple t2;have l1:=j1.length;have l2:=j2.length;have l3:=r1.length;have l4:=r2.length;have rc:SeqAt.RcAt A s (.ref p) (.ref q) b:=by
    have e:=lH h;have z:=SeqAt.RcAt.tuples (A:=A) (s:=s) (items:=us.toArray) (items2:=ws.toArray) (e:=hU (g7 n) xs ys) (show s.heap.IsTuple p us.toArray from p1) (show s.heap.IsTuple q ws.toArray from p2) (by omega) (λj h1 h2=>by
     simp only [J1] at h1 h2
     obtain⟨d,e,x,y,q1,q2,d1,d2,rx,ry⟩:=lC j1 j2 r1 r2 h1 h2;have:=(kO I n A.in1 d e x y us[j] ws[j] _ (by show A.units+1+n < cLine; omega) (oF h q1 q2) d1 d2 rx ry).1
     simpa using this)
    simp only [J1] at z;rw [<- l3,<- l4,<- l1,<- l2,e] at z;exact z
   refine⟨?_,rc⟩
   by_cases hpq:p=q
   ·subst hpq;have:=uy I (n+1) _ _ _ _ h0 i1 i2;subst this;exact SeqAt.EqAt.same _
   ·exact SeqAt.EqAt.of_refs hpq rc
  ·exact AO h i1 i2 rx ry
theorem Ae {K:Fg} {A:KR} {d e:D} {x y:V} {u w:KM} {b:KY} (h:Ct d e=some b) (i1:bA K H d x) (i2:bA K H e y) (rx:aW x u) (ry:aW y w):SeqAt.RcNeAt A s u w (!b):=by
 unfold Ct at h
 split at h
 ·cases h; rw [isInt.mp i1] at rx; rw [isInt.mp i2] at ry; obtain⟨t,rfl⟩:=rx; obtain⟨t',rfl⟩:=ry; exact(SeqAt.RcNeAt.int_int _ _ _ _)
 ·cases h; rw [aS.mp i1] at rx; rw [aS.mp i2] at ry; cases rx; cases ry; exact(SeqAt.RcNeAt.bool_bool _ _)
 ·cases h; rw [a7.mp i1] at rx; rw [a7.mp i2] at ry; obtain⟨t,rfl⟩:=rx; obtain⟨t',rfl⟩:=ry; exact(SeqAt.RcNeAt.str_str _ _ _ _)
 ·cases h; rw [b7.mp i1] at rx; rw [b7.mp i2] at ry; cases rx; cases ry; exact SeqAt.RcNeAt.none_none
 ·cases h; rw [b7.mp i1] at rx; rw [isInt.mp i2] at ry; cases rx; obtain⟨t',rfl⟩:=ry; exact(SeqAt.RcNeAt.none_int _ _)
 ·cases h; rw [isInt.mp i1] at rx; rw [b7.mp i2] at ry; obtain⟨t,rfl⟩:=rx; cases ry; exact(SeqAt.RcNeAt.int_none _ _)
 ·cases h; rw [b7.mp i1] at rx; rw [aS.mp i2] at ry; cases rx; cases ry; exact(SeqAt.RcNeAt.none_bool _)
 ·cases h; rw [aS.mp i1] at rx; rw [b7.mp i2] at ry; cases rx; cases ry; exact(SeqAt.RcNeAt.bool_none _)
 ·cases h; rw [aS.mp i1] at rx; rw [isInt.mp i2] at ry; cases rx; obtain⟨t',rfl⟩:=ry; exact(SeqAt.RcNeAt.bool_int _ _ _)
 ·cases h; rw [isInt.mp i1] at rx; rw [aS.mp i2] at ry; obtain⟨t,rfl⟩:=rx; cases ry; exact(SeqAt.RcNeAt.int_bool _ _ _)
 ·cases h
theorem y_ (I:aE X K2 σ H s) (n:Nat) (A:KR) (d e:D) (x y:V) (u w:KM) (b:KY) (hu:A.units+n < cLine) (h:g7 n d e=some b) (i1:bA X.K H d x) (i2:bA X.K H e y) (rx:aW x u) (ry:aW y w):SeqAt.RcNeAt A s u w (!b):=by
 cases n with
 | zero=>exact Ae (by unfold g7 at h; exact h) i1 i2 rx ry
 | succ n=>
  rw [pD] at h
  split at h
  ·rename_i xs ys
   obtain⟨p,vs,rfl,t1,j1⟩:=bw.mp i1;obtain⟨q,vs',rfl,t2,j2⟩:=bw.mp i2;cases rx;cases ry;obtain⟨us,r1,p1,_⟩:=I.tuple t1;obtain⟨ws,r2,p2,_⟩:=I.tuple t2;have l1:=j1.length;have l2:=j2.length;have l3:=r1.length;have l4:=r2.length;have e:=lH h;have z:=SeqAt.RcNeAt.tuples (A:=A) (s:=s) (items:=us.toArray) (items2:=ws.toArray) (e:=hU (g7 n) xs ys) (show s.heap.IsTuple p us.toArray from p1) (show s.heap.IsTuple q ws.toArray from p2) (by omega) (λj h1 h2=>by
    simp only [J1] at h1 h2
    obtain⟨d,e,x,y,q1,q2,d1,d2,rx,ry⟩:=lC j1 j2 r1 r2 h1 h2;have:=(kO I n A.in1 d e x y us[j] ws[j] _ (by show A.units+1+n < cLine; omega) (oF h q1 q2) d1 d2 rx ry).1
    simpa using this)
   simp only [J1] at z;rw [<- l3,<- l4,<- l1,<- l2,e] at z;exact z
  ·exact Ae h i1 i2 rx ry
end
structure EJ (X:Cx) (e:KP) (g:DE):Prop where
 h:PE X e (up X.K g)
structure TJ (X:Cx) (e:KP) (g:DT):Prop where
 h:PT X e (tm X.K g)
structure WJ (X:Cx) (e:KP) (g:DT):Prop where
 h:PW X e (tm X.K g)
structure AJ (X:Cx) (e:List KP) (g:DA):Prop where
 h:PA X e (qT X.K g)
structure SJ (X:Cx) (e:KU) (g:DS):Prop where
 h:PS X e (Cr X.K g)
structure x9 (X:Cx) (e:List KU) (g:DS):Prop where
 h:rC X e (Cr X.K g)
structure GJ (X:Cx) (e:KP) (g:DG):Prop where
 h:PG X e (DW X.K g)
structure GR (X:Cx) (e:List KP) (g:Be):Prop where
 h:zg X e (Ja X.K g)
structure OJ (X:Cx) (e:KO KP) (g:Bf):Prop where
 h:PO X e (JN X.K g)
theorem WJ.pt {X:Cx} {e:KP} {g:DT} (h:WJ X e g):TJ X e g:=⟨PW.pt h.h⟩
section
variable {X:Cx} {a b c:KP} {ga gb gc:DE} {pos:Pos}
theorem af (i:Nat) {x:Str} (hN:X.N[i]?=some x:=by rfl) (hv:GM X.env.scope x:=by first | exact Or.inl rfl | exact Or.inr (Or.inl rfl) | exact Or.inr (Or.inr rfl)) (hd:(x == ("__debug__":Str))=false:=by decide) (hcd:(x == ("__classdict__":Str))=false:=by decide):EJ X (.Name x pos) (cL i):=⟨PE.imp (DQ hN hv hd hcd) fun σ H Q ⟨L,S,k,hL,hS,h,n⟩=>by
  unfold cL at h
  split at h
  ·rename_i d e
   obtain⟨v,e1,e2⟩:=hL.get e;exact⟨v,e1,n d S v H h (Kp.refl H) hS e2⟩
  ·exact h.elim⟩
theorem ae {i j pos}:EJ X (.Constant (.int i) j pos) (dC (.int i)):=⟨CL EE λ_=>isInt.mpr rfl⟩
theorem cr {i j pos}:EJ X (.Constant (.bool i) j pos) (dC (.bl i)):=⟨CL GS λ_=>aS.mpr rfl⟩
theorem ii {j pos}:EJ X (.Constant .none j pos) (dC .non):=⟨CL C_ λ_=>b7.mpr rfl⟩
theorem aG {i j pos}:EJ X (.Constant (.str i) j pos) (dC (.str i)):=⟨CL DZ λ_=>a7.mpr rfl⟩
theorem ic {x:Str} {n:Ty} (hg:Gl X x) (hm:X.mg x=none) (hv:bootBuiltins x=some (.type n.name)) (hn:x≠"__name__":=by decide) (hd:(x == ("__debug__":Str))=false:=by decide):EJ X (.Name x pos) (dC (.ty n)):=⟨CL (Cv (v:=.ty n.name) hg hm hv rfl hn hd) λ_=>AV.mpr rfl⟩
theorem ac:AJ X [] ng:=⟨PA.imp Am fun σ H Q z9=>by obtain⟨L,S,k,hL,hS,h,n⟩:=z9; exact n [] S [] H h (Kp.refl H) hS IsDs.nil⟩
theorem aa {es:List KP} {t:DA} (ha:EJ X a ga) (hr:AJ X es t) (hs:starEach (a::es) X.env=(false,eval a X.env)::starEach es X.env:=by exact cQ rfl):AJ X (a::es) (eX ga t):=⟨have ha:=ha.h; have hr:=hr.h; PA.imp (xu ha hr hs) fun σ H Q ⟨L,S,k,hL,hS,h,n⟩=>up.go hL hS h λd S1 v H1 h1 k1 hL1 hS1 i1=>qT.go hL1 hS1 h1 λds S2 vs H2 h2 k2 hL2 hS2 i2=>
  n (d::ds) S2 (v::vs) H2 h2 (k1.trans k2) hS2 (IsDs.cons (i1.kp k2) i2)⟩
theorem aH {X:Cx} {x:Str} {pos:Pos} {es:List KP} {t:DA} (n:Nat) (hr:AJ X es t) (hN:X.N[n]?=some x:=by rfl) (hv:GM X.env.scope x:=by first | exact Or.inl rfl | exact Or.inr (Or.inl rfl) | exact Or.inr (Or.inr rfl)) (hd:(x == ("__debug__":Str))=false:=by decide) (hcd:(x == ("__classdict__":Str))=false:=by decide) (hs:starEach (.Name x pos::es) X.env=(false,eval (.Name x pos) X.env)::starEach es X.env:=by exact cQ rfl):AJ X (.Name x pos::es) (eX (cL n) t):=aa (af n hN hv hd hcd) hr hs
theorem aC {es:List KP} {x1} {t:DA} (h:AJ X es t):EJ X (.Tuple es x1 pos) (EX t):=⟨have h:=h.h; PE.imp (EC h) fun σ H Q ⟨L,S,k,hL,hS,h,n⟩=>qT.go hL hS h λds S1 vs H1 h1 k1 hL1 hS1 i1=>by
  refine⟨by rw [<- i1.length]; exact h1.1,λp hp=>?_⟩
  have k2:Kp H1 (br H1 p (.tup vs)):=Kp.new hp;exact n (.tup ds) S1 _ _ h1.2 (k1.trans k2) (hS1.new hp) (bw.mpr ⟨p,vs,rfl,gZ.of bo,i1.kp k2⟩)⟩
theorem cn {es:List KP} {t:DA} (h:AJ X es t):EJ X (.List es pos) (I0 t):=⟨have h:=h.h; PE.imp (Fz h) fun σ H Q ⟨L,S,k,hL,hS,h,n⟩=>qT.go hL hS h λds S1 vs H1 h1 k1 hL1 hS1 i1=>by
  refine⟨by rw [<- i1.length]; exact h1.1,λp hp=>?_⟩
  exact n (.ref p) _ _ _ (h1.2 p (hS1.free hp)) (k1.trans (Kp.new hp)) (hS1.newL hp i1) (aR.mpr rfl)⟩
theorem aB {op:Operator} {r:D2} (ho:cS X (binaryOp op) (fm X.K r)) (ha:EJ X a ga) (hb:EJ X b gb):EJ X (.BinOp a op b pos) (xp r ga gb):=⟨have ha:=ha.h; have hb:=hb.h; PE.imp (GU ho ha hb) so⟩
theorem b_ {op:CmpOp} {r:D2} (ho:cS X (compareOp op) (fm X.K r)) (ha:EJ X a ga) (hb:EJ X b gb) (hm:behindInMarks op b=false):EJ X (.Compare a [op] [b] pos) (xp r ga gb):=⟨have ha:=ha.h; have hb:=hb.h; PE.imp (CB ho ha hb hm) so⟩
theorem aD {r:D2} (hr:wz X (fm X.K r)) (ha:EJ X a ga) (hb:EJ X b gb) (hs:xr b):EJ X (.Subscript a b pos) (xp r ga gb):=⟨have ha:=ha.h; have hb:=hb.h; PE.imp (Ha hr ha hb hs) so⟩
theorem q_ {op:UnaryOp} {r:D1} (ho:G4 X (unaryOp op) (Jg X.K r)) (ha:EJ X a ga):EJ X (.UnaryOp op a pos) (HN r ga):=⟨have ha:=ha.h; PE.imp (G7 ho ha) fun σ H Q z9=>by obtain⟨L,S,k,hL,hS,h,n⟩:=z9; exact up.go hL hS h λd S1 v H1 h1 k1 hL1 hS1 i1=>⟨d,S1,k,i1,hS1,h1,λd' S' v H' q k3 z1 z2=>n d' S' v H' q (k1.trans k3) z1 z2⟩⟩
theorem au {op:CmpOp} {r:D2} (ho:cS X (compareOp op) (fm X.K r)) (ha:EJ X a ga) (hb:EJ X b gb) (hm:behindInMarks op b=false):TJ X (.Compare a [op] [b] pos) (h_ (xp r ga gb)):=⟨have ha:=ha.h; have hb:=hb.h; PT.imp (PT.imp (BN ho ha hb hm) fun σ H Q h=>so σ H _ h) uf⟩
theorem aL {e:KP} {g:DE} (h:EJ X e g) (he:∀ whole,isTrue e X.env whole=(do let v <- whole; standAt e.pos; holding [v] (truthy v)):=by intro _; rfl):TJ X e (h_ g):=⟨have h:=h.h; PT.imp (Df h he) uf⟩
end
section
variable {X:Cx} {a b c:KP} {ga gb gc:DE} {pos:Pos}
variable {tA tB':DT} {a_:List KP}
theorem fY (ha:TJ X a tA):WJ X (.BoolOp .And [a] pos) tA:=⟨have ha:=ha.h; Bi ha⟩
theorem bI (ha:TJ X a tA):WJ X (.BoolOp .Or [a] pos) tA:=⟨have ha:=ha.h; Fq ha⟩
theorem iQ (ha:TJ X a tA) (hb:WJ X (.BoolOp .And (b::a_) pos) tB'):WJ X (.BoolOp .And (a::b::a_) pos) (CP tA tB'):=⟨have ha:=ha.h; have hb:=hb.h; PW.imp (Fx ha hb) fun σ H Q ⟨L,S,k,hL,hS,h,n⟩=>tm.go hL hS h λc S1 H1 h1 k1 hL1 hS1=>by
  cases c with
  | true=>
   rw [if_pos rfl] at h1 ⊢;exact tm.go hL1 hS1 h1 λc2 S2 H2 h2 k2 _ hS2=>n c2 S2 H2 h2 (k1.trans k2) hS2
  | false=>
   rw [if_neg J0] at h1 ⊢;exact n false S1 H1 h1 k1 hS1⟩
theorem ce (ha:TJ X a tA) (hb:WJ X (.BoolOp .Or (b::a_) pos) tB'):WJ X (.BoolOp .Or (a::b::a_) pos) (GQ tA tB'):=⟨have ha:=ha.h; have hb:=hb.h; PW.imp (Ht ha hb) fun σ H Q ⟨L,S,k,hL,hS,h,n⟩=>tm.go hL hS h λc S1 H1 h1 k1 hL1 hS1=>by
  cases c with
  | true=>
   rw [if_pos rfl] at h1 ⊢;exact n true S1 H1 h1 k1 hS1
  | false=>
   rw [if_neg J0] at h1 ⊢;exact tm.go hL1 hS1 h1 λc2 S2 H2 h2 k2 _ hS2=>n c2 S2 H2 h2 (k1.trans k2) hS2⟩
theorem aY (ha:TJ X a tA):TJ X (.UnaryOp .Not a pos) (zU tA):=⟨have ha:=ha.h; PT.imp (D_ ha) fun σ H Q z9=>by obtain⟨L,S,k,hL,hS,h,n⟩:=z9; exact tm.go hL hS h λc S1 H1 h1 k1 hL1 hS1=>n _ S1 H1 h1 k1 hS1⟩
theorem dR {op} (h:EJ X a ga):EJ X (.BoolOp op [a] pos) ga:=⟨have h:=h.h; Ex h⟩
theorem dW (ha:EJ X a ga) (hb:EJ X (.BoolOp .And (b::a_) pos) gb):EJ X (.BoolOp .And (a::b::a_) pos) (FX ga gb):=⟨have ha:=ha.h; have hb:=hb.h; PE.imp (Dm ha hb) fun σ H Q ⟨L,S,k,hL,hS,h,n⟩=>up.go hL hS h λd S1 v H1 h1 k1 hL1 hS1 i1=>by
  cases d with
  | bl c=>
   have e:=aS.mp i1;subst e;refine⟨c,rfl,?_⟩;have h1:if c=true then _ else _:=h1
   cases c with
   | true=>
    rw [if_pos rfl] at h1 ⊢;exact up.go hL1 hS1 h1 λd2 S2 v2 H2 h2 k2 _ hS2 i2=>n d2 S2 v2 H2 h2 (k1.trans k2) hS2 i2
   | false=>
    rw [if_neg J0] at h1 ⊢;exact n _ S1 _ H1 h1 k1 hS1 (aS.mpr rfl)
  | _=>exact(show False from h1).elim⟩
theorem CV (ha:EJ X a ga) (hb:EJ X (.BoolOp .Or (b::a_) pos) gb):EJ X (.BoolOp .Or (a::b::a_) pos) (IT ga gb):=⟨have ha:=ha.h; have hb:=hb.h; PE.imp (Gk ha hb) fun σ H Q ⟨L,S,k,hL,hS,h,n⟩=>up.go hL hS h λd S1 v H1 h1 k1 hL1 hS1 i1=>by
  cases d with
  | bl c=>
   have e:=aS.mp i1;subst e;refine⟨c,rfl,?_⟩;have h1:if c=true then _ else _:=h1
   cases c with
   | true=>
    rw [if_pos rfl] at h1 ⊢;exact n _ S1 _ H1 h1 k1 hS1 (aS.mpr rfl)
   | false=>
    rw [if_neg J0] at h1 ⊢;exact up.go hL1 hS1 h1 λd2 S2 v2 H2 h2 k2 _ hS2 i2=>n d2 S2 v2 H2 h2 (k1.trans k2) hS2 i2
  | _=>exact(show False from h1).elim⟩
theorem Ar (ha:EJ X a ga):EJ X (.UnaryOp .Not a pos) (GP ga):=⟨have ha:=ha.h; PE.imp (E2 ha) fun σ H Q ⟨L,S,k,hL,hS,h,n⟩=>up.go hL hS h λd S1 v H1 h1 k1 hL1 hS1 i1=>by
  cases d with
  | bl c=>
   have e:=aS.mp i1;subst e;exact⟨c,rfl,n _ S1 _ H1 h1 k1 hS1 (aS.mpr rfl)⟩
  | _=>exact(show False from h1).elim⟩
theorem pH {c:KP} (hc:TJ X c tA) (ha:EJ X a ga) (hb:EJ X b gb):EJ X (.IfExp c a b pos) (HS tA ga gb):=⟨have hc:=hc.h; have ha:=ha.h; have hb:=hb.h; PE.imp (AA hc ha hb) fun σ H Q ⟨L,S,k,hL,hS,h,n⟩=>tm.go hL hS h λd S1 H1 h1 k1 hL1 hS1=>by
  cases d with
  | true=>
   rw [if_pos rfl] at h1 ⊢;exact up.go hL1 hS1 h1 λd2 S2 v2 H2 h2 k2 _ hS2 i2=>n d2 S2 v2 H2 h2 (k1.trans k2) hS2 i2
  | false=>
   rw [if_neg J0] at h1 ⊢;exact up.go hL1 hS1 h1 λd2 S2 v2 H2 h2 k2 _ hS2 i2=>n d2 S2 v2 H2 h2 (k1.trans k2) hS2 i2⟩
end
section
variable {X:Cx} {x:Str} {p pos:Pos} {e:KP} {es:List KP} {t:DA} {id T:KZ} {r:bE}
theorem aA (hc:bP X (.builtin id) (nX X.K r)) (hg:Gl X x) (hm:X.mg x=none) (hv:bootBuiltins x=some (.builtin id)) (ha:AJ X (e::es) t) (hn:x≠"__name__":=by decide) (hdb:(x == ("__debug__":Str))=false:=by decide) (he:starEach (e::es) X.env=(false,eval e X.env)::starEach es X.env:=by exact cQ rfl) (hpl:(backTo pos (starEach es X.env)).any (·.1)=false:=by exact hV rfl):EJ X (.Call (.Name x p) (e::es) [] pos) (gj r t):=⟨have ha:=ha.h; PE.imp (Ad hc hg hm hv ha hn hdb he hpl) uq⟩
theorem bC (hc:bP X (.type T) (nX X.K r)) (hg:Gl X x) (hm:X.mg x=none) (hv:bootBuiltins x=some (.type T)) (ha:AJ X (e::es) t) (hn:x≠"__name__":=by decide) (hdb:(x == ("__debug__":Str))=false:=by decide) (he:starEach (e::es) X.env=(false,eval e X.env)::starEach es X.env:=by exact cQ rfl) (hpl:(backTo pos (starEach es X.env)).any (·.1)=false:=by exact hV rfl):EJ X (.Call (.Name x p) (e::es) [] pos) (gj r t):=⟨have ha:=ha.h; PE.imp (xI hc hg hm hv ha hn hdb he hpl) uq⟩
theorem BS {n:Nat} {F:bE} (c:bf X.prog X.w X.K X.mg X.base x n F) (hr:cv n X.A) (hg:Gl X x) (ha:AJ X (e::es) t) (hdb:(x == ("__debug__":Str))=false:=by decide) (he:starEach (e::es) X.env=(false,eval e X.env)::starEach es X.env:=by exact cQ rfl) (hpl:(backTo pos (starEach es X.env)).any (·.1)=false:=by exact hV rfl):EJ X (.Call (.Name x p) (e::es) [] pos) (gj F t):=⟨EY (c:=c) (hr:=hr) (hg:=hg) (ha:=ha.h) (hdb:=hdb) (he:=he) (hpl:=hpl)⟩
theorem dq {n m:Nat} {F:bE} (c:bf X.prog X.w X.K X.mg X.base x n F) (hr:cv m X.A) (ha:AJ X (e::es) t) (hg:Gl X x:=by exact rfl) (le:n<=m:=by decide) (hdb:(x == ("__debug__":Str))=false:=by decide) (he:starEach (e::es) X.env=(false,eval e X.env)::starEach es X.env:=by exact cQ rfl) (hpl:(backTo pos (starEach es X.env)).any (·.1)=false:=by exact hV rfl):EJ X (.Call (.Name x p) (e::es) [] pos) (gj F t):=BS c (hr.mono le) hg ha hdb he hpl
theorem Co {o:KP} {g:DE} {apos cpos:Pos} (ho:EJ X o g) (hbase:attributeBase o "bit_length" X.env (eval o X.env)=eval o X.env:=by rfl) (hline:(apos.endLine == cpos.line)=true:=by rfl):EJ X (.Call (.Attribute o "bit_length" apos) [] [] cpos) (HN GC g):=⟨by
 have ho:=ho.h;refine PE.imp (Dk PySem.F.plainAttrs_int PySem.F.slot_int_bit_length PySem.F.type_int_bit_length (r:=λx xs H Q=>∃ i,x=.int i/\xs=[]/\Q (.int ((Builtin.Int.intBits i:Nat):Int)) H) ?_ ho hbase hline) fun σ H Q ⟨L,S,k,hL,hS,h,n⟩=>?_
 ·intro K2 s σ H x xs v us Q I rx rs h;obtain⟨i,rfl,rfl,q⟩:=h;obtain⟨t,rfl⟩:=rx;cases rs;exact call_int_bit_length ⟨.int _,H,I.tok _,⟨_,rfl⟩,q⟩
 ·refine up.go hL hS h λd S1 v H1 h1 k1 hL1 hS1 i1=>?_
  cases d with
  | int i=>
   have e1:=isInt.mp i1;subst e1;exact⟨rfl,i,rfl,rfl,n _ S1 _ H1 h1 k1 hS1 (isInt.mpr rfl)⟩
  | _=>exact(show False from h1).elim⟩
theorem eL:OJ X none Hb:=⟨by
 intro K2 s σ H Q I h;obtain⟨L,S,k,hL,hS,h,n⟩:=h;exact BH K2 s σ H Q I (n none S H h (Kp.refl H) hS)⟩
theorem c7 {e:KP} {g:DE} (he:EJ X e g):OJ X (some e) (FS g):=⟨by
 have he:=he.h;intro K2 s σ H Q I h;obtain⟨L,S,k,hL,hS,h,n⟩:=h;refine BB he K2 s σ H Q I (up.go hL hS h λd S1 v H1 h1 k1 hL1 hS1 i1=>?_)
 cases d with
 | int i=>
  have e1:=isInt.mp i1;subst e1;exact⟨i,rfl,n (some i) S1 H1 h1 k1 hS1⟩
 | _=>exact(show False from h1).elim⟩
end
section
variable {X:Cx} {st:KU} {a_:List KU} {g h:DS} {e:KP} {ge:DE} {pos:Pos}
theorem az:x9 X [] wZ:=⟨rC.imp BY λN σ H z9=>by obtain⟨L,S,M,hL,hS,h,r⟩:=z9; exact r.nx L S σ H h (Kp.refl H) hL hS⟩
theorem ag (h1:SJ X st g) (h2:x9 X a_ h):x9 X (st::a_) (rW g h):=⟨have h1:=h1.h; have h2:=h2.h; rC.imp (y6 h1 h2) Cn⟩
theorem ah (h1:SJ X st g):x9 X [st] g:=⟨have h1:=h1.h; Cc h1⟩
theorem bU (he:EJ X e ge) (hs:swapsWith e none pos.line X.env=pure false:=by rfl):SJ X (.Expr e pos) (GX ge):=⟨have he:=he.h; PS.imp (Bx he hs) λN σ H z9=>by obtain⟨L,S,M,hL,hS,h,r⟩:=z9; exact up.go hL hS h λd S1 v H1 h1 k1 hL1 hS1 _=>r.nx L S1 σ H1 h1 k1 hL1 hS1⟩
theorem ai (he:EJ X e ge):SJ X (.Return (some e) pos) (Al ge):=⟨have he:=he.h; PS.imp (Ei he) λN σ H z9=>by obtain⟨L,S,M,hL,hS,h,r⟩:=z9; exact up.go hL hS h λd S1 v H1 h1 k1 _ hS1 i1=>r.rt d S1 v H1 h1 k1 hS1 i1⟩
theorem ay {c:KP} {a b:List KU} {gc:DT} (hc:TJ X c gc) (ha:x9 X a g) (hb:x9 X b h):SJ X (.If c a b pos) (xT gc g h):=⟨have hc:=hc.h; have ha:=ha.h; have hb:=hb.h; PS.imp (Gz hc ha hb) λN σ H ⟨L,S,M,hL,hS,q,r⟩=>tm.go hL hS q λt S1 H1 h1 k1 hL1 hS1=>by
  cases t with
  | true=>
   rw [if_pos rfl] at h1 ⊢;exact⟨L,S1,M,hL1,hS1,h1,r.kp k1⟩
  | false=>
   rw [if_neg J0] at h1 ⊢;exact⟨L,S1,M,hL1,hS1,h1,r.kp k1⟩⟩
theorem be:SJ X st sH:=⟨PS.imp An λN σ H z9=>by obtain⟨L,S,M,hL,hS,h,r⟩:=z9; exact h.elim⟩
theorem am {i:Nat} {x:Str} {pos':Pos} (hN:X.N.Nodup) (he:EJ X e ge) (hi:X.N[i]?=some x:=by rfl) (hx:FQ X.env.scope x:=by first | exact Or.inl rfl | exact Or.inr rfl) (hs:swapsWith e (some (.Name x pos')) pos.line X.env=pure false:=by rfl) (hf:X.fn x=true\/X.env.scope.names.lookup x=some .local:=by first | exact .inl rfl | exact .inr rfl | assumption):SJ X (.Assign [.Name x pos'] e pos) (uW i ge):=⟨have he:=he.h; PS.imp (Dw hN hi hx he hs hf) λN σ H z9=>by obtain⟨L,S,M,hL,hS,h,r⟩:=z9; exact up.go hL hS h λd S1 v H1 h1 k1 hL1 hS1 i1=>r.nx _ S1 _ H1 h1 k1 (hL1.set i1 i) hS1⟩
theorem yJ {i j:Nat} {x y:Str} {a b:KP} {ta:DA} {px py pt:Pos} {kt k2 pt2} (hc:X.calm=true) (hN:X.N.Nodup) (hij:i≠j) (ha:AJ X [a,b] ta) (hi:X.N[i]?=some x:=by rfl) (hj:X.N[j]?=some y:=by rfl) (hx:X.env.scope.names.lookup x=some .local:=by rfl) (hy:X.env.scope.names.lookup y=some .local:=by rfl) (hw:swappedStores [.Tuple [.Name x px,.Name y py] kt pt] (.Tuple [a,b] k2 pt2) X.env=pure (some [x,y]):=by rfl) (hs:swapsWithSole [.Tuple [.Name x px,.Name y py] kt pt] (.Tuple [a,b] k2 pt2) pos.line X.env=pure false:=by rfl):SJ X (.Assign [.Tuple [.Name x px,.Name y py] kt pt] (.Tuple [a,b] k2 pt2) pos) (I_ i j ta):=⟨have ha:=ha.h; PS.imp (Fw hc hN hi hj hij hx hy ha hw hs) λN σ H ⟨L,S,M,hL,hS,h,r⟩=>qT.go hL hS h λds S1 vs H1 h1 k1 hL1 hS1 i1=>by
  split at h1
  ·obtain⟨v,u,rfl,j1,j2⟩:=kB i1;exact⟨v,u,rfl,r.nx _ S1 _ H1 h1 k1 ((hL1.set j1 i).set j2 j) hS1⟩
  ·exact h1.elim⟩
theorem aO {i:Nat} {x:Str} (hN:X.N.Nodup) (hi:X.N[i]?=some x:=by rfl) (hx:FQ X.env.scope x:=by first | exact Or.inl rfl | exact Or.inr rfl) (hf:X.fn x=true\/X.env.scope.names.lookup x=some .local:=by first | exact .inl rfl | exact .inr rfl | assumption):GJ X (.Name x pos) (eV i):=⟨PG.imp (sr hN hi hx hf) λv σ H Q z9=>by obtain⟨d,L,S,k,i1,hL,hS,h,n⟩:=z9; exact n _ S _ H h (Kp.refl H) (hL.set i1 i) hS⟩
theorem pj:GR X [] HA:=⟨zg.imp Cw λv σ H Q ⟨d,L,S,k,i1,hL,hS,h,n⟩=>by
 obtain⟨rfl,h⟩:=h;exact⟨eF.mp i1,n L S σ H h (Kp.refl H) hL hS⟩⟩
theorem fz {es:List KP} {t:DG} {u:Be} (h1:GJ X e t) (h2:GR X es u) (hs:(assignEach (e::es) X.env).map (·.2)=assign e X.env::(assignEach es X.env).map (·.2):=by rfl):GR X (e::es) (Fj t u):=⟨have h1:=h1.h; have h2:=h2.h; zg.imp (y9 h1 h2 hs) λvs σ H Q ⟨ds,L,S,k,i1,hL,hS,h,n⟩=>by
  cases ds with
  | nil=>exact(show False from h).elim
  | cons d r=>
   obtain⟨v,vr,rfl,j1,j2⟩:=bD.mp i1;exact⟨v,vr,rfl,d,L,S,_,j1,hL,hS,h,λL1 S1 σ1 H1 q k1 hL1 hS1=>⟨r,L1,S1,k,j2.kp k1,hL1,hS1,q,λL' S' σ' H' q' k'=>n L' S' σ' H' q' (k1.trans k')⟩⟩⟩
theorem fJ {tg e:KP} {g:DG} (he:EJ X e ge) (hg:GJ X tg g) (hs:swapsWithSole [tg] e pos.line X.env=pure false:=by rfl) (hw:swappedStores [tg] e X.env=pure none:=by rfl) (h1:(assignEach [tg] X.env).map (·.2)=[assign tg X.env]:=by rfl):SJ X (.Assign [tg] e pos) (FY ge g):=⟨have he:=he.h; have hg:=hg.h; PS.imp (E1 he hg hs hw h1) λN σ H z9=>by obtain⟨L,S,M,hL,hS,h,r⟩:=z9; exact up.go hL hS h λd S1 v H1 h1 k1 hL1 hS1 i1=>
  ⟨d,L,S1,M.nx,i1,hL1,hS1,h1,λL' S' σ' H' q k' hL' hS'=>r.nx L' S' σ' H' q (k1.trans k') hL' hS'⟩⟩
theorem iR {c:KP} {body:List KU} {gc:DT} (hp:PassesOwn (model X.prog X.w) X.A X.env X.xe) (hc:TJ X c gc) (hb:x9 X body g):SJ X (.While c body [] pos) (Ea gc g):=⟨have hc:=hc.h; have hb:=hb.h; PS.imp (A1 hp hc hb) λN σ H ⟨L,S,M,hL,hS,⟨W,⟨m0,w0⟩,turn⟩,r⟩=>by
  refine⟨λm σ H1=>∃ L S,Lc X.K H1 L σ/\Hs X.K H1 S/\W m L S/\Kp H H1,⟨m0,L,S,hL,hS,w0,Kp.refl H⟩,?_⟩
  rintro m σ1 H1 ⟨L1,S1,hL1,hS1,w1,k1⟩;refine tm.go hL1 hS1 (turn m L1 S1 w1) λt S2 H2 h2 k2 hL2 hS2=>?_
  cases t with
  | true=>
   rw [if_pos rfl] at h2 ⊢;obtain⟨N',hN,hb⟩:=h2;refine⟨fun σ' H'=>∃ L' S',Lc X.K H' L' σ'/\Hs X.K H' S'/\N' L' S'/\Kp H H',?_,L1,S2,_,hL2,hS2,hb,?_⟩
   ·rintro σ' H' ⟨L',S',hL',hS',n',k'⟩;obtain⟨m',hm,w'⟩:=hN L' S' n';exact⟨m',hm,L',S',hL',hS',w',k'⟩
   ·have r2:=r.kp (k1.trans k2);exact⟨λL' S' σ' H' n' k' hL' hS'=>⟨L',S',hL',hS',n',(k1.trans k2).trans k'⟩,r2.rt,r2.nx,λL' S' σ' H' n' k' hL' hS'=>⟨L',S',hL',hS',n',(k1.trans k2).trans k'⟩⟩
  | false=>
   rw [if_neg J0] at h2 ⊢;exact(r.kp (k1.trans k2)).nx L1 S2 σ1 H2 h2 (Kp.refl H2) hL2 hS2⟩
theorem g8 {tg a:KP} {body:List KU} {ta:DA} {gg:DG} {p pos':Pos} (hp:PassesOwn (model X.prog X.w) X.A X.env X.xe) (hc:X.calm=true) (hgl:Gl X "range") (hm:X.mg "range"=none) (ha:AJ X [a] ta) (hg:GJ X tg gg) (hb:x9 X body g) (hs1:starEach [a] X.env=[(false,eval a X.env)]:=by rfl) (hs:∀ x,foldedSetIterable (.Call (.Name "range" p) [a] [] pos') X.env x=pure x:=by intro _; rfl):SJ X (.For tg (.Call (.Name "range" p) [a] [] pos') body [] pos) (Gs ta gg g):=⟨have ha:=ha.h; have hg:=hg.h; have hb:=hb.h; PS.imp (pG hp hc (qS hgl hm ha hs1) hg hb hs) λN σ H ⟨L,S,M,hL,hS,h,r⟩=>qT.go hL hS h λds S1 vs H1 h1 k1 hL1 hS1 i1=>by
  split at h1
  ·obtain⟨v,rfl,j⟩:=cf i1;have e:=isInt.mp j;subst e;obtain⟨⟨h2,h3⟩,h1⟩:=h1;refine⟨_,rfl,h2,h3,ml hL1 hS1 h1 (r.kp k1) (λi d S2 H2 e k2 hS2 _=>?_) λS2 H2 k2 hS2 _=>?_⟩
   ·rw [Ki] at e;cases q:(List.range (Int.toNat _))[i]? with
    | none=>rw [q] at e; cases e
    | some z=>
     rw [q] at e;cases e;have hz:=Kl.mp q;obtain⟨hz1,hz2⟩:=hz;rw [List.length_range] at hz1;rw [List.getElem_range] at hz2;subst hz2;exact⟨hz1,λx H' y=>⟨y.1,by rw [y.2]; exact isInt.mpr (by rw [Int.zero_add])⟩⟩
   ·rw [JZ,List.length_range];exact JX _
  ·exact h1.elim⟩
end
section
variable {P:KQ} {w:KS} {K:Fg} {mg:Str->KO KM} {base:KT}
theorem _root_.L2.xP.okJ {x K3:Str} {st:KU} {f:KN} {fd:FuncData} {N ps:List Str} {k:Nat} {F:bE} (Fn:xP K x K3 st f fd) (Sc:ao N ps (aj st)) (len:∀ ds S k,F ds S k->ds.length=ps.length)
  (hbody:∀ (cdv:KM) (A:KR) (outer:List Env) (s:KL) (H:Hp) (E:XK),cv k (A.deeper (envOfC K3 (aj st) s.heap.objs.size f cdv))->
   ∃ g,x9 (uu b8 P w K mg base N K3 (aj st) f cdv A outer s H E).nox (cN st) g/\
    ∀ ds S k,F ds S k->g {nx:=λ_ S'=>k .non S',rt:=k} (ds.map some++List.replicate (N.length - ps.length) none) S):aQ P w K mg base b8 (k+1) f fd ps (ca K F):=
 Fn.okD Sc len λcdv A outer s H E hr=>let ⟨g,h,q⟩:=hbody cdv A outer s H E hr; ⟨g,h.h,q⟩
end
end DL
namespace L2
open PySem PySem.Spec PyProof.Rows
section
variable {X:Cx} {pos:Pos}
def Iy (K:PySem.W.Frag) (n:Nat) (t:zB):TG:=λv σ H Q=>∃ a xs,v=.ref a/\eH K H a xs/\xs.length=n/\t xs σ H Q
theorem Dp {es:List KP} {k:Nat} {t:zB} {n:Nat} (hc:X.calm=true) (h:zg X es t)
  (hn:(assignEach es X.env).length=n:=by rfl) (hst:(assignEach es X.env).findIdx? (·.1)=none:=by rfl):PG X (.Tuple es k pos) (Iy X.K n t):=by
 intro K2 s σ H v u Q I r hw;obtain⟨a,xs,e1,hq,hl,hw⟩:=hw;subst e1;cases r;obtain⟨its,rv,ht,hz⟩:=I.list hq;have e2:(assignEach es X.env).length=its.toArray.size:=by simp [hn,<- hl,rv.length]
 rw [arm_assign_Tuple];refine gt (wpAny_standAt ?_);unfold unpack;rw [e2,hst];refine gt (Kf (PySem.W.kun_itemsOf (I.ok.hd hc) ht.isList λh' hx=>?_))
 have I1:aE X K2 σ H {s with heap:=h'}:=I.kept (t':=s.toks) λb o e=>hx b o (J3 (JW e)) e
 exact h K2 _ σ H xs _ Q I1 (by simpa using rv) hw
theorem PG.or {e:KP} {t t':TG} (h:PG X e t) (h':PG X e t'):PG X e (λv σ H Q=>t v σ H Q\/t' v σ H Q):=by
 intro K2 s σ H v u Q I r q;rcases q with q | q
 ·exact h K2 s σ H v u Q I r q
 ·exact h' K2 s σ H v u Q I r q
end
def nK (X:Cx) (scope:Scope):List (KO Nat)->List Str->Prop
 | some j::r,x::xs=>(X.N[j]?=some x/\(X.env.scope.names.lookup x=some .cell\/X.env.scope.names.lookup x=some .free)/\((relabel scope X.env).names.lookup x=some .cell\/(relabel scope X.env).names.lookup x=some .free))/\nK X scope r xs
 | none::r,_::xs=>nK X scope r xs
 | _,_=>True
theorem nK.get {X:Cx} {scope:Scope}:∀ {cap:List (KO Nat)} {N:List Str},nK X scope cap N->∀ (i j:Nat) (x:Str),cap[i]?=some (some j)->N[i]?=some x->
  X.N[j]?=some x/\(X.env.scope.names.lookup x=some .cell\/X.env.scope.names.lookup x=some .free)/\((relabel scope X.env).names.lookup x=some .cell\/(relabel scope X.env).names.lookup x=some .free)
 | [],_,_,_,_,_,h,_=>by simp at h
 | _::_,[],_,_,_,_,_,h=>by simp at h
 | some _::_,_::_,h,0,j,x,h1,h2=>by
  simp at h1 h2
  subst h1 h2;exact h.1
 | none::_,_::_,_,0,j,x,h1,_=>by simp at h1
 | some _::_,_::_,h,i+1,j,x,h1,h2=>nK.get h.2 i j x (by simpa using h1) (by simpa using h2)
 | none::r,_::xs,h,i+1,j,x,h1,h2=>nK.get (show nK X scope r xs from h) i j x (by simpa using h1) (by simpa using h2)
def uk (X:Cx):List (Str×KN)->Prop
 | []=>True
 | p::r=>X.env.cells.lookup p.1=some p.2/\uk X r
theorem uk.mem {X:Cx}:∀ {cl:List (Str×KN)},uk X cl->∀ p∈cl,X.env.cells.lookup p.1=some p.2
 | [],_,p,hp=>by simp at hp
 | q::r,h,p,hp=>by
  rcases J2.mp hp with e | e
  ·subst e; exact h.1
  ·exact uk.mem h.2 p e
theorem dk {X:Cx} {scope:Scope} {cl:List (Str×KN)} {N:List Str} {cap:List (KO Nat)} (h1:scope.kind=.function) (h2:closureFor scope X.env=pure cl) (h3:(scope.names.all λy=>y.2 != NameKind.cell)=true)
  (h4:(scope.names.all λy=>y.2 != NameKind.local || scope.names.lookup y.1 == some NameKind.local)=true) (h5:uk X cl)
  (h6:((relabel scope X.env).names.all λy=>(y.2 != NameKind.cell && y.2 != NameKind.free) || (cl.lookup y.1).isSome)=true) (h7:cap.length=N.length) (h8:nK X scope cap N):dJ X scope cl N cap:=⟨h1,h2,h3,h4,h5.mem,h6,h7,h8.get⟩
end L2
namespace DL
open PySem PySem.Spec PyProof.Rows L2
section
variable {X:Cx} {pos:Pos}
def lO (n:Nat) (t:Be):DG:=λd L S k=>match aI S d with
 | some p=>p.1.length=n/\t p.1 L S k
 | none=>False
theorem EG {es:List KP} {k:Nat} {t:Be} {n:Nat} (hc:X.calm=true) (h:GR X es t) (hn:(assignEach es X.env).length=n:=by rfl) (hst:(assignEach es X.env).findIdx? (·.1)=none:=by rfl):GJ X (.Tuple es k pos) (lO n t):=
 ⟨PG.imp (PG.or (Dh hc h.h hn hst) (Dp hc h.h hn hst)) λv σ H Q ⟨d,L,S,k,i1,hL,hS,h,m⟩=>by
  cases d with
  | tup ds=>
   obtain⟨a,xs,rfl,t1,j⟩:=bw.mp i1;exact .inl ⟨a,xs,rfl,t1,by rw [<- j.length]; exact h.1,ds,L,S,k,j,hL,hS,h.2,m⟩
  | rl ds=>
   obtain⟨a,xs,rfl,t1,j⟩:=tW.mp i1;exact .inr ⟨a,xs,rfl,t1.sq,by rw [<- j.length]; exact h.1,ds,L,S,k,j,hL,hS,h.2,m⟩
  | ref a=>
   have e1:=aR.mp i1;subst e1;cases z:S a with
   | none=>simp only [lO,aI,z] at h
   | some o=>
    cases o with
    | dic=>simp only [lO,aI,z] at h
    | exc _=>simp only [lO,aI,z] at h
    | fn _=>simp only [lO,aI,z] at h
    | tbl _=>simp only [lO,aI,z] at h
    | gen _=>simp only [lO,aI,z] at h
    | lst ds=>
     simp only [lO,aI,z] at h;obtain⟨xs,hl,j⟩:=hS.lst z;exact .inr ⟨a,xs,rfl,eH.of hl,by rw [<- j.length]; exact h.1,ds,L,S,k,j,hL,hS,h.2,m⟩
  | _=>exact(show False from h).elim⟩
end
def xR (cap:List (KO Nat)) (L:Lo):Lo:=cap.map λo=>match o with
 | some j=>(L[j]?).join
 | none=>none
theorem Lc.cap {K:Fg} {H:Hp} {L:Lo} {σ:L2.St} (hL:Lc K H L σ):∀ cap:List (KO Nat),Lc K H (xR cap L) (ma cap σ)
 | []=>rfl
 | Option.none::r=>⟨_,_,rfl,Lc.cap hL r⟩
 | Option.some j::r=>by
  show Lc K H ((L[j]?).join::xR r L) ((σ[j]?).join::ma r σ)
  cases e:L[j]? with
  | none=>exact⟨_,_,rfl,Lc.cap hL r⟩
  | some o=>
   cases o with
   | none=>exact⟨_,_,rfl,Lc.cap hL r⟩
   | some d=>
    obtain⟨v,e1,e2⟩:=hL.get e;rw [e1];exact⟨v,_,rfl,e2,Lc.cap hL r⟩
abbrev DB:=Lo->DH->(KO D->DH->Prop)->Prop
def jx (ge:DE):DB:=λL S k=>ge L S λv S1=>k (some v) S1
def oj (c:DT) (ge:DE):DB:=λL S k=>c L S λb S1=>if b=true then ge L S1 λv S2=>k (some v) S2 else k none S1
def bK (ok:DH->Prop) (p:KN) (g:DG) (bd:DB) (k:DK):List D->List D->Lo->DH->Prop
 | [],_,_,S=>ok S/\k (.ref p) S
 | d::r,acc,L,S=>ok S/\g d L S λL1 S1=>bd L1 S1 λo S2=>match o with
  | some v=>S2 p=some (.lst acc)/\acc.length < sizeLine/\bK ok p g bd k r (acc++[v]) L1 (put S2 p (.lst (acc++[v])))
  | none=>bK ok p g bd k r acc L1 S2
def D6 (cap:List (KO Nat)) (ta:DA) (g:DG) (bd:DB):DE:=λL S k=>ta L S λds S1=>match ds with
 | [.int n]=>(-(2 ^ 62)<=n/\n < 2 ^ 62)/\∀ p,S1 p=none->bK (λ_=>True) p g bd k ((List.range n.toNat).map λi=>D.int (i:Nat)) [] (xR cap L) (put S1 p (.lst []))
 | _=>False
section
variable {K:Fg} {ok:DH->Prop} {gg:DG} {ge:DE} {gc:DT} {k:DK} {ds:List D} {L:Lo} {S:DH} {σ:L2.St} {H:Hp} {J:It} {Q:VK} {p:KN}
theorem hX (hL:Lc K H L σ) (hS:Hs K H S) (hp:H p=none) (h:bK ok p gg (jx ge) k ds [] L (put S p (.lst [])))
  (n:∀ d S' v H',k d S'->Kp H H'->Hs K H' S'->bA K H' d v->Q v H')
  (hgo:∀ i d S1 H1,ds[i]?=some d->Kp H H1->Hs K H1 S1->ok S1->J.go i H1/\∀ x H',J.yld i H1 x H'->H'=H1/\bA K H1 d x)
  (hst:∀ S1 H1,Kp H H1->Hs K H1 S1->ok S1->J.stop ds.length H1):
  ∃ W:Nat->Nat->L2.St->Hp->Prop,(∃ m,W 0 m σ (br H p (.lst [])))/\∀ i m σ' H',W i m σ' H'->
   (J.stop i H'/\Q (.ref p) H')\/(J.go i H'/\∃ N:L2.St->Hp->Prop,(∀ σ2 H2,N σ2 H2->∃ m',m' < m/\W (i+1) m' σ2 H2)/\∀ x H2,J.yld i H' x H2->DW K gg x σ' H2 fun σ3 H3=>up K ge σ3 H3 λv H4=>∃ ys,H4 p=some (.lst ys)/\ys.length < sizeLine/\N σ3 (br H4 p (.lst (ys++[v])))):=by
 refine⟨λi m σ1 H1=>m=ds.length - i/\i<=ds.length/\∃ acc L1 S1,Lc K H1 L1 σ1/\Hs K H1 S1/\Kp H H1/\bK ok p gg (jx ge) k (ds.drop i) acc L1 S1,⟨ds.length,by simp,Kz _,[],L,_,hL.kp (Kp.new hp),hS.newL hp IsDs.nil,Kp.new hp,h⟩,?_⟩
 rintro i m σ1 H1 ⟨rfl,hi,acc,L1,S1,hL1,hS1,k1,w1⟩
 by_cases hlt:i < ds.length
 ·have e:ds.drop i=ds[i]::ds.drop (i+1):=Kw hlt;rw [e] at w1;obtain⟨o1,w1⟩:=w1;obtain⟨g1,y1⟩:=hgo i ds[i] S1 H1 (by simp [hlt]) k1 hS1 o1
  refine .inr ⟨g1,fun σ' H'=>i+1<=ds.length/\∃ acc L' S',Lc K H' L' σ'/\Hs K H' S'/\Kp H H'/\bK ok p gg (jx ge) k (ds.drop (i+1)) acc L' S',fun σ' H' z9=>by obtain⟨q1,q2⟩:=z9; exact⟨ds.length - (i+1),by omega,rfl,q1,q2⟩,λx H' y=>?_⟩
  obtain⟨rfl,ix⟩:=y1 x H' y;refine⟨ds[i],L1,S1,_,ix,hL1,hS1,w1,λL2 S2 σ2 H2 q k2 hL2 hS2=>up.go hL2 hS2 q λd S3 v H3 h3 k3 hL3 hS3 i3=>?_⟩
  obtain⟨z1,z2,z3⟩:=h3;obtain⟨xs,hl,j⟩:=hS3.lst z1;have k4:Kp H3 (br H3 p (.lst (xs++[v]))):=Kp.mut hl (λz=>z)
  exact⟨xs,hl,by rw [<- j.length]; exact z2,hlt,_,L2,_,hL3.kp k4,hS3.setL hl (j.append (IsDs.cons i3 IsDs.nil)),((k1.trans k2).trans k3).trans k4,z3⟩
 ·have e:i=ds.length:=by omega
  subst e;rw [List.drop_length] at w1;obtain⟨o1,w1⟩:=w1;exact .inl ⟨hst S1 H1 k1 hS1 o1,n _ S1 _ H1 w1 k1 hS1 (aR.mpr rfl)⟩
theorem jP (hL:Lc K H L σ) (hS:Hs K H S) (hp:H p=none) (h:bK ok p gg (oj gc ge) k ds [] L (put S p (.lst [])))
  (n:∀ d S' v H',k d S'->Kp H H'->Hs K H' S'->bA K H' d v->Q v H')
  (hgo:∀ i d S1 H1,ds[i]?=some d->Kp H H1->Hs K H1 S1->ok S1->J.go i H1/\∀ x H',J.yld i H1 x H'->H'=H1/\bA K H1 d x)
  (hst:∀ S1 H1,Kp H H1->Hs K H1 S1->ok S1->J.stop ds.length H1):
  ∃ W:Nat->Nat->L2.St->Hp->Prop,(∃ m,W 0 m σ (br H p (.lst [])))/\∀ i m σ' H',W i m σ' H'->
   (J.stop i H'/\Q (.ref p) H')\/(J.go i H'/\∃ N:L2.St->Hp->Prop,(∀ σ2 H2,N σ2 H2->∃ m',m' < m/\W (i+1) m' σ2 H2)/\∀ x H2,J.yld i H' x H2->DW K gg x σ' H2 fun σ3 H3=>tm K gc σ3 H3 λb H3'=>if b=true then up K ge σ3 H3' λv H4=>∃ ys,H4 p=some (.lst ys)/\ys.length < sizeLine/\N σ3 (br H4 p (.lst (ys++[v]))) else N σ3 H3'):=by
 refine⟨λi m σ1 H1=>m=ds.length - i/\i<=ds.length/\∃ acc L1 S1,Lc K H1 L1 σ1/\Hs K H1 S1/\Kp H H1/\bK ok p gg (oj gc ge) k (ds.drop i) acc L1 S1,⟨ds.length,by simp,Kz _,[],L,_,hL.kp (Kp.new hp),hS.newL hp IsDs.nil,Kp.new hp,h⟩,?_⟩
 rintro i m σ1 H1 ⟨rfl,hi,acc,L1,S1,hL1,hS1,k1,w1⟩
 by_cases hlt:i < ds.length
 ·have e:ds.drop i=ds[i]::ds.drop (i+1):=Kw hlt;rw [e] at w1;obtain⟨o1,w1⟩:=w1;obtain⟨g1,y1⟩:=hgo i ds[i] S1 H1 (by simp [hlt]) k1 hS1 o1
  refine .inr ⟨g1,fun σ' H'=>i+1<=ds.length/\∃ acc L' S',Lc K H' L' σ'/\Hs K H' S'/\Kp H H'/\bK ok p gg (oj gc ge) k (ds.drop (i+1)) acc L' S',fun σ' H' z9=>by obtain⟨q1,q2⟩:=z9; exact⟨ds.length - (i+1),by omega,rfl,q1,q2⟩,λx H' y=>?_⟩
  obtain⟨rfl,ix⟩:=y1 x H' y;refine⟨ds[i],L1,S1,_,ix,hL1,hS1,w1,λL2 S2 σ2 H2 q k2 hL2 hS2=>tm.go hL2 hS2 q λb S2' H2' h2 k2' hL2' hS2'=>?_⟩
  cases b with
  | true=>
   rw [if_pos rfl] at h2 ⊢;refine up.go hL2' hS2' h2 λd S3 v H3 h3 k3 hL3 hS3 i3=>?_
   obtain⟨z1,z2,z3⟩:=h3;obtain⟨xs,hl,j⟩:=hS3.lst z1;have k4:Kp H3 (br H3 p (.lst (xs++[v]))):=Kp.mut hl (λz=>z)
   exact⟨xs,hl,by rw [<- j.length]; exact z2,hlt,_,L2,_,hL3.kp k4,hS3.setL hl (j.append (IsDs.cons i3 IsDs.nil)),(((k1.trans k2).trans k2').trans k3).trans k4,z3⟩
  | false=>
   rw [if_neg J0] at h2 ⊢;exact⟨hlt,acc,L2,S2',hL2',hS2',(k1.trans k2).trans k2',h2⟩
 ·have e:i=ds.length:=by omega
  subst e;rw [List.drop_length] at w1;obtain⟨o1,w1⟩:=w1;exact .inl ⟨hst S1 H1 k1 hS1 o1,n _ S1 _ H1 w1 k1 hS1 (aR.mpr rfl)⟩
end
theorem A9 {K:Fg} {H:Hp} {n:Int}:∀ i d (S1:DH) H1,((List.range n.toNat).map λi=>D.int (i:Nat))[i]?=some d->Kp H H1->Hs K H1 S1->(λ_=>True:DH->Prop) S1->(HB 0 n.toNat).go i H1/\∀ x H',(HB 0 n.toNat).yld i H1 x H'->H'=H1/\bA K H1 d x:=by
 intro i d S1 H1 e _ _ _;rw [Ki] at e;cases q:(List.range (Int.toNat _))[i]? with
 | none=>rw [q] at e; cases e
 | some z=>
  rw [q] at e;cases e;obtain⟨hz1,hz2⟩:=Kl.mp q;rw [List.length_range] at hz1;rw [List.getElem_range] at hz2;subst hz2;exact⟨hz1,λx H' y=>⟨y.1,by rw [y.2]; exact isInt.mpr (by rw [Int.zero_add])⟩⟩
def Fe (K:Fg) (mg:Str->KO KM) (x:Str) (ns:List Int):Prop:=∃ p o its n,mg x=some (.ref p)/\K.lookup p=some o/\o.cls=.type "tuple"/\o.data=.seq its n/\its.size<=sizeLine/\aV (ns.map V.int) its.toList
theorem mR {K:Fg} {H:Hp}:∀ ns:List Int,IsDs K H (ns.map D.int) (ns.map V.int)
 | []=>IsDs.nil
 | _::ns=>IsDs.cons (isInt.mpr rfl) (mR ns)
theorem Da {X:Cx} {x:Str} {ns:List Int} {pos:Pos} (g:Fe X.K X.mg x ns) (hg:Gl X x) (hd:(x == ("__debug__":Str))=false:=by decide):EJ X (.Name x pos) (dC (.tup (ns.map D.int))):=by
 obtain⟨p,o,its,n,hm,h1,h2,h3,h4,h5⟩:=g;exact⟨CL (oE (v:=.ref p) hg hm rfl hd) λH=>bw.mpr ⟨p,_,rfl,.inr ⟨o,its,n,h1,h2,h3,h4,h5⟩,mR ns⟩⟩
theorem fm.imp {K:Fg} {r r':D2} (i:∀ d e S k,r' d e S k->r d e S k):∀ x y H Q,fm K r' x y H Q->fm K r x y H Q:=λx y H Q z9=>by obtain⟨d,e,S,k,a,b,c,h,n⟩:=z9; exact⟨d,e,S,k,a,b,c,i d e S k h,n⟩
theorem nX.imp {K:Fg} {r r':bE} (i:∀ ds S k,r' ds S k->r ds S k):∀ xs H Q,nX K r' xs H Q->nX K r xs H Q:=λxs H Q z9=>by obtain⟨ds,S,k,a,b,h,n⟩:=z9; exact⟨ds,S,k,a,b,i ds S k h,n⟩
theorem cS.imp {X:Cx} {f:KM->KM->Sem KM} {r r':R2} (h:cS X f r) (i:∀ x y H Q,r' x y H Q->r x y H Q):cS X f r':=λK2 s σ H x y v u Q I rx ry q=>h K2 s σ H x y v u Q I rx ry (i x y H Q q)
theorem wz.imp {X:Cx} {r r':R2} (h:wz X r) (i:∀ x y H Q,r' x y H Q->r x y H Q):wz X r':=λvalue slice K2 s σ H x y v u Q I rx ry q=>h value slice K2 s σ H x y v u Q I rx ry (i x y H Q q)
theorem bP.imp {X:Cx} {f:KM} {r r':List V->Hp->VK->Prop} (h:bP X f r) (i:∀ xs H Q,r' xs H Q->r xs H Q):bP X f r':=λK2 s σ H xs us Q I rs q=>h K2 s σ H xs us Q I rs (i xs H Q q)
def Cm:D2:=λd e S k=>match d,e with
 | .tup ds,.int i=>(match L2.atI ds i with
  | some c=>k c S
  | none=>False)
 | .rl ds,.int i=>∃ c,L2.atI ds i=some c/\k c S
 | .ref a,.int i=>∃ ds c,S a=some (.lst ds)/\L2.atI ds i=some c/\k c S
 | _,_=>False
theorem pd {X:Cx}:wz X (fm X.K Cm):=wz.imp Gh (fm.imp λd e S k h=>by
 unfold Cm at h
 split at h
 ·exact h
 ·obtain⟨c,h1,h2⟩:=h;simp only [tv,h1];exact h2
 ·obtain⟨ds,c,h0,h1,h2⟩:=h;simp only [tv,h0,h1];exact h2
 ·exact h.elim)
theorem dz {X:Cx} {x:Str} {p1 p2 pos:Pos} {c:Int} {j} (n:Nat) (hN:X.N[n]?=some x:=by rfl) (hv:GM X.env.scope x:=by first | exact Or.inl rfl | exact Or.inr (Or.inl rfl) | exact Or.inr (Or.inr rfl)) (hd:(x == ("__debug__":Str))=false:=by decide) (hcd:(x == ("__classdict__":Str))=false:=by decide):EJ X (.Subscript (.Name x p1) (.Constant (.int c) j p2) pos) (xp Cm (cL n) (dC (.int c))):=aD pd (af n hN hv hd hcd) ae Zf
def yZ:bE:=λds S k=>match ds with
 | [.tup xs]=>k (.int xs.length) S
 | [.rl xs]=>k (.int xs.length) S
 | [.ref a]=>∃ xs,S a=some (.lst xs)/\k (.int xs.length) S
 | _=>False
theorem cM {X:Cx}:bP X (.builtin "len") (nX X.K yZ):=bP.imp GK (nX.imp λds S k h=>by
 unfold yZ at h
 split at h
 ·exact h
 ·exact h
 ·obtain⟨xs,h1,h2⟩:=h;simp only [Dy,h1];exact h2
 ·exact h.elim)
def Hm (gi:DE) (g:DG) (b:DS):DS:=λM L S=>gi L S λd S1=>∃ p,aI S1 d=some p/\fZ (eK p) g b M p.1 L S1
def EM (n:Nat) (t:Be):DG:=λd L S k=>∃ p,aI S d=some p/\p.1.length=n/\t p.1 L S k
theorem GJ.imp {X:Cx} {e:KP} {g g':DG} (h:GJ X e g) (i:∀ d L S k,g' d L S k->g d L S k):GJ X e g':=⟨PG.imp h.h λv σ H Q z9=>by obtain⟨d,L,S,k,a,hL,hS,q,n⟩:=z9; exact⟨d,L,S,k,a,hL,hS,i d L S k q,n⟩⟩
theorem r_ {X:Cx} {pos:Pos} {es:List KP} {k:Nat} {t:Be} {n:Nat} (hc:X.calm=true) (h:GR X es t) (hn:(assignEach es X.env).length=n:=by rfl) (hst:(assignEach es X.env).findIdx? (·.1)=none:=by rfl):GJ X (.Tuple es k pos) (EM n t):=
 GJ.imp (EG hc h hn hst) λd L S k ⟨p,h1,h2⟩=>by
  simp only [lO,h1];exact h2
section
variable {X:Cx} {pos:Pos}
def EW (go gi:DE):DG:=λd L S k=>go L S λo S1=>gi L S1 λi S2=>match o,i with
 | .ref a,.int j=>∃ ds n,S2 a=some (.lst ds)/\zo ds.length j=some n/\k L (put S2 a (.lst (ds.set n d)))
 | _,_=>False
theorem wD {o i:KP} {go gi:DE} (ho:EJ X o go) (hi:EJ X i gi)
  (ha:∀ v,assign (.Subscript o i pos) X.env v=(do
   let ov <- holding [v] (eval o X.env)
   let iv <- holding [v,ov] (eval i X.env)
   standAt pos
   holding [v,ov,iv] (setItem ov iv v)
   release [v,ov,iv] []):=by intro _; rfl):GJ X (.Subscript o i pos) (EW go gi):=
 ⟨PG.imp (zt ho.h hi.h zH ha) λv σ H Q ⟨d,L,S,k,i1,hL,hS,h,n⟩=>up.go hL hS h λc S1 u H1 h1 k1 hL1 hS1 j1=>up.go hL1 hS1 h1 λc2 S2 u2 H2 h2 k2 hL2 hS2 j2=>by
  cases c with
  | ref a=>
   cases c2 with
   | int z=>
    have e1:=aR.mp j1;have e2:=isInt.mp j2;subst e1;subst e2;obtain⟨ds,m,w,q,h2⟩:=h2;obtain⟨vs,hl,j⟩:=hS2.lst w;refine⟨a,vs,z,m,rfl,rfl,hl,by rw [<- j.length]; exact q,?_⟩
    have k3:Kp H2 (br H2 a (.lst (vs.set m v))):=Kp.mut hl (λz=>z)
    exact n L _ σ _ h2 (k1.trans (k2.trans k3)) (hL2.kp k3) (hS2.setL hl (j.set m (i1.kp (k1.trans k2))))
   | _=>exact(show False from h2).elim
  | _=>exact(show False from h2).elim⟩
theorem rV {K:Fg} {S1:DH} {H1:Hp} {d:D} {v:V} {p:List D×KO KN} (hS1:Hs K H1 S1) (i1:bA K H1 d v) (hp:aI S1 d=some p):∃ a,v=.ref a/\
  (((∃ xs, eH K H1 a xs) ∧ (∀ i c S2 H2, p.1[i]? = some c → Kp H1 H2 → Hs K H2 S2 → eK p S2 → (F0 K a).go i H2 ∧ ∀ x H', (F0 K a).yld i H2 x H' → H' = H2 ∧ bA K H2 c x) ∧ ∀ S2 H2, Kp H1 H2 → Hs K H2 S2 → eK p S2 → (F0 K a).stop p.1.length H2) ∨
   ((∃ xs,gZ K H1 a xs)/\(∀ i c S2 H2,p.1[i]?=some c->Kp H1 H2->Hs K H2 S2->eK p S2->(Ho K a).go i H2/\∀ x H',(Ho K a).yld i H2 x H'->H'=H2/\bA K H2 c x)/\∀ S2 H2,Kp H1 H2->Hs K H2 S2->eK p S2->(Ho K a).stop p.1.length H2)):=by
 cases d with
 | tup ds=>
  cases hp;obtain⟨a,xs,rfl,t,j⟩:=bw.mp i1;refine⟨a,rfl,.inr ⟨⟨xs,t⟩,λi d S2 H2 e k2 hS2 _=>?_,λS2 H2 k2 hS2 _=>⟨xs,k2.tup t,by rw [<- j.length]; exact JX _⟩⟩⟩
  obtain⟨w,e1,e2⟩:=j.get e;refine⟨⟨xs,w,k2.tup t,e1⟩,λx H' y=>⟨y.1,?_⟩⟩
  have z:=y.2 xs (k2.tup t);rw [e1] at z;cases z;exact e2.kp k2
 | rl ds=>
  cases hp;obtain⟨a,xs,rfl,t,j⟩:=tW.mp i1;refine⟨a,rfl,.inl ⟨⟨xs,t.sq⟩,λi d S2 H2 e k2 hS2 _=>?_,λS2 H2 k2 hS2 _=>⟨xs,(k2.fro t).sq,by rw [<- j.length]; exact JX _⟩⟩⟩
  obtain⟨w,e1,e2⟩:=j.get e;refine⟨⟨xs,w,(k2.fro t).sq,e1⟩,λx H' y=>⟨y.1,?_⟩⟩
  have z:=y.2 xs (k2.fro t).sq;rw [e1] at z;cases z;exact e2.kp k2
 | ref a=>
  have e1:=aR.mp i1;subst e1;cases z:S1 a with
  | none=>simp only [aI,z] at hp; cases hp
  | some o=>
   cases o with
   | dic=>simp only [aI,z] at hp; cases hp
   | exc _=>simp only [aI,z] at hp; cases hp
   | fn _=>simp only [aI,z] at hp; cases hp
   | tbl _=>simp only [aI,z] at hp; cases hp
   | gen _=>simp only [aI,z] at hp; cases hp
   | lst ds=>
    simp only [aI,z] at hp;cases hp;obtain⟨xs,hl,j⟩:=hS1.lst z;refine⟨a,rfl,.inl ⟨⟨xs,eH.of hl⟩,λi d S2 H2 e k2 hS2 o2=>?_,λS2 H2 k2 hS2 o2=>?_⟩⟩
    ·obtain⟨ys,hl2,j2⟩:=hS2.lst o2;obtain⟨w,e1,e2⟩:=j2.get e;refine⟨⟨ys,w,eH.of hl2,e1⟩,λx H' y=>⟨y.1,?_⟩⟩
     have q:=y.2 ys (eH.of hl2);rw [e1] at q;cases q;exact e2
    ·obtain⟨ys,hl2,j2⟩:=hS2.lst o2;exact⟨ys,eH.of hl2,by rw [<- j2.length]; exact JX _⟩
 | _=>cases hp
theorem qJ {tg iter:KP} {body:List KU} {gi:DE} {gg:DG} {g:DS} (hp:PassesOwn (model X.prog X.w) X.A X.env X.xe) (hc:X.calm=true) (hi:EJ X iter gi) (hg:GJ X tg gg) (hb:x9 X body g)
  (hs:∀ x,foldedSetIterable iter X.env x=pure x:=by intro _; rfl):SJ X (.For tg iter body [] pos) (Hm gi gg g):=
 ⟨PS.imp (pG hp hc (sg hi.h) hg.h hb.h hs) λN σ H ⟨L,S,M,hL,hS,h,r⟩=>up.go hL hS h λd S1 v H1 h1 k1 hL1 hS1 i1=>by
  obtain⟨p,hp,h1⟩:=h1;obtain⟨a,e,q⟩:=rV hS1 i1 hp;refine⟨a,e,?_⟩;rcases q with ⟨q1,q2,q3⟩ | ⟨q1,q2,q3⟩
  ·exact .inl ⟨q1,ml hL1 hS1 h1 (r.kp k1) q2 q3⟩
  ·exact .inr ⟨q1,ml hL1 hS1 h1 (r.kp k1) q2 q3⟩⟩
def rO (cap:List (KO Nat)) (gi:DE) (g:DG) (bd:DB):DE:=λL S k=>gi L S λd S1=>∃ q,aI S1 d=some q/\∀ p,S1 p=none->bK (eK q) p g bd k q.1 [] (xR cap L) (put S1 p (.lst []))
theorem dN {elt tg iter:KP} {scope:Scope} {cl:List (Str×KN)} {N:List Str} {cap:List (KO Nat)} {gg:DG} {ge gi:DE} (hc:X.calm=true) (Sc:dJ X scope cl N cap) (hi:EJ X iter gi) (hg:∀ s0 H0 ex C,GJ (eN X scope cl N s0 H0 ex C) tg gg) (he:∀ s0 H0 ex C,EJ (eN X scope cl N s0 H0 ex C) elt ge)
  (hs:∀ x,foldedSetIterable iter X.env x=pure x:=by intro _; rfl):EJ X (.ListComp elt [⟨tg,iter,[],0⟩] scope pos) (rO cap gi gg (jx ge)):=
 ⟨PE.imp (xg hc Sc (sg hi.h) (λs0 H0 ex C=>(hg s0 H0 ex C).h) (λs0 H0 ex C=>(he s0 H0 ex C).h) hs) fun σ H Q ⟨L,S,k,hL,hS,h,n⟩=>up.go hL hS h λd S1 v H1 h1 k1 hL1 hS1 i1=>by
  obtain⟨p,hp,h1⟩:=h1;obtain⟨a,e,q⟩:=rV hS1 i1 hp;refine⟨a,e,?_⟩;have n':∀ d S' v H',k d S'->Kp H1 H'->Hs X.K H' S'->bA X.K H' d v->Q v H':=λd S' v H' q k3=>n d S' v H' q (k1.trans k3)
  rcases q with ⟨q1,q2,q3⟩ | ⟨q1,q2,q3⟩
  ·exact .inl ⟨q1,λD hD=>hX (hL1.cap cap) hS1 hD (h1 D (hS1.free hD)) n' q2 q3⟩
  ·exact .inr ⟨q1,λD hD=>hX (hL1.cap cap) hS1 hD (h1 D (hS1.free hD)) n' q2 q3⟩⟩
end
end DL
namespace L2
open PySem PySem.Spec PyProof.Rows
structure oZ (P:KQ) (w:KS) (it l:KN) (st:Nat->KT->Prop) (sq:KW KM->KT->Prop):Prop where
 at_:∀ k h h',st k h->(∀ o,h.get? it=some o->h'.get? it=some o)->st k h'
 sqAt:∀ xs h h',sq xs h->(∀ o,h.get? l=some o->h'.get? l=some o)->sq xs h'
 obj:∀ k h,st k h->∃ o,h.get? it=some o/\∀ v,o.data≠.cell v
 item:∀ (A:KR) (k:Nat) (s:KL) (xs:KW KM) (x:KM) (Q:KM->KL->Prop) (E:KM->KL->Prop),st k s.heap->sq xs s.heap->xs[k]?=some x->
  (∀ h',st (k+1) h'->Heap.SameBut it s.heap h'->Q x {s with heap:=h'})->wpAny (model P w) A (Builtin.SmallTypes.nextOf (.ref it)) Q E s
 fin:∀ (A:KR) (k:Nat) (s:KL) (xs:KW KM) (Q:KM->KL->Prop) (E:KM->KL->Prop),A.handled=none->st k s.heap->sq xs s.heap->xs[k]?=none->
  (∀ h' e,Heap.ExtBut it s.heap h'->(∃ o,h'.get? e=some o/\o.cls=.type "StopIteration")->E (.ref e) {s with heap:=h'})->wpAny (model P w) A (Builtin.SmallTypes.nextOf (.ref it)) Q E s
theorem oZ.list {P:KQ} {w:KS} (it l:KN):oZ P w it l (λk h=>h.IsListIter it l k) (λxs h=>h.IsList l xs) where
 at_:=λ_ _ _ x y=>x.at y
 sqAt:=λ_ _ _ x y=>x.at y
 obj:=λ_ _ z9=>by obtain⟨o,e,_,d⟩:=z9; exact⟨o,e,λv z=>by rw [d] at z; cases z⟩
 item:=λ_ _ _ _ _ _ _ a b c d=>wpAny_nextOf_list_item a b c d
 fin:=λ_ _ _ _ _ _ hh a b c d=>wpAny_nextOf_list_end hh a b c d
section
variable {prog:KQ} {w:KS} {A:KR} {E:KM->KL->Prop} {s:KL}
theorem lr {it t:KN} {i:Nat} {items} {x:KM} {Q:KM->KL->Prop} (hit:s.heap.IsTupleIter it t i) (ht:s.heap.IsTuple t items) (hx:items[i]?=some x)
  (hQ:∀ h',h'.IsTupleIter it t (i+1)->Heap.SameBut it s.heap h'->Q x {s with heap:=h'}):wpAny (model prog w) A (Builtin.SmallTypes.nextOf (.ref it)) Q E s:=by
 obtain⟨o,ho,hc,hd⟩:=id hit;obtain⟨ol,hol,_,nl,hdl⟩:=ht;unfold Builtin.SmallTypes.nextOf;refine gt (KD (name:=Str.ofString "__next__") hit.typeIs F.slot_tuple_iterator_next (Ku F.slot_tuple_iterator_next hit.typeIs F.entry_tuple_iterator_next ?_ (F.args_tuple_iterator_next_1 _)))
 refine gt (m:=field (.ref it) 0) (wpAny_field ho hd (x:=.ref t) rfl ?_)
 show wpAny _ _ (if (Value.ref t == Value.none)=true then _ else _) _ _ s
 rw [if_neg (show ¬ ((Value.ref t == Value.none)=true) from J0)]
 refine gt (m:=field (.ref it) 1) (wpAny_field ho hd (x:=.int i 0) rfl ?_);refine gt (m:=seqItems? (.ref t)) (wpAny_seqItems hol hdl ?_);simp only [KE,hx];refine gt (wpAny_setField ho hd (by simp) (JU ⟨x,rfl,JU (hQ _ ⟨_,Heap.get?_update_self _ ho (Obj.isFreed_of_fields (Obj.data_mapFields hd _)),(Obj.cls_mapFields ..).trans hc,?_⟩ (Heap.SameBut.update ..))⟩))
 rw [Obj.data_mapFields hd];simp [rawInt]
theorem nB {it t:KN} {i:Nat} {items} {Q:KM->KL->Prop} (hh:A.handled=none) (hit:s.heap.IsTupleIter it t i) (ht:s.heap.IsTuple t items) (hx:items[i]?=none)
  (hE:∀ h' e,Heap.ExtBut it s.heap h'->(∃ o,h'.get? e=some o/\o.cls=.type "StopIteration")->E (.ref e) {s with heap:=h'}):wpAny (model prog w) A (Builtin.SmallTypes.nextOf (.ref it)) Q E s:=by
 obtain⟨o,ho,hc,hd⟩:=id hit;obtain⟨ol,hol,_,nl,hdl⟩:=ht;unfold Builtin.SmallTypes.nextOf;refine gt (KD (name:=Str.ofString "__next__") hit.typeIs F.slot_tuple_iterator_next (Ku F.slot_tuple_iterator_next hit.typeIs F.entry_tuple_iterator_next ?_ (F.args_tuple_iterator_next_1 _)))
 refine gt (m:=field (.ref it) 0) (wpAny_field ho hd (x:=.ref t) rfl ?_)
 show wpAny _ _ (if (Value.ref t == Value.none)=true then _ else _) _ _ s
 rw [if_neg (show ¬ ((Value.ref t == Value.none)=true) from J0)]
 refine gt (m:=field (.ref it) 1) (wpAny_field ho hd (x:=.int i 0) rfl ?_);refine gt (m:=seqItems? (.ref t)) (wpAny_seqItems hol hdl ?_);simp only [KE,hx];refine gt (wpAny_rule (gt (wpAny_setField ho hd (by simp) ?_)))
 refine gt (m:=newExc (.type "StopIteration") []) ?_
 simp only [newExc,newTuple];refine gt (Kh ?_ (by size_fits))
 refine gt (m:=firstArgMember _ _) (wpAny_of_eq (a:=Value.none) (by first | rfl | (simp only [firstArgMember]; rfl)) ?_)
 refine Kh ?_ (by size_fits)
 simp only [raiseNew];refine gt (wpAny_handled ?_)
 first | rw [show A.in1.handled=none from hh] | rw [hh]
 exact gt (JU (wpAny_throw (hE _ _ (((Heap.SameBut.update ..).extBut.push _).push _) ⟨_,JV _ rfl,rfl⟩)))
end
theorem oZ.tuple {P:KQ} {w:KS} (it l:KN):oZ P w it l (λk h=>h.IsTupleIter it l k) (λxs h=>h.IsTuple l xs) where
 at_:=λ_ _ _ x y=>x.at y
 sqAt:=λ_ _ _ x y=>x.at y
 obj:=λ_ _ z9=>by obtain⟨o,e,_,d⟩:=z9; exact⟨o,e,λv z=>by rw [d] at z; cases z⟩
 item:=λ_ _ _ _ _ _ _ a b c d=>lr a b c d
 fin:=λ_ _ _ _ _ _ hh a b c d=>nB hh a b c d
section
variable {l1 l2:KN} {n1 n2:KZ} {sq1 Js:KW KM->KT->Prop}
abbrev Bh (h:KT) (n1:KZ) (l1:KN):KT:=h.push {cls:=.type n1,data:=.fields #[.ref l1,.int 0 0]}
variable {prog:KQ} {w:KS} {A:KR} {E:KM->KL->Prop} {s:KL}
end
section
variable {X:Cx} {K2:List (KN×K1)} {σ:St} {H:Hp} {s:KL} {h':KT}
theorem aE.turnedL {t':Nat} (ch:List KN) (I:aE X K2 σ H s) (k:∀ b o,b∉ch->s.heap.get? b=some o->h'.get? b=some o) (hf:∀ b∈ch,nj X K2 H b):aE X K2 σ H {s with heap:=h',toks:=t'}:=by
 have nit:∀ b u,H b=some u->b∉ch:=λb u e z=>by rw [(hf b z).1] at e; cases e
 refine I.step (g':=s.gens) (d':=s.drawn) (ch:=ch) (λb hb=>⟨(hf b hb).2.2.2.1,(hf b hb).2.1,(hf b hb).2.2.2.2.1,(hf b hb).2.2.2.2.2⟩) (λb o _ _ hc e _=>k b o hc e) (λb o _ _ hc e _=>⟨o.slots,k b o hc e⟩) (λ_ _ _ _ n=>n)
  (λb o hc e=>⟨o,k b o hc e⟩) (λ_ _ e=>e) (λ_ _ _ e=>e) (λb ps e=>⟨#[],by rw [e]; simp⟩) (λm hm=>?_) (λb u e=>?_) I.bare
 ·obtain⟨o,es,ep,ho,r⟩:=hm;exact⟨o,es,ep,k _ o (λz=>(hf _ z).2.1 rfl) ho,r⟩
 ·refine(I.hok b u e).stay (λc v hc q=>k c v ?_ q) (λ_ q=>q) λ_ _ q=>q
  rcases hc with z | z
  ·rw [z]; exact nit b u e
  ·exact nit c _ z
theorem aE.turnedNew {t':Nat} {T:KN} {xs:List V} (ch:List KN) (I:aE X K2 σ H s) (k:∀ b o,b∉ch->s.heap.get? b=some o->h'.get? b=some o) (hf:∀ b∈ch,nj X K2 H b) (hT:s.heap.objs.size<=T)
  (new:dy X.prog X.w (br H T (.tup xs)) h' T (.tup xs)):aE X K2 σ (br H T (.tup xs)) {s with heap:=h',toks:=t'}:=by
 have hn:H T=none:=I.hok.fresh hT;have nit:∀ b u,H b=some u->b∉ch:=λb u e z=>by rw [(hf b z).1] at e; cases e
 have neT:∀ b o,s.heap.get? b=some o->b≠T:=λb o e z=>by subst z; exact absurd (J6 (JW e) hT) (KA _)
 refine I.step (g':=s.gens) (d':=s.drawn) (ch:=ch) (λb hb=>⟨(hf b hb).2.2.2.1,(hf b hb).2.1,(hf b hb).2.2.2.2.1,(hf b hb).2.2.2.2.2⟩) (λb o _ _ hc e _=>k b o hc e) (λb o _ _ hc e _=>⟨o.slots,k b o hc e⟩) (λb o _ e n=>by rw [aN (neT b o e)]; exact n)
  (λb o hc e=>⟨o,k b o hc e⟩) (λb _ e=>by rw [aN (bO e hn)]; exact e) (λb _ _ e=>by rw [aN (bO e hn)]; exact e) (λb ps e=>⟨#[],by rw [aN (bO e hn),e]; simp⟩) (λm hm=>?_) (λb u e=>?_) I.bare
 ·obtain⟨o,es,ep,ho,r⟩:=hm;exact⟨o,es,ep,k _ o (λz=>(hf _ z).2.1 rfl) ho,r⟩
 ·by_cases hb:b=T
  ·subst hb;rw [bo] at e;cases e;exact new
  ·rw [aN hb] at e;refine(I.hok b u e).stay (λc v hc q=>k c v ?_ q) (λc q=>by rw [aN (bO q hn)]; exact q) λc _ q=>by rw [aN (bO q hn)]; exact q
   rcases hc with z | z
   ·rw [z]; exact nit b u e
   ·exact nit c _ z
end
def wu (b:KY) (K:PySem.W.Frag) (H:Hp) (a:KN) (xs:List V):Prop:=match b with | true=>eH K H a xs | false=>gZ K H a xs
def Hk (b:KY) (it l:KN) (k:Nat) (h:KT):Prop:=match b with | true=>h.IsListIter it l k | false=>h.IsTupleIter it l k
def sqB (b:KY) (l:KN) (xs:KW KM) (h:KT):Prop:=match b with | true=>h.IsList l xs | false=>h.IsTuple l xs
theorem dL {P:KQ} {w:KS} (b:KY) (it l:KN):oZ P w it l (Hk b it l) (sqB b l):=match b with | true=>oZ.list it l | false=>oZ.tuple it l
section
variable {X:Cx} {K2:List (KN×K1)} {σ:St} {H:Hp} {s:KL} {a:KN} {xs ys:List V} {b:KY}
theorem aE.sqB (I:aE X K2 σ H s) (h:wu b X.K H a xs):∃ its:List KM,aV xs its/\L2.sqB b a its.toArray s.heap:=by
 cases b with
 | true=>obtain⟨its,r,p,_⟩:=I.list h; exact⟨its,r,p.isList⟩
 | false=>obtain⟨its,r,p,_⟩:=I.tuple h; exact⟨its,r,p⟩
theorem aE.sqB_inj (I:aE X K2 σ H s) (h:wu b X.K H a xs) (h':wu b X.K H a ys):xs=ys:=by
 cases b with
 | true=>exact I.list_inj h h'
 | false=>exact I.tuple_inj h h'
theorem vH {its:KW KM} {h:KT} (e:L2.sqB b a its h):a < h.objs.size:=by
 cases b with
 | true=>obtain⟨o,e,_⟩:=e; exact JW e
 | false=>obtain⟨o,e,_⟩:=e; exact JW e
end
end L2
namespace DL
open PySem PySem.Spec PyProof.Rows L2
theorem uZ {K:Fg} {S1:DH} {H1:Hp} {d:D} {v:V} {p:List D×KO KN} (hS1:Hs K H1 S1) (i1:bA K H1 d v) (hp:aI S1 d=some p):∃ a b,v=.ref a/\
  (∃ xs,wu b K H1 a xs)/\∀ S2 H2,Kp H1 H2->Hs K H2 S2->eK p S2->∃ xs,wu b K H2 a xs/\IsDs K H2 p.1 xs:=by
 cases d with
 | tup ds=>
  cases hp;obtain⟨a,xs,rfl,t,j⟩:=bw.mp i1;exact⟨a,false,rfl,⟨xs,t⟩,λS2 H2 k2 _ _=>⟨xs,k2.tup t,j.kp k2⟩⟩
 | rl ds=>
  cases hp;obtain⟨a,xs,rfl,t,j⟩:=tW.mp i1;exact⟨a,true,rfl,⟨xs,t.sq⟩,λS2 H2 k2 _ _=>⟨xs,(k2.fro t).sq,j.kp k2⟩⟩
 | ref a=>
  have e1:=aR.mp i1;subst e1;cases z:S1 a with
  | none=>simp only [aI,z] at hp; cases hp
  | some o=>
   cases o with
   | dic=>simp only [aI,z] at hp; cases hp
   | exc _=>simp only [aI,z] at hp; cases hp
   | fn _=>simp only [aI,z] at hp; cases hp
   | tbl _=>simp only [aI,z] at hp; cases hp
   | gen _=>simp only [aI,z] at hp; cases hp
   | lst ds=>
    simp only [aI,z] at hp;cases hp;obtain⟨xs,hl,j⟩:=hS1.lst z;refine⟨a,true,rfl,⟨xs,eH.of hl⟩,λS2 H2 k2 hS2 o2=>?_⟩
    obtain⟨ys,hl2,j2⟩:=hS2.lst o2;exact⟨ys,eH.of hl2,j2⟩
 | _=>cases hp
theorem t9 {K:Fg} {H:Hp}:∀ {bs:List KY} {xs:List V},IsDs K H (bs.map D.bl) xs->xs=bs.map V.bl
 | [],_,h=>eF.mp h
 | b::bs,_,h=>by
  obtain⟨v,r,rfl,h1,h2⟩:=bD.mp h;rw [aS.mp h1,t9 h2]
  rfl
theorem tG:∀ {bs:List KY} {us:List KM},aV (bs.map V.bl) us->us=bs.map Value.bool
 | [],_,.nil=>rfl
 | b::bs,_,.cons r t=>by
  cases r;rw [tG t]
  rfl
theorem mX:∀ (bs:List KY),(List.range bs.length).all (λi=>bs.getD i true)=bs.all id
 | []=>rfl
 | b::bs=>by
  rw [J9,List.range_succ_eq_map,List.all_cons,List.all_map,List.all_cons];exact congrArg (b && ·) (mX bs)
theorem wW {S:DH} {d:D} {q:List D×KO KN} (h:aI S d=some q):eK q S:=by
 cases d with
 | tup ds=>cases h; trivial
 | rl ds=>cases h; trivial
 | ref a=>
  simp only [aI] at h
  split at h
  ·rename_i z; cases h; exact z
  ·cases h
 | _=>cases h
def A3:bE:=λds S k=>match ds with
 | [d]=>∃ (q:List D×KO KN) (bs:List KY),aI S d=some q/\q.1=bs.map D.bl/\k (.bl (bs.all id)) S
 | _=>False
theorem Dc {X:Cx} (hc:X.calm=true:=by rfl):bP X (.builtin "all") (nX X.K A3):=by
 intro K2 s σ H xs us Q I rs h;obtain⟨ds,S,k,i,hS,r,n⟩:=h;unfold A3 at r
 split at r
 ·obtain⟨x,rfl,i1⟩:=cf i;obtain⟨q,bs,e1,e2,r⟩:=r;obtain⟨a,b,rfl,_,y⟩:=uZ hS i1 e1;obtain⟨vs,w1,w2⟩:=y S H (Kp.refl H) hS (wW e1);rw [e2] at w2;have ev:=t9 w2;subst ev;obtain⟨its,rv,p⟩:=I.sqB w1;have ei:=tG rv;subst ei;cases rs with
  | cons r0 rr=>
   cases rr;cases r0;have hh:X.A.in1.handled=none:=I.ok.hd hc;have hlt:=vH p;have fin:∀ (nm:KZ) (h':KT) (tk:Nat),(∀ c o,c∉[s.heap.objs.size]->(s.heap.push {cls:=.type nm,data:=.fields #[.ref a,.int 0 0]}).get? c=some o->h'.get? c=some o)->
     EP X K2 σ Q (.bool (bs.all id)) {s with heap:=h',toks:=tk}:=λnm h' tk kk=>by
    have I1:aE X K2 σ H {s with heap:=s.heap.push {cls:=.type nm,data:=.fields #[.ref a,.int 0 0]}}:=I.kept (t':=s.toks) λc o e=>pp _ e
    refine⟨.bl (bs.all id),H,aE.turnedL (s:={s with heap:=s.heap.push {cls:=.type nm,data:=.fields #[.ref a,.int 0 0]}}) (t':=tk) [s.heap.objs.size] I1 kk (λc hc=>?_),rfl,n _ _ _ _ r (Kp.refl H) hS (aS.mpr rfl)⟩
    have e:c=s.heap.objs.size:=by simpa using hc
    subst e;exact I.fpOk (JX _) (I.hok.fresh (JX _))
   have len:(bs.map Value.bool).toArray.size=bs.length:=by simp
   have tr:∀ A',TruthOf X.prog X.w A' (λi v=>(bs.map Value.bool).toArray[i]?=some v) (λi=>bs.getD i true):=λA' i v s' Q' E' hP hQ=>by
    have hP':(bs[i]?).map Value.bool=some v:=by simpa using hP
    cases z:bs[i]? with
    | none=>rw [z] at hP'; cases hP'
    | some c=>
     rw [z] at hP';cases hP';refine wpAny_truthy_bool ?_
     simpa [List.getD,z] using hQ
   refine call_all_walk ?_;cases b with
   | true=>
    refine wpAny_pyIter_list (show s.heap.IsList a _ from p) ?_
    refine⟨s.heap.objs.size,_,_,_,_,_,_,rfl,Walks.list hh s.heap.objs.size a (J3 hlt) (bs.map Value.bool).toArray,⟨⟨_,JV _ rfl,rfl,rfl⟩,Heap.IsList.at p λo e=>pp _ e⟩,tr _,λh' tk kk=>?_⟩
    rw [len,mX];exact fin _ h' tk kk
   | false=>
    refine wpAny_pyIter_tuple (show s.heap.IsTuple a _ from p) ?_
    refine⟨s.heap.objs.size,_,_,_,_,_,_,rfl,Walks.tuple hh s.heap.objs.size a (J3 hlt) (bs.map Value.bool).toArray,⟨⟨_,JV _ rfl,rfl,rfl⟩,Heap.IsTuple.at p λo e=>pp _ e⟩,tr _,λh' tk kk=>?_⟩
    rw [len,mX];exact fin _ h' tk kk
 ·exact r.elim
theorem yF {X:Cx} {K2:List (KN×K1)} {σ:L2.St} {H:Hp} {s:KL} {S:DH} {d:D} {x:V} {u:KM} {t:Ty} (I:aE X K2 σ H s) (hS:Hs X.K H S) (i:bA X.K H d x) (r:aW x u) (h:FM S d=some t):
  ∃ Hh:KT->Prop,PySem.W.KitX X.K u (.type t.name) Hh/\Hh s.heap/\u≠.builtin "__main__.__loader__#opaque":=by
 cases d with
 | non=>cases h; rw [b7.mp i] at r; cases (show u=Value.none from r); exact⟨_,PySem.W.kitx_none,True.intro,λz=>nomatch z⟩
 | bl b=>cases h; rw [aS.mp i] at r; cases (show u=Value.bool b from r); exact⟨_,PySem.W.kitx_bool,True.intro,λz=>nomatch z⟩
 | int b=>cases h; rw [isInt.mp i] at r; obtain⟨tk,q⟩:=(show ∃ t,u=Value.int b t from r); cases q; exact⟨_,PySem.W.kitx_int,True.intro,λz=>nomatch z⟩
 | str b=>cases h; rw [a7.mp i] at r; obtain⟨tk,q⟩:=(show ∃ t,u=Value.str b t from r); cases q; exact⟨_,PySem.W.kitx_str,True.intro,λz=>nomatch z⟩
 | tup ds=>
  cases h;obtain⟨a,vs,rfl,q,_⟩:=bw.mp i;cases (show u=Value.ref a from r)
  obtain⟨its,_,⟨o,h1,h2,_⟩,_⟩:=I.tuple q;exact⟨_,PySem.W.kitx_tuple,⟨o,h1,h2⟩,λz=>nomatch z⟩
 | rl ds=>cases h
 | ty n=>cases h
 | ref a=>
  rw [aR.mp i] at r;cases (show u=Value.ref a from r)
  have h:HE (S a)=some t:=h;cases z:S a with
  | none=>rw [z] at h; cases h
  | some o=>
   rw [z] at h;cases o with
   | lst ds=>
    cases h;obtain⟨vs,e,_⟩:=hS.lst z;obtain⟨its,_,⟨o,n,h1,h2,_⟩,_⟩:=I.list (eH.of e);exact⟨_,PySem.W.kitx_list,⟨o,h1,h2⟩,λz=>nomatch z⟩
   | dic=>
    cases h;obtain⟨vs,e⟩:=hS _ _ z;obtain⟨_,_,vs',_,p⟩:=(show dy X.prog X.w H s.heap a (.dK vs) from I.hok a _ e)
    obtain⟨o,es,ep,h1,h2,_⟩:=p;exact⟨_,PySem.W.kitx_dict,⟨o,h1,h2.1⟩,λz=>nomatch z⟩
   | exc _=>cases h
   | fn _=>cases h
   | tbl _=>cases h
   | gen _=>cases h
theorem rB {K:Fg} (t:Ty):∀ cs:List Ty,PySem.W.kitAny K (.type t.name) (cs.map λc=>.type c.name)=some (cs.any (pZ t))
 | []=>rfl
 | c::r=>by
  have ih:=rB (K:=K) t r;rw [J8,PySem.W.kitAny,uT];cases z:pZ t c with
  | true=>simp [z]
  | false=>simp only [List.any_cons,z,Bool.false_or]; exact ih
theorem uc {K:Fg} {H:Hp}:∀ {cs:List Ty} {xs:List V},IsDs K H (cs.map D.ty) xs->xs=cs.map λc=>V.ty c.name
 | [],_,h=>eF.mp h
 | b::bs,_,h=>by
  obtain⟨v,r,rfl,h1,h2⟩:=bD.mp h;rw [AV.mp h1,uc h2]
  rfl
theorem tM:∀ {cs:List Ty} {us:List KM},aV (cs.map λc=>V.ty c.name) us->us=cs.map λc=>Value.type c.name
 | [],_,.nil=>rfl
 | b::bs,_,.cons r t=>by
  cases r;rw [tM t]
  rfl
def CG:bE:=λds S k=>match ds with
 | [d,.ty c]=>∃ t,FM S d=some t/\k (.bl (pZ t c)) S
 | [d,.tup cs]=>∃ (t:Ty) (ts:List Ty),FM S d=some t/\cs=ts.map D.ty/\k (.bl (ts.any (pZ t))) S
 | _=>False
theorem eP {X:Cx}:bP X (.builtin "isinstance") (nX X.K CG):=by
 intro K2 s σ H xs us Q I rs h;obtain⟨ds,S,k,i,hS,r,n⟩:=h;unfold CG at r
 split at r
 ·rename_i d c
  obtain⟨t,ht,r⟩:=r;obtain⟨x,y,rfl,i1,i2⟩:=kB i;have e2:=AV.mp i2;subst e2;obtain⟨u,w',rfl,r1,r2⟩:=pL rs;cases (show w'=Value.type c.name from r2)
  obtain⟨Hh,kx,p,nb⟩:=yF I hS i1 r1 ht;exact PySem.W.kia_one kx I.kIn p (uT t c) nb λtk=>⟨.bl (pZ t c),H,I.tok tk,rfl,n _ _ _ _ r (Kp.refl H) hS (aS.mpr rfl)⟩
 ·rename_i d cs
  obtain⟨t,ts,ht,rfl,r⟩:=r;obtain⟨x,y,rfl,i1,i2⟩:=kB i;obtain⟨a,vs,rfl,q,j⟩:=bw.mp i2;have ev:=uc j;subst ev;obtain⟨u,w',rfl,r1,r2⟩:=pL rs;cases (show w'=Value.ref a from r2)
  obtain⟨Hh,kx,p,nb⟩:=yF I hS i1 r1 ht;obtain⟨its,rv,⟨o,h1,h2,m,h3⟩,_⟩:=I.tuple q;have ei:=tM rv;subst ei;obtain⟨oc,od,odt,os⟩:=o;cases h2;cases h3;exact PySem.W.kia_tup kx I.kIn p h1 (rB t ts) nb λtk=>⟨.bl (ts.any (pZ t)),H,I.tok tk,rfl,n _ _ _ _ r (Kp.refl H) hS (aS.mpr rfl)⟩
 ·exact r.elim
section
variable {X:Cx} {o e a b c:KP} {go ge ga gb gc:DE} {apos cpos pos:Pos}
def Il (go ge:DE):DE:=λL S k=>go L S λd S1=>match d with
 | .ref a=>(∃ ds,S1 a=some (.lst ds))/\ge L S1 λe S2=>∃ ds,S2 a=some (.lst ds)/\ds.length < sizeLine/\k .non (put S2 a (.lst (ds++[e])))
 | _=>False
theorem gX (ho:EJ X o go) (he:EJ X e ge) (hbase:attributeBase o "append" X.env (eval o X.env)=eval o X.env:=by rfl)
  (hfew:((backTo cpos (starEach [e] X.env)).all (λx=>!x.1) && (backToKw cpos (keywordEach [] X.env)).all (λx=>x.1.isSome) && decide ([e].length+([]:List Keyword).length+(if ([]:List Keyword).isEmpty then 0 else 1) < 30))=true:=by rfl)
  (hline:(apos.endLine == cpos.line)=true:=by rfl) (hs:starEach [e] X.env=(false,eval e X.env)::starEach [] X.env:=by rfl) (hpl:(backTo cpos (starEach [] X.env)).any (·.1)=false:=by rfl):
  EJ X (.Call (.Attribute o "append" apos) [e] [] cpos) (Il go ge):=
 ⟨PE.imp (C5 PySem.F.plainAttrs_list PySem.F.slot_list_append PySem.F.type_list_append g9 ho.h (xu he.h Am hs) hbase hfew hline hs hpl) fun σ H Q ⟨L,S,k,hL,hS,h,n⟩=>up.go hL hS h λd S1 v H1 h1 k1 hL1 hS1 i1=>by
  cases d with
  | ref a=>
   have e1:=aR.mp i1;subst e1;obtain⟨⟨ds1,z1⟩,h1⟩:=h1;obtain⟨xs1,hl1,_⟩:=hS1.lst z1;refine⟨.inl ⟨rfl,xs1,eH.of hl1⟩,up.go hL1 hS1 h1 λd2 S2 v2 H2 h2 k2 hL2 hS2 i2=>?_⟩
   obtain⟨ds,z,hz,w⟩:=h2;obtain⟨xs,hl,j⟩:=hS2.lst z;have k3:Kp H2 (br H2 a (.lst (xs++[v2]))):=Kp.mut hl (λz=>z)
   exact⟨a,xs,v2,rfl,rfl,hl,by rw [<- j.length]; exact hz,n _ _ _ _ w (k1.trans (k2.trans k3)) (hS2.setL hl (j.append (IsDs.cons i2 IsDs.nil))) (b7.mpr rfl)⟩
  | _=>exact(show False from h1).elim⟩
def vt (r r':D2) (ga gb gc:DE):DE:=λL S k=>ga L S λx S1=>gb L S1 λy S2=>r x y S2 λz S3=>match z with
 | .bl t=>if t=true then gc L S3 λw S4=>r' y w S4 k else k (.bl false) S3
 | _=>False
theorem rA {K:Fg} {r r':D2}:∀ σ H Q,up K (vt r r' ga gb gc) σ H Q->vP (fm K r) (fm K r') (up K ga) (up K gb) (up K gc) σ H Q:=fun σ H Q ⟨L,S,k,hL,hS,h,n⟩=>
 up.go hL hS h λd S1 v H1 h1 k1 hL1 hS1 i1=>up.go hL1 hS1 h1 λe S2 u H2 h2 k2 hL2 hS2 i2=>⟨d,e,S2,_,i1.kp k2,i2,hS2,h2,λz S3 w H3 q k3 hS3 i3=>by
  cases z with
  | bl t=>
   refine⟨t,aS.mp i3,?_⟩;have q':if t=true then gc L S3 (λw S4=>r' e w S4 k) else k (.bl false) S3:=q
   cases t with
   | false=>
    rw [if_neg J0] at q' ⊢;exact n _ _ _ _ q' (k1.trans (k2.trans k3)) hS3 (aS.mpr rfl)
   | true=>
    rw [if_pos rfl] at q' ⊢;exact up.go (hL2.kp k3) hS3 q' λf S4 w4 H4 h4 k4 hL4 hS4 i4=>⟨e,f,S4,k,i2.kp (k3.trans k4),i4,hS4,h4,λd' S' v' H' q k5 z1 z2=>n d' S' v' H' q (k1.trans (k2.trans (k3.trans (k4.trans k5)))) z1 z2⟩
  | _=>exact(show False from q).elim⟩
theorem uE {op op':CmpOp} {r r':D2} (ho:cS X (compareOp op) (fm X.K r)) (ho':cS X (compareOp op') (fm X.K r')) (ha:EJ X a ga) (hb:EJ X b gb) (hc:EJ X c gc)
  (hm:lastMarks [op,op'] [b,c]=false:=by with_unfolding_all rfl):EJ X (.Compare a [op,op'] [b,c] pos) (vt r r' ga gb gc):=⟨PE.imp (zX ho ho' ha.h hb.h hc.h hm) rA⟩
theorem xJ {op op':CmpOp} {r r':D2} (ho:cS X (compareOp op) (fm X.K r)) (ho':cS X (compareOp op') (fm X.K r')) (ha:EJ X a ga) (hb:EJ X b gb) (hc:EJ X c gc)
  (hm:lastMarks [op,op'] [b,c]=false:=by with_unfolding_all rfl):TJ X (.Compare a [op,op'] [b,c] pos) (h_ (vt r r' ga gb gc)):=
 ⟨PT.imp (A5 ho ho' ha.h hb.h hc.h hm) fun σ H Q z9=>by obtain⟨L,S,k,hL,hS,h,n⟩:=z9; exact rA σ H _ ⟨L,S,_,hL,hS,h,λd S' v H' q k1 hS1 i1=>by
  cases d with
  | bl t=>exact⟨t,aS.mp i1,n t S' H' q k1 hS1⟩
  | _=>exact(show False from q).elim⟩⟩
end
theorem qD {K:Fg} {ok:DH->Prop} {gg:DG} {b:DS} {M:lZ} {ds:List D} {L:Lo} {S:DH} {N:qi} {σ:L2.St} {H:Hp} {J:It} (hL:Lc K H L σ) (hS:Hs K H S) (h:fZ ok gg b M ds L S) (r:Bb K H M N)
  (hgo:∀ i d S1 H1,ds[i]?=some d->Kp H H1->Hs K H1 S1->ok S1->J.go i H1/\∀ x H',J.yld i H1 x H'->Kp H1 H'/\Hs K H' S1/\bA K H' d x)
  (hst:∀ S1 H1,Kp H H1->Hs K H1 S1->ok S1->J.stop ds.length H1):
  ∃ W:Nat->Nat->L2.St->Hp->Prop,(∃ m,W 0 m σ H)/\∀ i m σ H,W i m σ H->
   (J.stop i H/\N.nx σ H)\/(J.go i H/\∃ N':L2.St->Hp->Prop,(∀ σ' H',N' σ' H'->∃ m',m' < m/\W (i+1) m' σ' H')/\∀ x H',J.yld i H x H'->DW K gg x σ H' fun σ2 H2=>Cr K b {N with nx:=N',ct:=N',bk:=N.nx} σ2 H2):=by
 refine⟨λi m σ1 H1=>m=ds.length - i/\i<=ds.length/\∃ L1 S1,Lc K H1 L1 σ1/\Hs K H1 S1/\Kp H H1/\fZ ok gg b M (ds.drop i) L1 S1,⟨ds.length,by simp,Kz _,L,S,hL,hS,Kp.refl H,h⟩,?_⟩
 rintro i m σ1 H1 ⟨rfl,hi,L1,S1,hL1,hS1,k1,w1⟩
 by_cases hlt:i < ds.length
 ·have e:ds.drop i=ds[i]::ds.drop (i+1):=Kw hlt;rw [e] at w1;obtain⟨o1,w1⟩:=w1;obtain⟨g1,y1⟩:=hgo i ds[i] S1 H1 (by simp [hlt]) k1 hS1 o1
  refine .inr ⟨g1,fun σ' H'=>i+1<=ds.length/\∃ L' S',Lc K H' L' σ'/\Hs K H' S'/\Kp H H'/\fZ ok gg b M (ds.drop (i+1)) L' S',fun σ' H' z9=>by obtain⟨q1,q2⟩:=z9; exact⟨ds.length - (i+1),by omega,rfl,q1,q2⟩,λx H' y=>?_⟩
  obtain⟨k0,hS0,ix⟩:=y1 x H' y;have k10:=k1.trans k0;refine⟨ds[i],L1,S1,_,ix,hL1.kp k0,hS0,w1,λL2 S2 σ2 H2 q k2 hL2 hS2=>⟨L2,S2,_,hL2,hS2,q,?_⟩⟩
  have r2:=r.kp (k10.trans k2);exact⟨λL3 S3 σ3 H3 q3 k3 hL3 hS3=>⟨hlt,L3,S3,hL3,hS3,(k10.trans k2).trans k3,q3⟩,r2.rt,r2.nx,λL3 S3 σ3 H3 q3 k3 hL3 hS3=>⟨hlt,L3,S3,hL3,hS3,(k10.trans k2).trans k3,q3⟩⟩
 ·have e:i=ds.length:=by omega
  subst e;rw [List.drop_length] at w1;obtain⟨o1,w1⟩:=w1;exact .inl ⟨hst S1 H1 k1 hS1 o1,r.nx L1 S1 σ1 H1 w1 k1 hL1 hS1⟩
def xo:D->KY
 | .int _=>true | .bl _=>true | .str _=>true | .non=>true | _=>false
def Bc:D->V
 | .int i=>.int i | .bl b=>.bl b | .str x=>.str x | _=>.non
theorem A8 {K:Fg} {H:Hp} {d:D} {v:V} (f:xo d=true) (i:bA K H d v):v=Bc d/\kA v=true:=by
 cases d with
 | int n=>rw [isInt.mp i]; exact⟨rfl,rfl⟩
 | bl n=>rw [aS.mp i]; exact⟨rfl,rfl⟩
 | str n=>rw [a7.mp i]; exact⟨rfl,rfl⟩
 | non=>rw [b7.mp i]; exact⟨rfl,rfl⟩
 | _=>cases f
theorem wX {K:Fg} {H:Hp}:∀ {ds:List D} {vs:List V},ds.all xo=true->IsDs K H ds vs->vs=ds.map Bc/\vs.all kA=true
 | [],_,_,i=>by rw [eF.mp i]; exact⟨rfl,rfl⟩
 | d::ds,_,f,i=>by
  obtain⟨v,r,rfl,h1,h2⟩:=bD.mp i;rw [List.all_cons,Ko] at f;obtain⟨a1,a2⟩:=A8 f.1 h1;obtain⟨b1,b2⟩:=wX f.2 h2;exact⟨by rw [a1,b1]; rfl,by rw [List.all_cons,a2,b2]; rfl⟩
def Hw (neg:KY):D2:=λd e S k=>∃ q,aI S e=some q/\xo d=true/\q.1.all xo=true/\k (.bl (if neg then !CQ (Bc d) (q.1.map Bc) else CQ (Bc d) (q.1.map Bc))) S
theorem F_ {K:Fg} {neg:KY}:∀ x y H Q,fm K (Hw neg) x y H Q->Jd K neg x y H Q:=λx y H Q ⟨d,e,S,k,i1,i2,hS,h,n⟩=>by
 obtain⟨q,e1,f1,f2,w⟩:=h;obtain⟨a,b,rfl,_,y⟩:=uZ hS i2 e1;obtain⟨xs,w1,w2⟩:=y S H (Kp.refl H) hS (wW e1);obtain⟨a1,a2⟩:=A8 f1 i1;obtain⟨b1,b2⟩:=wX f2 w2;refine⟨a,xs,rfl,(by cases b with | true=>exact .inl w1 | false=>exact .inr w1),a2,b2,n _ _ _ _ w (Kp.refl H) hS (aS.mpr ?_)⟩
 rw [a1,b1]
theorem GL {X:Cx}:cS X (compareOp .In) (fm X.K (Hw false)):=cS.imp xC F_
section
variable {X:Cx} {pos:Pos}
def Gf (g:DE) (tl th:Bf):DE:=λL S k=>g L S λx S1=>tl L S1 λlo S2=>th L S2 λhi S3=>match x with
 | .tup xs=>¬ (HT.cI xs.length 0 lo=0/\HT.cI xs.length xs.length hi=xs.length)/\k (.tup (jt xs lo hi)) S3
 | .rl xs=>∀ p,S3 p=none->k (.ref p) (put S3 p (.lst (jt xs lo hi)))
 | .ref a=>∃ xs,S3 a=some (.lst xs)/\∀ p,S3 p=none->k (.ref p) (put S3 p (.lst (jt xs lo hi)))
 | _=>False
theorem oy {e:KP} {g:DE} {lo hi:KO KP} {tl th:Bf} {p2 pos:Pos} (he:EJ X e g) (hl:OJ X lo tl) (hu:OJ X hi th):EJ X (.Subscript e (.Slice lo hi none p2) pos) (Gf g tl th):=
 ⟨PE.imp (pP (Ai.or yH Bv) he.h hl.h hu.h) fun σ H Q ⟨L,S,k,hL,hS,h,n⟩=>up.go hL hS h λd S1 v H1 h1 k1 hL1 hS1 i1=>by
  refine⟨L,S1,_,hL1,hS1,h1,λlo' S2 H2 h2 k2 hS2=>⟨L,S2,_,hL1.kp k2,hS2,h2,λhi' S3 H3 h3 k3 hS3=>?_⟩⟩
  cases d with
  | tup xs=>
   obtain⟨a,vs,rfl,t,j⟩:=bw.mp i1;have j3:=j.kp (k2.trans k3);refine .inl ⟨a,vs,rfl,(k2.trans k3).tup t,by rw [<- j.length]; exact h3.1,λp hp=>?_⟩
   have k4:Kp H3 (br H3 p (.tup (n_ vs lo' hi'))):=Kp.new hp;refine n _ S3 _ _ h3.2 (k1.trans (k2.trans (k3.trans k4))) (hS3.new hp) (bw.mpr ⟨p,_,rfl,gZ.of bo,?_⟩);unfold jt n_;rw [j.length];exact((j3.drop _).take _).kp k4
  | rl xs=>
   obtain⟨a,vs,rfl,t,j⟩:=tW.mp i1;have j3:=j.kp (k2.trans k3);refine .inr ⟨a,vs,rfl,((k2.trans k3).fro t).sq,λp hp=>?_⟩
   refine n _ _ _ _ (h3 p (hS3.free hp)) (k1.trans (k2.trans (k3.trans (Kp.new hp)))) (hS3.newL hp ?_) (aR.mpr rfl);unfold jt n_;rw [j.length];exact(j3.drop _).take _
  | ref a=>
   have e1:=aR.mp i1;subst e1;obtain⟨xs,z,h3⟩:=h3;obtain⟨vs,hl,j⟩:=hS3.lst z;refine .inr ⟨a,vs,rfl,eH.of hl,λp hp=>?_⟩
   refine n _ _ _ _ (h3 p (hS3.free hp)) (k1.trans (k2.trans (k3.trans (Kp.new hp)))) (hS3.newL hp ?_) (aR.mpr rfl);unfold jt n_;rw [j.length];exact(j.drop _).take _
  | _=>exact(show False from h3).elim⟩
theorem wm {elt tg iter c:KP} {scope:Scope} {cl:List (Str×KN)} {N:List Str} {cap:List (KO Nat)} {gg:DG} {ge gi:DE} {gc:DT} (hc:X.calm=true) (Sc:dJ X scope cl N cap) (hi:EJ X iter gi) (hg:∀ s0 H0 ex C,GJ (eN X scope cl N s0 H0 ex C) tg gg) (hcnd:∀ s0 H0 ex C,TJ (eN X scope cl N s0 H0 ex C) c gc) (he:∀ s0 H0 ex C,EJ (eN X scope cl N s0 H0 ex C) elt ge)
  (hs:∀ x,foldedSetIterable iter X.env x=pure x:=by intro _; rfl):EJ X (.ListComp elt [⟨tg,iter,[c],0⟩] scope pos) (rO cap gi gg (oj gc ge)):=
 ⟨PE.imp (rn hc Sc (sg hi.h) (λs0 H0 ex C=>(hg s0 H0 ex C).h) (λs0 H0 ex C=>(hcnd s0 H0 ex C).h) (λs0 H0 ex C=>(he s0 H0 ex C).h) hs) fun σ H Q ⟨L,S,k,hL,hS,h,n⟩=>up.go hL hS h λd S1 v H1 h1 k1 hL1 hS1 i1=>by
  obtain⟨p,hp,h1⟩:=h1;obtain⟨a,e,q⟩:=rV hS1 i1 hp;refine⟨a,e,?_⟩;have n':∀ d S' v H',k d S'->Kp H1 H'->Hs X.K H' S'->bA X.K H' d v->Q v H':=λd S' v H' q k3=>n d S' v H' q (k1.trans k3)
  rcases q with ⟨q1,q2,q3⟩ | ⟨q1,q2,q3⟩
  ·exact .inl ⟨q1,λD hD=>jP (hL1.cap cap) hS1 hD (h1 D (hS1.free hD)) n' q2 q3⟩
  ·exact .inr ⟨q1,λD hD=>jP (hL1.cap cap) hS1 hD (h1 D (hS1.free hD)) n' q2 q3⟩⟩
theorem fo {ok:DH->Prop} {g:DG} {b:DS} {M:lZ} (Iv:List D->Lo->DH->Prop) (hok:∀ r L S,Iv r L S->ok S)
  (hs:∀ d r L S N,Iv (d::r) L S->(∀ L' S',Iv r L' S'->N L' S')->g d L S λL1 S1=>b {M with nx:=N,ct:=N,bk:=M.nx} L1 S1) (hd:∀ L S,Iv [] L S->M.nx L S):∀ r L S,Iv r L S->fZ ok g b M r L S
 | [],L,S,i=>⟨hok [] L S i,hd L S i⟩
 | d::r,L,S,i=>⟨hok _ L S i,hs d r L S _ i λL' S' i'=>fo Iv hok hs hd r L' S' i'⟩
end
end DL
namespace L2
open PySem PySem.Spec PyProof.Rows
section
variable {X:Cx} {elt tg iter c:KP} {scope:Scope} {cl:List (Str×KN)} {N:List Str} {cap:List (KO Nat)} {pos:Pos} {wi:TI} {g:TG} {te:TE} {tc:TT}
theorem o7 (Sc:dJ X scope cl N cap) {K2:List (KN×K1)} {σ σ3:St} {H2 H3:Hp} {s2 s4:KL} {fp:List KN} {h1':KT} {C:KN} (I2:aE X K2 σ H2 s2) (f2:∀ b∈fp,nj X K2 H2 b) {H1:Hp}
  (un3:Un (tu X.stack) fp H2 H1 s2.heap h1') (I4:aE (eN X scope cl N {s2 with heap:=h1'} H1 fp C) [] σ3 H3 s4) (hC:s2.heap.objs.size<=C) {x:Str} {pos':Pos} {i:Nat} {D:qi} {a:KN} (pg:PG X (.Name x pos') (nY i)) (qn:D.nx (σ.set i (some (.ref a))) H3):
  wpAny (model X.prog X.w) X.A (assign (.Name x pos') X.env (.ref a)) (λ_ s''=>∃ m,s''.heap.Ns C m/\∀ h',Heap.SameBut C s''.heap h'->∃ σ' H',aE X K2 σ' H' {s'' with heap:=h'}/\D.nx σ' H') X.xe s4:=by
 have J:aE X K2 σ H3 s4:=oK Sc I2 f2 un3 I4 (h':=s4.heap) hC ⟨rfl,λ_ _=>rfl⟩
 obtain⟨m,⟨o,es,ep,ho,hd,hr⟩,_⟩:=I4.loc;have ltC:∀ b u,s2.heap.get? b=some u->b≠C:=λb u e=>J3 (J6 (JW e) hC)
 have hL:C≠X.env.locals:=λz=>by
  have:=I2.lt;rw [<- z] at this;exact absurd (J6 this hC) (KA _)
 have hn:H3 C=none:=I4.free;have J':aE X ((C,o)::K2) σ H3 s4:=⟨J.ok,J.os,J.bare,J.base,J.loc,J.cell,J.free,J.freeC,λp hp=>by
  rcases List.mem_append.mp hp with hp | hp
  ·exact J.pin p (List.mem_append_left _ hp)
  ·rcases J2.mp hp with rfl | hp
   ·exact⟨ho,hn,hL,I2.nofs hC,λv z=>by rw [hd] at z; cases z⟩
   ·exact J.pin p (J7 _ hp),J.hok,J.len⟩
 refine bc (pg _ s4 σ H3 (.ref a) (.ref a) (fun σ' H'=>σ'=σ.set i (some (.ref a))/\H'=H3) J' rfl ⟨rfl,rfl⟩) λ_ s5 h5=>?_
 obtain⟨_,_,I5,rfl,rfl⟩:=h5;have h6:=I5.pin (C,o) (J7 _ J4);refine⟨m,⟨o,es,ep,h6.1,hd,hr⟩,λh' sb=>⟨_,_,?_,qn⟩⟩
 have I6:aE X K2 (σ.set i (some (.ref a))) _ s5:=⟨I5.ok,I5.os,I5.bare,I5.base,I5.loc,I5.cell,I5.free,I5.freeC,λp hp=>I5.pin p (by
  rcases List.mem_append.mp hp with hp | hp
  ·exact List.mem_append_left _ hp
  ·exact J7 _ (J5 _ hp)),I5.hok,I5.len⟩
 exact I6.turned (t':=s5.toks) (it:=C) (λb u hb e=>(sb.2 b hb).trans e) hn hL (.inr (Kn I2.sz hC)) (λy c e=>by
  obtain⟨v,u,q,_⟩:=I2.cell y c e;exact ltC c u q) (λp hp=>ltC p.1 p.2 (I2.pin p hp).1)
theorem zJ {x:Str} {i:Nat} {pos' spos:Pos} (hN:X.N.Nodup) (hi':X.N[i]?=some x) (hx':X.env.scope.names.lookup x=some .local) (hsw:swapsWith (.ListComp elt [⟨tg,iter,[],0⟩] scope pos) (some (.Name x pos')) spos.line X.env=pure true) (hc:X.calm=true) (Sc:dJ X scope cl N cap) (hi:PI X tg iter wi) (hg:∀ s0 H0 ex C,PG (eN X scope cl N s0 H0 ex C) tg g) (he:∀ s0 H0 ex C,PE (eN X scope cl N s0 H0 ex C) elt te)
  (hs:∀ x,foldedSetIterable iter X.env x=pure x:=by intro _; rfl):PS X (.Assign [.Name x pos'] (.ListComp elt [⟨tg,iter,[],0⟩] scope pos) spos) (yO (C8 cap wi g te) (nY i)):=by
 intro K2 s σ H D I h;have pg:PG X (.Name x pos') (nY i):=sr hN hi' (.inl hx') (.inr hx');rw [exec_Assign_Name_used _ _ _ _ hsw];refine gt (wpAny_standAt (gt ?_))
 show wpAny _ _ (evalThenUse _ X.env _) _ _ _
 unfold evalThenUse;have Q:=λv H1=>D.nx (σ.set i (some v)) H1
 refine gt (Km (Q:=λ_ s'=>∃ σ' H',aE X K2 σ' H' s'/\D.nx σ' H') ?_ (λv s' q=>JU (JU q)) λ_ _ q=>q)
 have hcell:∀ y∈scope.names,y.2≠.cell:=λy hy=>by simpa using KC.mp Sc.nocell y hy
 have hnames:∀ y∈scope.names,y.2=.local->scope.names.lookup y.1=some .local:=λy hy e=>by
  have:=KC.mp Sc.names y hy;rw [e] at this
  simpa using this
 refine wpAny_comprehension_free (use:=some (assign (.Name x pos') X.env)) rfl hs Sc.clos Sc.kind hnames (bc (hi K2 s σ H _ I h) λv s1 h1=>bc h1 λitv s2 h2=>?_)
 obtain⟨it,fp,tn,J,H2,e,I2,T,st2,f2,hW⟩:=h2;subst e;refine Kh (wpAny_newFunctionEnv hcell (by intro y hy; simp at hy) (λh1 hns hsb=>?_) Sc.kind)
 obtain⟨W,⟨m0,w0⟩,turn⟩:=hW s2.heap.objs.size I2.fresh;dsimp only at hns hsb ⊢
 generalize hD:s2.heap.push {cls:=.type "list",dict:=none,data:=.seq ([]:List KM).toArray}=h1' at hns hsb ⊢
 obtain⟨I3,un3⟩:=mv (tk:=s2.toks+([]:List (Str×KM)).length) Sc I2 f2 (λb hb=>let ⟨o,e,_⟩:=T.obj 0 _ st2 b hb; ⟨o,e⟩) hD hns hsb
 have hC:s2.heap.objs.size<=h1'.objs.size:=by rw [<- hD,KB]; exact Nat.le_succ _
 have k1:∀ b o,s2.heap.get? b=some o->h1.get? b=some o:=λb o e=>by
  have e1:h1'.get? b=some o:=by rw [<- hD]; exact pp _ e
  exact(hsb.2 b (J3 (JW e1))).trans (pp _ e1)
 have st3:tn 0 h1:=T.keep 0 _ _ st2 λb _ o e=>k1 b o e
 have fr3:∀ b∈fp,(br H2 s2.heap.objs.size (.lst [])) b=none:=λb hb=>by
  obtain⟨o,e,_⟩:=T.obj 0 _ st2 b hb;rw [aN (J3 (JW e))];exact(f2 b hb).1
 have loop:∀ s3:KL,s3={s2 with heap:=h1,toks:=s2.toks+([]:List (Str×KM)).length}->
   codeAny (model X.prog X.w) X.A (.compLoop (.ListComp elt [⟨tg,iter,[],0⟩] scope pos) 0 (.ref it) (.ref s2.heap.objs.size) (compEnvC scope cl h1'.objs.size X.env))
    (compPost (model X.prog X.w) X.A X.xe (some (assign (.Name x pos') X.env)) (λ_ s'=>∃ σ' H',aE X K2 σ' H' s'/\D.nx σ' H') (.ref s2.heap.objs.size) h1'.objs.size) s3:=by
  rintro s3 rfl;refine lP (λn s'=>∃ i σ' H',aE (eN X scope cl N {s2 with heap:=h1'} (br H2 s2.heap.objs.size (.lst [])) fp h1'.objs.size) [] σ' H' s'/\tn i s'.heap/\(∀ b∈fp,H' b=none)/\W i n σ' H') ?_ m0 ⟨0,_,_,I3,st3,fr3,w0⟩
  rintro n s3 ⟨i,σ3,H3,I3,st3,fr3,w3⟩;rcases turn i n σ3 H3 w3 with ⟨stop,qn⟩ | ⟨go,Nn,hN,step⟩
  ·refine bc (T.done (eN X scope cl N {s2 with heap:=h1'} (br H2 s2.heap.objs.size (.lst [])) fp h1'.objs.size) rfl rfl rfl hc i [] s3 σ3 H3 p_ I3 (da I3 fr3) st3 stop) λr s4 z9=>?_
   obtain⟨hr,I4⟩:=z9;subst hr;exact o7 Sc I2 f2 un3 I4 hC pg qn
  ·refine bc (T.item (eN X scope cl N {s2 with heap:=h1'} (br H2 s2.heap.objs.size (.lst [])) fp h1'.objs.size) rfl rfl rfl hc i [] s3 σ3 H3 p_ I3 (da I3 fr3) st3 go) λr s4 z9=>?_
   obtain⟨u,hr,h4⟩:=z9;subst hr;refine bc h4 λ_ s5 z9=>?_
   obtain⟨x,H5,I5,r5,y5,st5,fr5⟩:=z9;have I5':=I5.pinned (da I5 fr5) (T.obj _ _ st5);refine bc (hg _ _ _ _ _ s5 σ3 H5 x u _ I5' r5 (step x H5 y5)) λ_ s6 z9=>?_
   obtain⟨σ6,H6,I6,q6⟩:=z9;refine bc (he _ _ _ _ _ s6 σ6 H6 _ I6 q6) λuv s7 z9=>?_
   obtain⟨v,H7,I7,r7,ys,hy,hl,q7⟩:=z9;refine bc (g9 (X:=eN X scope cl N {s2 with heap:=h1'} (br H2 s2.heap.objs.size (.lst [])) fp h1'.objs.size) _ s7 σ6 H7 (.ref s2.heap.objs.size) [v] (.ref s2.heap.objs.size) [uv] (λ_ H8=>Nn σ6 H8) I7 rfl (.cons r7 .nil) ⟨_,ys,v,rfl,rfl,hy,hl,q7⟩) λ_ s8 z9=>?_
   obtain⟨_,H8,I8,_,n8⟩:=z9;obtain⟨m',hm,w8⟩:=hN σ6 H8 n8;refine⟨m',hm,i+1,σ6,H8,I8.unpinned,T.keep _ _ _ st5 λb hb o e=>(I8.pin (b,o) (J7 _ (J7 _ (bX hb e)))).1,λb hb=>?_,w8⟩
   obtain⟨o,e,d⟩:=T.obj _ _ st5 b hb;exact(I8.pin (b,o) (J7 _ (J7 _ (bX hb e)))).2.1
 exact codeAny_compStart_list (loop _ rfl) (T.self _ 0 _ _ _ st3 (loop _ rfl))
theorem vE {x:Str} {i:Nat} {pos' spos:Pos} (hN:X.N.Nodup) (hi':X.N[i]?=some x) (hx':X.env.scope.names.lookup x=some .local) (hsw:swapsWith (.ListComp elt [⟨tg,iter,[c],0⟩] scope pos) (some (.Name x pos')) spos.line X.env=pure true) (hc:X.calm=true) (Sc:dJ X scope cl N cap) (hi:PI X tg iter wi) (hg:∀ s0 H0 ex C,PG (eN X scope cl N s0 H0 ex C) tg g) (hcnd:∀ s0 H0 ex C,PT (eN X scope cl N s0 H0 ex C) c tc) (he:∀ s0 H0 ex C,PE (eN X scope cl N s0 H0 ex C) elt te)
  (hs:∀ x,foldedSetIterable iter X.env x=pure x:=by intro _; rfl):PS X (.Assign [.Name x pos'] (.ListComp elt [⟨tg,iter,[c],0⟩] scope pos) spos) (yO (rR cap wi g tc te) (nY i)):=by
 intro K2 s σ H D I h;have pg:PG X (.Name x pos') (nY i):=sr hN hi' (.inl hx') (.inr hx');rw [exec_Assign_Name_used _ _ _ _ hsw];refine gt (wpAny_standAt (gt ?_))
 show wpAny _ _ (evalThenUse _ X.env _) _ _ _
 unfold evalThenUse;have Q:=λv H1=>D.nx (σ.set i (some v)) H1
 refine gt (Km (Q:=λ_ s'=>∃ σ' H',aE X K2 σ' H' s'/\D.nx σ' H') ?_ (λv s' q=>JU (JU q)) λ_ _ q=>q)
 have hcell:∀ y∈scope.names,y.2≠.cell:=λy hy=>by simpa using KC.mp Sc.nocell y hy
 have hnames:∀ y∈scope.names,y.2=.local->scope.names.lookup y.1=some .local:=λy hy e=>by
  have:=KC.mp Sc.names y hy;rw [e] at this
  simpa using this
 refine wpAny_comprehension_free (use:=some (assign (.Name x pos') X.env)) rfl hs Sc.clos Sc.kind hnames (bc (hi K2 s σ H _ I h) λv s1 h1=>bc h1 λitv s2 h2=>?_)
 obtain⟨it,fp,tn,J,H2,e,I2,T,st2,f2,hW⟩:=h2;subst e;refine Kh (wpAny_newFunctionEnv hcell (by intro y hy; simp at hy) (λh1 hns hsb=>?_) Sc.kind)
 obtain⟨W,⟨m0,w0⟩,turn⟩:=hW s2.heap.objs.size I2.fresh;dsimp only at hns hsb ⊢
 generalize hD:s2.heap.push {cls:=.type "list",dict:=none,data:=.seq ([]:List KM).toArray}=h1' at hns hsb ⊢
 obtain⟨I3,un3⟩:=mv (tk:=s2.toks+([]:List (Str×KM)).length) Sc I2 f2 (λb hb=>let ⟨o,e,_⟩:=T.obj 0 _ st2 b hb; ⟨o,e⟩) hD hns hsb
 have hC:s2.heap.objs.size<=h1'.objs.size:=by rw [<- hD,KB]; exact Nat.le_succ _
 have k1:∀ b o,s2.heap.get? b=some o->h1.get? b=some o:=λb o e=>by
  have e1:h1'.get? b=some o:=by rw [<- hD]; exact pp _ e
  exact(hsb.2 b (J3 (JW e1))).trans (pp _ e1)
 have st3:tn 0 h1:=T.keep 0 _ _ st2 λb _ o e=>k1 b o e
 have fr3:∀ b∈fp,(br H2 s2.heap.objs.size (.lst [])) b=none:=λb hb=>by
  obtain⟨o,e,_⟩:=T.obj 0 _ st2 b hb;rw [aN (J3 (JW e))];exact(f2 b hb).1
 have loop:∀ s3:KL,s3={s2 with heap:=h1,toks:=s2.toks+([]:List (Str×KM)).length}->
   codeAny (model X.prog X.w) X.A (.compLoop (.ListComp elt [⟨tg,iter,[c],0⟩] scope pos) 0 (.ref it) (.ref s2.heap.objs.size) (compEnvC scope cl h1'.objs.size X.env))
    (compPost (model X.prog X.w) X.A X.xe (some (assign (.Name x pos') X.env)) (λ_ s'=>∃ σ' H',aE X K2 σ' H' s'/\D.nx σ' H') (.ref s2.heap.objs.size) h1'.objs.size) s3:=by
  rintro s3 rfl;refine lT (λn s'=>∃ i σ' H',aE (eN X scope cl N {s2 with heap:=h1'} (br H2 s2.heap.objs.size (.lst [])) fp h1'.objs.size) [] σ' H' s'/\tn i s'.heap/\(∀ b∈fp,H' b=none)/\W i n σ' H') ?_ m0 ⟨0,_,_,I3,st3,fr3,w0⟩
  rintro n s3 ⟨i,σ3,H3,I3,st3,fr3,w3⟩;rcases turn i n σ3 H3 w3 with ⟨stop,qn⟩ | ⟨go,Nn,hN,step⟩
  ·refine bc (T.done (eN X scope cl N {s2 with heap:=h1'} (br H2 s2.heap.objs.size (.lst [])) fp h1'.objs.size) rfl rfl rfl hc i [] s3 σ3 H3 p_ I3 (da I3 fr3) st3 stop) λr s4 z9=>?_
   obtain⟨hr,I4⟩:=z9;subst hr;exact o7 Sc I2 f2 un3 I4 hC pg qn
  ·refine bc (T.item (eN X scope cl N {s2 with heap:=h1'} (br H2 s2.heap.objs.size (.lst [])) fp h1'.objs.size) rfl rfl rfl hc i [] s3 σ3 H3 p_ I3 (da I3 fr3) st3 go) λr s4 z9=>?_
   obtain⟨u,hr,h4⟩:=z9;subst hr;refine bc h4 λ_ s5 z9=>?_
   obtain⟨x,H5,I5,r5,y5,st5,fr5⟩:=z9;have I5':=I5.pinned (da I5 fr5) (T.obj _ _ st5);refine bc (hg _ _ _ _ _ s5 σ3 H5 x u _ I5' r5 (step x H5 y5)) λ_ s6 z9=>?_
   obtain⟨σ6,H6,I6,q6⟩:=z9;have again:∀ {s8:KL} {H8:Hp},aE (eN X scope cl N {s2 with heap:=h1'} (br H2 s2.heap.objs.size (.lst [])) fp h1'.objs.size) ([]++mF fp s5.heap) σ6 H8 s8->Nn σ6 H8->
     ∃ m,m < n/\∃ i σ' H',aE (eN X scope cl N {s2 with heap:=h1'} (br H2 s2.heap.objs.size (.lst [])) fp h1'.objs.size) [] σ' H' s8/\tn i s8.heap/\(∀ b∈fp,H' b=none)/\W i m σ' H':=λ{s8 H8} I8 n8=>by
    obtain⟨m',hm,w8⟩:=hN σ6 H8 n8;refine⟨m',hm,i+1,σ6,H8,I8.unpinned,T.keep _ _ _ st5 λb hb o e=>(I8.pin (b,o) (J7 _ (J7 _ (bX hb e)))).1,λb hb=>?_,w8⟩
    obtain⟨o,e,d⟩:=T.obj _ _ st5 b hb;exact(I8.pin (b,o) (J7 _ (J7 _ (bX hb e)))).2.1
   refine bc (hcnd _ _ _ _ _ s6 σ6 H6 _ I6 q6) λb s6' z9=>?_
   obtain⟨H6',I6',q6'⟩:=z9;cases b with
   | true=>
    rw [if_pos rfl] at q6' ⊢;refine bc (he _ _ _ _ _ s6' σ6 H6' _ I6' q6') λuv s7 z9=>?_
    obtain⟨v,H7,I7,r7,ys,hy,hl,q7⟩:=z9;refine bc (g9 (X:=eN X scope cl N {s2 with heap:=h1'} (br H2 s2.heap.objs.size (.lst [])) fp h1'.objs.size) _ s7 σ6 H7 (.ref s2.heap.objs.size) [v] (.ref s2.heap.objs.size) [uv] (λ_ H8=>Nn σ6 H8) I7 rfl (.cons r7 .nil) ⟨_,ys,v,rfl,rfl,hy,hl,q7⟩) λ_ s8 z9=>?_
    obtain⟨_,H8,I8,_,n8⟩:=z9;exact again I8 n8
   | false=>
    rw [if_neg J0] at q6' ⊢;exact again I6' q6'
 exact codeAny_compStart_list (loop _ rfl) (T.self _ 0 _ _ _ st3 (loop _ rfl))
end
end L2
namespace DL
open PySem PySem.Spec PyProof.Rows L2
theorem Gr {K:Fg} {ge:DE} {tc:TE} {i:Nat} (f:∀ σ H Q,up K ge σ H Q->tc σ H Q):∀ N σ H,Cr K (uW i ge) N σ H->yO tc (nY i) N σ H:=λN σ H ⟨L,S,M,hL,hS,h,r⟩=>
 f σ H _ (up.go hL hS h λd S1 v H1 h1 k1 hL1 hS1 i1=>r.nx _ S1 _ H1 h1 k1 (hL1.set i1 i) hS1)
section
variable {X:Cx} {pos pos' p:Pos} {elt tg a b c:KP} {scope:Scope} {cl:List (Str×KN)} {N:List Str} {cap:List (KO Nat)} {gg:DG} {ge gi:DE} {gc:DT} {ta:DA}
theorem qg {xv:Str} {iv:Nat} {pv sv:Pos} (hNv:X.N.Nodup) (hc:X.calm=true) (Sc:dJ X scope cl N cap) (hgl:Gl X "range") (hm:X.mg "range"=none) (ha:AJ X [a] ta) (hg:∀ s0 H0 ex C,GJ (eN X scope cl N s0 H0 ex C) tg gg) (hcn:∀ s0 H0 ex C,TJ (eN X scope cl N s0 H0 ex C) c gc) (he:∀ s0 H0 ex C,EJ (eN X scope cl N s0 H0 ex C) elt ge)
  (hs1:starEach [a] X.env=[(false,eval a X.env)]:=by exact cQ rfl) (hs:∀ x,foldedSetIterable (.Call (.Name "range" p) [a] [] pos') X.env x=pure x:=by intro _; rfl) (hiv:X.N[iv]?=some xv:=by rfl) (hxv:X.env.scope.names.lookup xv=some .local:=by rfl) (hswv:swapsWith (.ListComp elt [⟨tg,.Call (.Name "range" p) [a] [] pos',[c],0⟩] scope pos) (some (.Name xv pv)) sv.line X.env=pure true:=by rfl):SJ X (.Assign [.Name xv pv] (.ListComp elt [⟨tg,.Call (.Name "range" p) [a] [] pos',[c],0⟩] scope pos) sv) (uW iv (D6 cap ta gg (oj gc ge))):=
 ⟨PS.imp (vE hNv hiv hxv hswv hc Sc (qS hgl hm ha.h hs1) (λs0 H0 ex C=>(hg s0 H0 ex C).h) (λs0 H0 ex C=>(hcn s0 H0 ex C).h) (λs0 H0 ex C=>(he s0 H0 ex C).h) hs) (Gr (fun σ H Q ⟨L,S,k,hL,hS,h,n⟩=>qT.go hL hS h λds S1 vs H1 h1 k1 hL1 hS1 i1=>by
  split at h1
  ·obtain⟨v,rfl,j⟩:=cf i1;have e:=isInt.mp j;subst e;obtain⟨⟨h2,h3⟩,h1⟩:=h1;refine⟨_,rfl,h2,h3,λD hD=>jP (hL1.cap cap) hS1 hD (h1 D (hS1.free hD)) (λd S' v H' q k3=>n d S' v H' q (k1.trans k3)) A9 λS2 H2 k2 hS2 _=>?_⟩
   rw [JZ,List.length_range];exact JX _
  ·exact h1.elim))⟩
theorem ua {xv:Str} {iv:Nat} {pv sv:Pos} (hNv:X.N.Nodup) {elt tg iter:KP} {scope:Scope} {cl:List (Str×KN)} {N:List Str} {cap:List (KO Nat)} {gg:DG} {ge gi:DE} (hc:X.calm=true) (Sc:dJ X scope cl N cap) (hi:EJ X iter gi) (hg:∀ s0 H0 ex C,GJ (eN X scope cl N s0 H0 ex C) tg gg) (he:∀ s0 H0 ex C,EJ (eN X scope cl N s0 H0 ex C) elt ge)
  (hs:∀ x,foldedSetIterable iter X.env x=pure x:=by intro _; rfl) (hiv:X.N[iv]?=some xv:=by rfl) (hxv:X.env.scope.names.lookup xv=some .local:=by rfl) (hswv:swapsWith (.ListComp elt [⟨tg,iter,[],0⟩] scope pos) (some (.Name xv pv)) sv.line X.env=pure true:=by rfl):SJ X (.Assign [.Name xv pv] (.ListComp elt [⟨tg,iter,[],0⟩] scope pos) sv) (uW iv (rO cap gi gg (jx ge))):=
 ⟨PS.imp (zJ hNv hiv hxv hswv hc Sc (sg hi.h) (λs0 H0 ex C=>(hg s0 H0 ex C).h) (λs0 H0 ex C=>(he s0 H0 ex C).h) hs) (Gr (fun σ H Q ⟨L,S,k,hL,hS,h,n⟩=>up.go hL hS h λd S1 v H1 h1 k1 hL1 hS1 i1=>by
  obtain⟨p,hp,h1⟩:=h1;obtain⟨a,e,q⟩:=rV hS1 i1 hp;refine⟨a,e,?_⟩;have n':∀ d S' v H',k d S'->Kp H1 H'->Hs X.K H' S'->bA X.K H' d v->Q v H':=λd S' v H' q k3=>n d S' v H' q (k1.trans k3)
  rcases q with ⟨q1,q2,q3⟩ | ⟨q1,q2,q3⟩
  ·exact .inl ⟨q1,λD hD=>hX (hL1.cap cap) hS1 hD (h1 D (hS1.free hD)) n' q2 q3⟩
  ·exact .inr ⟨q1,λD hD=>hX (hL1.cap cap) hS1 hD (h1 D (hS1.free hD)) n' q2 q3⟩))⟩
end
abbrev Er:=KN×KO Int
instance:Coe KN Er:=⟨λa=>(a,none)⟩
section
variable {X:Cx} {K2:List (KN×K1)} {σ:L2.St} {H:Hp} {s:KL}
theorem v6 (I:aE X K2 σ H s) {S:DH} {a c:KN} {ds es:List D} {b:KY} (hS:Hs X.K H S) (h1:S a=some (.lst ds)) (h2:S c=some (.lst es)) (hl:ds.length=es.length) (A:KR) (hu:A.units+8 < cLine) (h:gF (g7 7) ds es=some b):
  SeqAt.RcAt A s (.ref a) (.ref c) b/\SeqAt.RcNeAt A s (.ref a) (.ref c) (!b):=by
 obtain⟨xs,q1,j1⟩:=hS.lst h1;obtain⟨ys,q2,j2⟩:=hS.lst h2;obtain⟨us,r1,p1,_⟩:=I.list (eH.of q1);obtain⟨ws,r2,p2,_⟩:=I.list (eH.of q2);have l1:=j1.length;have l2:=j2.length;have l3:=r1.length;have l4:=r2.length;have hsz:us.toArray.size=ws.toArray.size:=by simp only [J1]; omega
 have he:∀ j (h1:j < us.toArray.size) (h2:j < ws.toArray.size),SeqAt.EqAt A.in1 s us.toArray[j] ws.toArray[j] (hU (g7 7) ds es j):=λj h1 h2=>by
  simp only [J1] at h1 h2
  obtain⟨d,e,x,y,q1,q2,d1,d2,rx,ry⟩:=lC j1 j2 r1 r2 h1 h2;have:=(kO I 7 A.in1 d e x y us[j] ws[j] _ (by show A.units+1+7 < cLine; omega) (oF h q1 q2) d1 d2 rx ry).1
  simpa using this
 have e:=lH h;rw [hl,Nat.min_self] at e;have e:(List.range us.toArray.size).all (hU (g7 7) ds es)=b:=by
  simp only [J1];rw [<- l3,<- l1,hl]
  simpa using e
 refine⟨?_,?_⟩
 ·have z:=SeqAt.RcAt.lists p1.isList p2.isList hsz (by omega) he
  rw [e] at z;exact z
 ·have z:=SeqAt.RcNeAt.lists p1.isList p2.isList hsz (by omega) he
  rw [e] at z;exact z
end
def Eb:D2:=λd e S k=>match d,e with
 | .ref a,.ref c=>∃ xs ys b,S a=some (.lst xs)/\S c=some (.lst ys)/\xs.length=ys.length/\gF (g7 7) xs ys=some b/\k (.bl b) S
 | d,e=>∃ b,g7 8 d e=some b/\k (.bl b) S
def Fs:D2:=λd e S k=>match d,e with
 | .ref a,.ref c=>∃ xs ys b,S a=some (.lst xs)/\S c=some (.lst ys)/\xs.length=ys.length/\gF (g7 7) xs ys=some b/\k (.bl (!b)) S
 | d,e=>∃ b,g7 8 d e=some b/\k (.bl (!b)) S
theorem qB {X:Cx} {n:Nat} (hr:cv n X.A):cS X (compareOp .Eq) (fm X.K Eb):=by
 intro K2 s σ H x y v u Q I rx ry h;obtain⟨d,e,S,k,i1,i2,hS,r,m⟩:=h;have hu:=hr.units;unfold Eb at r
 split at r
 ·obtain⟨xs,ys,b,h1,h2,h3,h4,w⟩:=r;have e1:=aR.mp i1;have e2:=aR.mp i2;subst e1 e2;cases rx;cases ry;exact(v6 I hS h1 h2 h3 X.A (by omega) h4).1 X.prog X.w X.xe _ ⟨.bl b,H,I,rfl,eJ m hS w (aS.mpr rfl)⟩
 ·obtain⟨b,h1,w⟩:=r;exact(kO I 8 X.A d e x y v u b (by omega) h1 i1 i2 rx ry).2 X.prog X.w X.xe _ ⟨.bl b,H,I,rfl,eJ m hS w (aS.mpr rfl)⟩
theorem uM {X:Cx} {n:Nat} (hr:cv n X.A):cS X (compareOp .NotEq) (fm X.K Fs):=by
 intro K2 s σ H x y v u Q I rx ry h;obtain⟨d,e,S,k,i1,i2,hS,r,m⟩:=h;have hu:=hr.units;unfold Fs at r
 split at r
 ·obtain⟨xs,ys,b,h1,h2,h3,h4,w⟩:=r;have e1:=aR.mp i1;have e2:=aR.mp i2;subst e1 e2;cases rx;cases ry;exact(v6 I hS h1 h2 h3 X.A (by omega) h4).2 X.prog X.w X.xe _ ⟨.bl (!b),H,I,rfl,eJ m hS w (aS.mpr rfl)⟩
 ·obtain⟨b,h1,w⟩:=r;exact y_ I 8 X.A d e x y v u b (by omega) h1 i1 i2 rx ry X.prog X.w X.xe _ ⟨.bl (!b),H,I,rfl,eJ m hS w (aS.mpr rfl)⟩
end DL
namespace L2
open PySem PySem.Spec PyProof.Rows
theorem ER {α:Type} (its:List α):(List.range its.length).filterMap (λk=>its[its.length - 1 - k]?)=its.reverse:=by
 apply List.ext_getElem?;intro i;have e:(List.range its.length).filterMap (λk=>its[its.length - 1 - k]?)=(List.range its.length).pmap (λk (h:k < its.length)=>its[its.length - 1 - k]) (λk hk=>List.mem_range.mp hk):=by
  generalize hp:(λk hk=>List.mem_range.mp hk:∀ k∈List.range its.length,k < its.length)=p
  clear hp;generalize List.range its.length=l at p ⊢
  induction l with
  | nil=>rfl
  | cons a l ih=>
   have ha:=p a J4;rw [List.filterMap_cons,Kg (by omega),List.pmap]
   simp only;rw [ih λk hk=>p k (J5 _ hk)]
 rw [e]
 by_cases h:i < its.length
 ·rw [Kg (by simpa using h),Kg (by simpa using h)]
  simp [List.getElem_reverse]
 ·rw [List.getElem?_eq_none (by simpa using h),List.getElem?_eq_none (by simpa using h)]
theorem xH (n:Nat):sliceRange ((n:Int) - 1) (-1) (-1)=(List.range n).map λk=>n - 1 - k:=by
 unfold sliceRange;have e:((if (-1:Int) > 0 then(if (n:Int) - 1 < -1 then(-1 - ((n:Int) - 1)+-1 - 1) / -1 else 0) else(if (n:Int) - 1 > -1 then((n:Int) - 1 - -1 - -1 - 1) / (- -1) else 0)):Int).toNat=n:=by
  rw [if_neg (by decide),Int.neg_neg,Int.ediv_one]
  split
  ·omega
  ·omega
 simp only [e];refine List.map_congr_left λk hk=>?_
 have:=List.mem_range.mp hk;omega
theorem AH (its:List KM):slicePick its.toArray none none (some (-1))=its.reverse.toArray:=by
 unfold slicePick;have h1:(sliceBounds none none (some (-1)) its.toArray.size)=((its.length:Int) - 1,-1,-1):=by
  simp [sliceBounds]
 rw [h1];simp only;rw [xH,List.filterMap_map]
 congr 1
 have:=ER its
 simpa [Function.comp_def] using this
theorem aV.rev {xs:List V} {us:List KM} (r:aV xs us):aV xs.reverse us.reverse:=by
 induction r with
 | nil=>exact .nil
 | cons h t ih=>
  rw [List.reverse_cons,List.reverse_cons];exact ih.append (.cons h .nil)
section
variable {X:Cx} {e st:KP} {te ts:TE} {p2 pos:Pos}
def IE (K:PySem.W.Frag) (te ts:TE):TE:=fun σ H Q=>te σ H λx H1=>ts σ H1 λy H2=>y=.int (-1)/\∃ a xs,x=.ref a/\eH K H2 a xs/\∀ p,H2 p=none->Q (.ref p) (br H2 p (.lst xs.reverse))
theorem E4 (he:PE X e te) (hs:PE X st ts):PE X (.Subscript e (.Slice none none (some st) p2) pos) (IE X.K te ts):=by
 intro K2 s σ H Q I h;refine Subscript_ (bc (he K2 s σ H _ I h) λv s1 z9=>?_)
 obtain⟨x,H1,I1,r1,q1⟩:=z9;refine wpAny_Slice ?_;rw [evalPart_none];refine JU (JU ?_);rw [evalPart_some];refine bc (hs K2 s1 σ H1 _ I1 q1) λvs s3 z9=>?_
 obtain⟨y,H3,I3,r3,q3⟩:=z9;obtain⟨rfl,a,xs,rfl,hx,q⟩:=q3;obtain⟨t,rfl⟩:=r3;cases r1;have I4:aE X K2 σ H3 {s3 with heap:=s3.heap.push {cls:=.type "slice",data:=.fields #[.none,.none,.int (-1) t]}}:=I3.kept (t':=s3.toks) λb ob q=>pp _ q
 obtain⟨its,r,ht,hz⟩:=I4.list hx;have hlen:=r.length
 show wpAny (model X.prog X.w) X.A (subscriptTail e (.Slice none none (some st) p2) (.ref a) (.ref s3.heap.objs.size)) (EP X K2 σ Q) X.xe {s3 with heap:=s3.heap.push {cls:=.type "slice",data:=.fields #[.none,.none,.int (-1) t]}}
 refine tail_any (ops:=[.ref a,.ref s3.heap.objs.size]) ht.isList.typeIs slot_list_getitem.lookup ?_ (by with_unfolding_all rfl)
 refine wpAny_getItem_list_slice ht.isList (Heap.IsSliceOf.new ..) .none .none (.int (-1) t) (by decide) ?_ (by rw [J1]; omega)
 rw [AH];refine⟨.ref _,br H3 _ (.lst xs.reverse),I4.laid (t':=s3.toks) (o:=.lst xs.reverse) (λb ob q=>pp _ q) (JX _) ?_,rfl,q _ (I4.hok.fresh (JX _))⟩
 exact⟨by rw [List.length_reverse]; exact hz,_,0,r.rev,JV _ rfl⟩
end
end L2
namespace DL
open PySem PySem.Spec PyProof.Rows L2
theorem IsDs.rev {K:Fg} {H:Hp}:∀ {ds:List D} {vs:List V},IsDs K H ds vs->IsDs K H ds.reverse vs.reverse
 | [],_,h=>by rw [eF.mp h]; exact IsDs.nil
 | c::ds,_,h=>by
  obtain⟨u,r,rfl,h1,h2⟩:=bD.mp h;rw [List.reverse_cons,List.reverse_cons];exact(IsDs.rev h2).append (IsDs.cons h1 IsDs.nil)
def IN (ge gs:DE):DE:=λL S k=>ge L S λd S1=>gs L S1 λy S2=>y=.int (-1)/\match d with
 | .ref a=>∃ xs,S2 a=some (.lst xs)/\∀ p,S2 p=none->k (.ref p) (put S2 p (.lst xs.reverse))
 | _=>False
theorem Dt {X:Cx} {e st:KP} {ge gs:DE} {p2 pos:Pos} (he:EJ X e ge) (hs:EJ X st gs):EJ X (.Subscript e (.Slice none none (some st) p2) pos) (IN ge gs):=
 ⟨PE.imp (E4 he.h hs.h) fun σ H Q ⟨L,S,k,hL,hS,h,n⟩=>up.go hL hS h λd S1 v H1 h1 k1 hL1 hS1 i1=>up.go hL1 hS1 h1 λy S2 v2 H2 h2 k2 hL2 hS2 i2=>by
  obtain⟨rfl,h2⟩:=h2;refine⟨isInt.mp i2,?_⟩;cases d with
  | ref a=>
   have e1:=aR.mp i1;subst e1;obtain⟨xs,z,h2⟩:=h2;obtain⟨vs,hl,j⟩:=hS2.lst z;exact⟨a,vs,rfl,eH.of hl,λp hp=>n _ _ _ _ (h2 p (hS2.free hp)) (k1.trans (k2.trans (Kp.new hp))) (hS2.newL hp j.rev) (aR.mpr rfl)⟩
  | _=>exact h2.elim⟩
def vh:bE:=λds S k=>match ds with
 | [.tup xs]=>k (.tup xs) S
 | [.ref a]=>∃ xs,S a=some (.lst xs)/\k (.tup xs) S
 | _=>False
theorem kd {X:Cx}:bP X (.type "tuple") (nX X.K vh):=by
 intro K2 s σ H xs us Q I rs h;obtain⟨ds,S,k,i,hS,r,n⟩:=h;unfold vh at r
 split at r
 ·obtain⟨x,rfl,i1⟩:=cf i;obtain⟨a,vs,rfl,t,j⟩:=bw.mp i1;exact kr K2 s σ H _ us Q I rs ⟨a,vs,rfl,.inr ⟨t,n _ S _ H r (Kp.refl H) hS i1⟩⟩
 ·obtain⟨x,rfl,i1⟩:=cf i;have e1:=aR.mp i1;subst e1;obtain⟨xs,z,r⟩:=r;obtain⟨vs,hl,j⟩:=hS.lst z;refine kr K2 s σ H _ us Q I rs ⟨_,vs,rfl,.inl ⟨eH.of hl,λp hp=>?_⟩⟩
  have kp:Kp H (br H p (.tup vs)):=Kp.new hp;exact n _ S _ _ r kp (hS.new hp) (bw.mpr ⟨p,vs,rfl,gZ.of bo,j.kp kp⟩)
 ·exact r.elim
end DL
namespace L2
open PySem PySem.Spec PyProof.Rows
theorem rH:bootBuiltins "enumerate"=some (.type "enumerate"):=by decide +kernel
theorem sC {P:KQ} {w:KS} {A:KR} (b:KY) (it l:KN) (xs:KW KM) (hh:A.handled=none) (hne:it≠l):Draws P w A it [it,l] xs.size (λi x=>xs[i]?=some x) (λi h=>Hk b it l i h/\sqB b l xs h) where
 live:=λi h st=>by obtain⟨o,e,_⟩:=(dL (P:=P) (w:=w) b it l).obj _ _ st.1; exact⟨o,e⟩
 frame:=λi h h' st q=>⟨(dL (P:=P) (w:=w) b it l).at_ _ _ _ st.1 λo e=>q it (by simp) o e,(dL (P:=P) (w:=w) b it l).sqAt _ _ _ st.2 λo e=>q l (by simp) o e⟩
 item:=λi s Q E hi st hQ=>(dL (P:=P) (w:=w) b it l).item A i s xs xs[i] Q E st.1 st.2 (by simp [hi]) λh' a1 a2=>hQ _ h' s.toks (by simp [hi]) ⟨a1,(dL (P:=P) (w:=w) b it l).sqAt _ _ _ st.2 λo e=>a2.extBut _ _ (Ne.symm hne) e⟩ a2
 done:=λs Q E st hE=>(dL (P:=P) (w:=w) b it l).fin _ _ _ _ _ _ hh st.1 st.2 (by simp) hE
def Gw (K:PySem.W.Frag) (b:KY) (a:KN):It:=
 ⟨λi H => ∃ xs x, wu b K H a xs ∧ xs[i]? = some x,
  λi H v H'=>∃ T x,v=.ref T/\H T=none/\H'=br H T (.tup [.int (i:Nat),x])/\∀ xs,wu b K H a xs->xs[i]?=some x,
  λi H=>∃ xs,wu b K H a xs/\xs.length=i⟩
def Jm (b:KY) (e it a:KN) (i:Nat) (h:KT):Prop:=(∃ old,IsEnum h e it (i:Nat) old)/\Hk b it a i h
theorem xN {P:KQ} {w:KS} {K:PySem.W.Frag} {es:List KP} {k:Nat} {pos:Pos} (b:KY) {e it a:KN} (h1:e≠it) (h2:e≠a) (h3:it≠a):
  qo P w K (.Tuple es k pos) (Gw K b a) [e,it] e (Jm b e it a) where
 mem:=by simp
 obj:=λi h st c hc=>by
  obtain⟨⟨old,he⟩,hi⟩:=st;have hc':c=e\/c=it:=by simpa using hc
  rcases hc' with rfl | rfl
  ·exact⟨_,he,λv q=>by cases q⟩
  ·exact(dL (P:=P) (w:=w) b c a).obj _ _ hi
 keep:=λi h h' st q=>by
  obtain⟨⟨old,he⟩,hi⟩:=st;exact⟨⟨old,q e (by simp) _ he⟩,(dL (P:=P) (w:=w) b it a).at_ _ _ _ hi λo x=>q it (by simp) o x⟩
 item:=by
  intro X hP hw hK hc i K2 s σ H E I hf st hg;subst hP hw hK;obtain⟨xs,x,q1,hx⟩:=hg;obtain⟨its,rv,p⟩:=I.sqB q1;obtain⟨u,hu,ru⟩:=rv.get hx;obtain⟨⟨old,he⟩,hi⟩:=st;have hn:H s.heap.objs.size=none:=I.hok.fresh (JX _);have helt:e < s.heap.objs.size:=JW he;have hilt:it < s.heap.objs.size:=by obtain⟨o,z,_⟩:=(dL (P:=X.prog) (w:=X.w) b it a).obj _ _ hi; exact JW z
  have hlt:i < its.toArray.size:=by
   have:=Kl.mp hu;obtain⟨z,_⟩:=this
   simpa using z
  refine wpAny_pyNext_enum_itemD (sC b it a its.toArray (show X.A.in1.handled=none from I.ok.hd hc) h3) he ⟨hi,p⟩ hlt h1 (by simp [h1,h2]) λx' h' tk hx' ho hst hT hsz hk=>?_
  have ex:x'=u:=by
   have z:its[i]?=some x':=by simpa using hx'
   rw [hu] at z;exact(Kj z).symm
  subst ex;have I1:aE X K2 σ (br H s.heap.objs.size (.tup [.int (i:Nat),x])) {s with heap:=h',toks:=tk+1}:=
   I.turnedNew (t':=tk+1) [e,it] (λc o hb y=>hk c o (λq=>hb (by simp [q])) (λq=>hb (by simp [q])) y) hf (JX _) ⟨Kb rfl,[.int (i:Nat) tk,x'],.cons ⟨tk,rfl⟩ (.cons ru .nil),⟨_,hT,rfl,_,rfl⟩⟩
  refine⟨_,rfl,wpAny_letOwnedTupleGo_enum (s:={s with heap:=h',toks:=tk+1}) ho λh2' g1 g2=>?_⟩
  refine⟨.ref s.heap.objs.size,br H s.heap.objs.size (.tup [.int (i:Nat),x]),?_,rfl,⟨_,x,rfl,hn,rfl,λxs' e1=>by rw [I.sqB_inj e1 q1]; exact hx⟩,⟨⟨x',by simpa using g1⟩,?_⟩,λc hb=>?_⟩
  ·refine I1.turnedL (t':=tk+1) [e] (λc o hb y=>g2.extBut _ _ (λq=>hb (by simp [q])) y) λc hb=>?_
   have z:c=e:=by simpa using hb
   subst z;obtain⟨f0,f1,f2,f3,f4,f5⟩:=hf c (by simp)
   exact⟨by rw [aN (J3 helt)]; exact f0,f1,f2,f3,f4,f5⟩
  ·exact(dL (P:=X.prog) (w:=X.w) b it a).at_ _ _ _ hst.1 λo z=>g2.extBut _ _ (Ne.symm h1) z
  ·have hc':c=e\/c=it:=by simpa using hb
   rw [aN (by rcases hc' with rfl | rfl; exact J3 helt; exact J3 hilt)]
   exact(hf c hb).1
 done:=by
  intro X hP hw hK hc i K2 s σ H E I hf st hg;subst hP hw hK;obtain⟨xs,q1,hx⟩:=hg;obtain⟨its,rv,p⟩:=I.sqB q1;obtain⟨⟨old,he⟩,hi⟩:=st;have l1:=rv.length;have ez:i=its.toArray.size:=by simp; omega
  refine wpAny_pyNext_enum_endD (sC b it a its.toArray (show X.A.in1.handled=none from I.ok.hd hc) h3) he ⟨by rw [<- ez]; exact hi,p⟩ λh' kk=>⟨rfl,I.turnedL (t':=s.toks) [it] (λc o hb y=>kk c o (λq=>hb (by simp [q])) y) λc hb=>hf c ?_⟩
  have z:c=it:=by simpa using hb
  subst z;simp
 self:=λ_ _ _ _ _ st h=>by
  obtain⟨⟨old,he⟩,_⟩:=st;exact wpAny_pyIter_enum he h
theorem ux (l:KN) (xs:KW KM) (n:Nat) (dct:KO KN) (sl:KW (KO KM)):
  Meets (Builtin.«enumerate.__new__» ⟨[.type "enumerate",.ref l],[]⟩) (λ_ R s=>s.heap.get? l=some ⟨.type "tuple",dct,.seq xs n,sl⟩/\
   R (.ok (.ret (.ref (Bh s.heap "tuple_iterator" l).objs.size))) {s with heap:=(Bh s.heap "tuple_iterator" l).push {cls:=.type "enumerate",data:=.fields #[.none,.bool false,.ref s.heap.objs.size,rawInt 0,.none,.none]}}):=
 .of_wp λprog w A R s h=>by
  obtain⟨hp,g,d,tk,os⟩:=s;obtain⟨hl,h⟩:=h;have hsub:=sub_enumerate;have hT:Heap.IsTuple (Shared.heap ⟨hp,g,d,tk,os⟩) l xs:=⟨_,hl,rfl,n,rfl⟩
  wp_walk using AutoSeq1.wpAny_loadPart' hl
  refine wpAny_stack_any λ_=>JU ?_
  split
  ·rename_i c _ _ _ _ _
   cases (c == Value.type "enumerate") <;> (wp_walk using AutoSeq1.wpAny_loadPart' hl,wpAny_pyIter_tuple hT; exact⟨_,rfl,h⟩)
  ·wp_walk using AutoSeq1.wpAny_loadPart' hl,wpAny_pyIter_tuple hT
   exact⟨_,rfl,h⟩
section
variable {prog:KQ} {w:KS} {A:KR} {E:KM->KL->Prop} {s:KL}
theorem vy {l:KN} {xs:KW KM} {Q:KM->KL->Prop} (hL:s.heap.IsTuple l xs)
  (h:∀ h',IsEnum h' (s.heap.objs.size+1) s.heap.objs.size 0 .none->h'.get? s.heap.objs.size=some {cls:=.type "tuple_iterator",data:=.fields #[.ref l,.int 0 0]}->(∀ c o,s.heap.get? c=some o->h'.get? c=some o)->Q (.ref (s.heap.objs.size+1)) {s with heap:=h'}):
  wpAny (model prog w) A (call (.type "enumerate") [.ref l]) Q E s:=by
 obtain⟨⟨c,dct,dt,sl⟩,hl,hc,n,hd⟩:=hL;obtain rfl:c=.type "tuple":=hc
 obtain rfl:dt=.seq xs n:=hd;refine callType_new F.called_enumerate (by decide) (F.typeCall_enumerate_1 _) (F.newCall_enumerate_1 _) (λobj=>F.args_object_init_2 obj _) F.entry_enumerate_new (ux l xs n dct sl) ⟨hl,?_⟩
 have z1:(Bh s.heap "tuple_iterator" l).objs.size=s.heap.objs.size+1:=KB ..
 have g5:=JV (Bh s.heap "tuple_iterator" l) (o:={cls:=.type "enumerate",data:=.fields #[.none,.bool false,.ref s.heap.objs.size,rawInt 0,.none,.none]}) rfl
 show _/\_
 rw [z1] at g5 ⊢;exact⟨⟨_,g5,rfl⟩,h _ g5 (pp _ (JV _ rfl)) λc o x=>pp _ (pp _ x)⟩
theorem vk {b:KY} {l:KN} {xs:KW KM} {Q:KM->KL->Prop} (hL:sqB b l xs s.heap)
  (h:∀ h',IsEnum h' (s.heap.objs.size+1) s.heap.objs.size 0 .none->Hk b s.heap.objs.size l 0 h'->(∀ c o,s.heap.get? c=some o->h'.get? c=some o)->Q (.ref (s.heap.objs.size+1)) {s with heap:=h'}):
  wpAny (model prog w) A (call (.type "enumerate") [.ref l]) Q E s:=by
 cases b with
 | true=>exact call_enumerate_list hL λh' a1 a2 _ a4=>h h' a1 a2 a4
 | false=>exact vy hL λh' a1 a2 a4=>h h' a1 ⟨_,a2,rfl,rfl⟩ a4
end
def F' (K:PySem.W.Frag) (ta:TA):TI:=fun σ H R=>ta σ H λvs H1=>∃ a b,vs=[.ref a]/\(∃ xs,wu b K H1 a xs)/\R (Gw K b a) H1
theorem BR {X:Cx} {a:KP} {ta:TA} {p pos tp:Pos} {es:List KP} {k:Nat} (hg:Gl X "enumerate") (hm:X.mg "enumerate"=none) (ha:PA X [a] ta) (hs:starEach [a] X.env=[(false,eval a X.env)]:=by rfl):
  PI X (.Tuple es k tp) (.Call (.Name "enumerate" p) [a] [] pos) (F' X.K ta):=by
 intro K2 s σ H R I h;refine Call_ (iI I hg hm rH (PyProof.Rows.callWith_type1 (bc (ha pos K2 s σ H _ I h) λus s1 ⟨vs,H1,I1,r1,q1⟩=>?_) (by rw [hs]; rfl) rfl))
 obtain⟨a1,b,rfl,⟨xs,e1⟩,q⟩:=q1;cases r1 with
 | cons r rr=>
  cases rr;cases r;obtain⟨its,rv,p1⟩:=I1.sqB e1;have al:=vH p1;refine vk p1 λh' c1 c2 c3=>?_
  refine wpAny_pyIter_enum (s:={s1 with heap:=h'}) c1 ?_
  have fr:∀ j,H1 (s1.heap.objs.size+j)=none:=λj=>I1.hok.fresh (Nat.le_add_right _ _)
  refine⟨_,[s1.heap.objs.size+1,s1.heap.objs.size],_,_,H1,rfl,I1.kept (t':=s1.toks) c3,xN b (Nat.succ_ne_self _) (Nat.ne_of_gt (Nat.lt_succ_of_lt al)) (Nat.ne_of_gt al),⟨⟨_,c1⟩,c2⟩,λc hb=>?_,q⟩
  have hb':c=s1.heap.objs.size+1\/c=s1.heap.objs.size:=by simpa using hb
  rcases hb' with rfl | rfl
  ·exact I1.fpOk (Nat.le_add_right _ _) (fr 1)
  ·exact I1.fpOk (JX _) (fr 0)
end L2
namespace DL
open PySem PySem.Spec PyProof.Rows L2
def jH:Nat->List D->List D
 | _,[]=>[]
 | j,d::r=>.tup [.int (j:Nat),d]::jH (j+1) r
theorem mH:∀ {ds:List D} {j i:Nat} {c:D},(jH j ds)[i]?=some c->∃ d,ds[i]?=some d/\c=.tup [.int ((j+i:Nat):Int),d]
 | [],_,_,_,h=>by cases h
 | d::r,j,0,c,h=>⟨d,rfl,(Kj h).symm⟩
 | d::r,j,i+1,c,h=>by
  obtain⟨e,h1,h2⟩:=mH (ds:=r) (j:=j+1) (i:=i) h;exact⟨e,h1,by rw [h2,show j+1+i=j+(i+1) by omega]⟩
theorem nG:∀ {ds:List D} {j:Nat},(jH j ds).length=ds.length
 | [],_=>rfl
 | _::r,j=>congrArg (·+1) (nG (ds:=r) (j:=j+1))
theorem BX {K:Fg} {H1:Hp} {q:List D×KO KN} {a:KN} {b:KY} (y:∀ S2 H2,Kp H1 H2->Hs K H2 S2->eK q S2->∃ xs,wu b K H2 a xs/\IsDs K H2 q.1 xs):
  (∀ i d S2 H2,(jH 0 q.1)[i]?=some d->Kp H1 H2->Hs K H2 S2->eK q S2->(Gw K b a).go i H2/\∀ x H',(Gw K b a).yld i H2 x H'->Kp H2 H'/\Hs K H' S2/\bA K H' d x)/\
  ∀ S2 H2,Kp H1 H2->Hs K H2 S2->eK q S2->(Gw K b a).stop (jH 0 q.1).length H2:=by
 refine⟨λi c S2 H2 e k2 hS2 o2=>?_,λS2 H2 k2 hS2 o2=>?_⟩
 ·obtain⟨xs,w1,u1⟩:=y S2 H2 k2 hS2 o2;obtain⟨d,f1,rfl⟩:=mH e;obtain⟨v1,g1,r1⟩:=u1.get f1;refine⟨⟨xs,v1,w1,g1⟩,?_⟩;rintro x H' ⟨T,x',rfl,hT,rfl,al⟩;have l1:=al xs w1;rw [g1] at l1;cases l1;have kn:Kp H2 (br H2 T (.tup [.int (i:Nat),v1])):=Kp.new hT;exact⟨kn,hS2.new hT,bw.mpr ⟨T,[.int (i:Nat),v1],rfl,gZ.of bo,IsDs.cons (isInt.mpr (by rw [Nat.zero_add])) (IsDs.cons (r1.kp kn) IsDs.nil)⟩⟩
 ·obtain⟨xs,w1,u1⟩:=y S2 H2 k2 hS2 o2;refine⟨xs,w1,?_⟩;rw [<- u1.length,nG]
def EQ (ta:DA) (g:DG) (b:DS):DS:=λM L S=>ta L S λds S1=>match ds with
 | [d]=>∃ q,aI S1 d=some q/\fZ (eK q) g b M (jH 0 q.1) L S1
 | _=>False
section
variable {X:Cx} {a:KP} {es:List KP} {kt:Nat} {tp p pos pos':Pos} {gg:DG} {ta:DA} {g:DS} {body:List KU}
theorem vF (hp:PassesOwn (model X.prog X.w) X.A X.env X.xe) (hc:X.calm=true) (hgl:Gl X "enumerate") (hm:X.mg "enumerate"=none) (ha:AJ X [a] ta) (hg:GJ X (.Tuple es kt tp) gg) (hb:x9 X body g)
  (hs1:starEach [a] X.env=[(false,eval a X.env)]:=by rfl) (hs:∀ x,foldedSetIterable (.Call (.Name "enumerate" p) [a] [] pos') X.env x=pure x:=by intro _; rfl):
  SJ X (.For (.Tuple es kt tp) (.Call (.Name "enumerate" p) [a] [] pos') body [] pos) (EQ ta gg g):=
 ⟨PS.imp (pG hp hc (BR hgl hm ha.h hs1) hg.h hb.h hs) λN σ H ⟨L,S,M,hL,hS,h,r⟩=>qT.go hL hS h λds S1 vs H1 h1 k1 hL1 hS1 i1=>by
  split at h1
  ·rename_i d1
   obtain⟨v1,rfl,j1⟩:=cf i1;obtain⟨q1,e1,h1⟩:=h1;obtain⟨a1,b1,rfl,x1,y1⟩:=uZ hS1 j1 e1;obtain⟨z1,z2⟩:=BX y1;exact⟨a1,b1,rfl,x1,qD hL1 hS1 h1 (r.kp k1) z1 z2⟩
  ·exact h1.elim⟩
end
theorem Ah {X:Cx} {K2:List (KN×K1)} {σ:L2.St} {H:Hp} {s:KL} (I:aE X K2 σ H s) {S:DH} {a c:KN} {ds es:List D} (hS:Hs X.K H S) (h1:S a=some (.lst ds)) (h2:S c=some (.lst es)) (hl:ds.length≠es.length) (A:KR) (hu:A.units+8 < cLine):
  SeqAt.RcNeAt A s (.ref a) (.ref c) true:=by
 obtain⟨xs,q1,j1⟩:=hS.lst h1;obtain⟨ys,q2,j2⟩:=hS.lst h2;obtain⟨us,r1,p1,_⟩:=I.list (eH.of q1);obtain⟨ws,r2,p2,_⟩:=I.list (eH.of q2);have l1:=j1.length;have l2:=j2.length;have l3:=r1.length;have l4:=r2.length;exact SeqAt.RcNeAt.lists_lengths p1.isList p2.isList (by simp only [J1,bne_iff_ne]; omega) (by omega)
def B7:D2:=λd e S k=>match d,e with
 | .ref a,.ref c=>∃ xs ys b,S a=some (.lst xs)/\S c=some (.lst ys)/\((xs.length=ys.length/\gF (g7 7) xs ys=some b)\/(xs.length≠ys.length/\b=false))/\k (.bl (!b)) S
 | d,e=>∃ b,g7 8 d e=some b/\k (.bl (!b)) S
theorem CJ {X:Cx} {n:Nat} (hr:cv n X.A):cS X (compareOp .NotEq) (fm X.K B7):=by
 intro K2 s σ H x y v u Q I rx ry h;obtain⟨d,e,S,k,i1,i2,hS,r,m⟩:=h;have hu:=hr.units;unfold B7 at r
 split at r
 ·obtain⟨xs,ys,b,h1,h2,h3,w⟩:=r;have e1:=aR.mp i1;have e2:=aR.mp i2;subst e1 e2;cases rx;cases ry;rcases h3 with ⟨h3,h4⟩ | ⟨h3,rfl⟩
  ·exact(v6 I hS h1 h2 h3 X.A (by omega) h4).2 X.prog X.w X.xe _ ⟨.bl (!b),H,I,rfl,eJ m hS w (aS.mpr rfl)⟩
  ·exact(Ah I hS h1 h2 h3 X.A (by omega)) X.prog X.w X.xe _ ⟨.bl true,H,I,rfl,eJ m hS w (aS.mpr rfl)⟩
 ·obtain⟨b,h1,w⟩:=r;exact y_ I 8 X.A d e x y v u b (by omega) h1 i1 i2 rx ry X.prog X.w X.xe _ ⟨.bl (!b),H,I,rfl,eJ m hS w (aS.mpr rfl)⟩
def EI:D2:=λd e S k=>match d,e with
 | .tup ds,.int i=>∃ c,L2.atI ds i=some c/\k c S
 | .rl ds,.int i=>∃ c,L2.atI ds i=some c/\k c S
 | .ref a,.int i=>∃ ds c,S a=some (.lst ds)/\L2.atI ds i=some c/\k c S
 | _,_=>False
theorem cy {X:Cx}:wz X (fm X.K EI):=wz.imp Gh (fm.imp λd e S k h=>by
 unfold EI at h
 split at h
 ·obtain⟨c,h1,h2⟩:=h;simp only [tv,h1];exact h2
 ·obtain⟨c,h1,h2⟩:=h;simp only [tv,h1];exact h2
 ·obtain⟨ds,c,h0,h1,h2⟩:=h;simp only [tv,h0,h1];exact h2
 ·exact h.elim)
def IH:D2:=λd e S k=>match e with
 | .str y=>(match d with
  | .str x=>k (.bl (x == y)) S
  | .int _=>k (.bl false) S
  | .bl _=>k (.bl false) S
  | .non=>k (.bl false) S
  | .tup _=>k (.bl false) S
  | .ref a=>(∃ ds,S a=some (.lst ds))/\k (.bl false) S
  | _=>False)
 | _=>False
theorem tX {X:Cx} {n:Nat} (hr:cv n X.A):cS X (compareOp .Eq) (fm X.K IH):=by
 intro K2 s σ H x y v u Q I rx ry h;obtain⟨d,e,S,k,i1,i2,hS,r,m⟩:=h;have hu:=hr.units;cases e with
 | str z=>
  rw [a7.mp i2] at ry;obtain⟨t',rfl⟩:=ry;cases d with
  | str w=>rw [a7.mp i1] at rx; obtain⟨t,rfl⟩:=rx; exact SeqAt.RcAt.str_str _ _ _ _ X.prog X.w X.xe _ ⟨.bl _,H,I,rfl,eJ m hS r (aS.mpr rfl)⟩
  | int w=>rw [isInt.mp i1] at rx; obtain⟨t,rfl⟩:=rx; exact SeqAt.RcAt.int_str _ _ _ _ X.prog X.w X.xe _ ⟨.bl _,H,I,rfl,eJ m hS r (aS.mpr rfl)⟩
  | bl w=>rw [aS.mp i1] at rx; cases rx; exact SeqAt.RcAt.bool_str _ _ _ X.prog X.w X.xe _ ⟨.bl _,H,I,rfl,eJ m hS r (aS.mpr rfl)⟩
  | non=>rw [b7.mp i1] at rx; cases rx; exact SeqAt.RcAt.none_str _ _ X.prog X.w X.xe _ ⟨.bl _,H,I,rfl,eJ m hS r (aS.mpr rfl)⟩
  | tup xs=>
   obtain⟨p,vs,rfl,t1,j1⟩:=bw.mp i1;cases rx;obtain⟨us,r1,p1,_⟩:=I.tuple t1;exact SeqAt.RcAt.tuple_str (items:=us.toArray) _ _ (show s.heap.IsTuple p us.toArray from p1) (by omega) X.prog X.w X.xe _ ⟨.bl _,H,I,rfl,eJ m hS r (aS.mpr rfl)⟩
  | ref a=>
   have e1:=aR.mp i1;subst e1;cases rx;obtain⟨⟨ds,h1⟩,r⟩:=r;obtain⟨xs,q1,j1⟩:=hS.lst h1;obtain⟨us,r1,p1,_⟩:=I.list (eH.of q1);exact SeqAt.RcAt.list_str (items:=us.toArray) _ _ p1.isList (by omega) X.prog X.w X.xe _ ⟨.bl _,H,I,rfl,eJ m hS r (aS.mpr rfl)⟩
  | _=>exact r.elim
 | _=>exact(show False from r).elim
end DL
namespace HT
open PySem PyProof.Rows
section
variable {prog:KQ} {w:KS} {A:KR} {E:KM->KL->Prop} {s:KL}
theorem kq {t sl:KN} {items:KW KM} {vl vu:KM} {lo hi:KO Int} {Q:KM->KL->Prop} (ht:IsTup s.heap t items) (hs:s.heap.IsSliceOf sl vl vu .none) (pl:IsPart vl lo) (pu:IsPart vu hi)
  (hw:cI items.size 0 lo=0/\cI items.size items.size hi=items.size) (h:Q (.ref t) s):wpAny (model prog w) A (getItem (.ref t) (.ref sl)) Q E s:=by
 obtain⟨os,hos,hcs,hds⟩:=id hs;have hTs:s.TypeIs (.ref sl) "slice":=⟨os,hos,hcs⟩
 unfold getItem
 try with_reducible refine Kf ?_
 first | refine gt (JU ?_) | skip
 refine gt (wpAny_sequenceKey ht.typeIs (by decide) ?_)
 refine gt (KD (name:=Str.ofString "__getitem__") ht.typeIs PyProof.Rows.slot_tuple_getitem
  (Ku PyProof.Rows.slot_tuple_getitem ht.typeIs entry_tuple_getitem ?_ (args_tuple_getitem _ _)))
 show wpAny _ _ (Builtin.Tuple.tupleItemsOf (.ref t) >>= _) _ _ s
 refine gt (tupleItemsOf_ ht (gt (wpAny_typeOf hTs ?_)));rw [if_pos (by decide)]
 refine gt (ie hs pl pu ?_);rw [hw.1,hw.2]
 show wpAny _ _ (if ((((0:Nat):Int) == 0) && (1:Int) == 1 && (items.size - 0) == items.size)=true then _ else _) _ _ s
 rw [if_pos (by simp)]
 refine gt (m:=Builtin.Tuple.tupleIsExact (.ref t)) (gt (wpAny_typeOf ht.typeIs (JU ?_)));rw [if_pos (by decide)]
 first
  | exact JU ⟨_,rfl,JU h⟩
  | exact gt (JU (JU ⟨_,rfl,JU h⟩))
  | (wp_walk; exact⟨_,rfl,JU h⟩)
end
end HT
namespace L2
open PySem PySem.Spec PyProof.Rows
section
variable {X:Cx}
theorem Bl:Ai X (λx lo hi H Q=>∃ a xs,x=.ref a/\gZ X.K H a xs/\(HT.cI xs.length 0 lo=0/\HT.cI xs.length xs.length hi=xs.length)/\Q (.ref a) H):=by
 intro K2 s σ H x v vl vu lo hi sl Q I rx hs pl pu h;obtain⟨a,xs,rfl,hx,hw,q⟩:=h;cases rx;obtain⟨its,r,ht,hz⟩:=I.tuple hx;have hlen:its.toArray.size=xs.length:=by rw [J1]; exact r.length.symm
 refine⟨"tuple",_,PyProof.Rows.slot_tuple_getitem.lookup,ht.typeIs,?_⟩
 exact HT.kq ht hs pl pu (by rw [hlen]; exact hw) ⟨.ref a,H,I,rfl,q⟩
end
end L2
namespace DL
open PySem PySem.Spec PyProof.Rows L2
def GZ (g:DE) (tl th:Bf):DE:=λL S k=>g L S λx S1=>tl L S1 λlo S2=>th L S2 λhi S3=>match x with
 | .tup xs=>k (.tup (jt xs lo hi)) S3
 | _=>False
theorem yd {xs:List D} {lo hi:KO Int} (h:HT.cI xs.length 0 lo=0/\HT.cI xs.length xs.length hi=xs.length):jt xs lo hi=xs:=by
 unfold jt;rw [h.1,h.2];simp
theorem wC {X:Cx} {e:KP} {g:DE} {lo hi:KO KP} {tl th:Bf} {p2 pos:Pos} (he:EJ X e g) (hl:OJ X lo tl) (hu:OJ X hi th):EJ X (.Subscript e (.Slice lo hi none p2) pos) (GZ g tl th):=
 ⟨PE.imp (pP (Ai.or yH Bl) he.h hl.h hu.h) fun σ H Q ⟨L,S,k,hL,hS,h,n⟩=>up.go hL hS h λd S1 v H1 h1 k1 hL1 hS1 i1=>by
  refine⟨L,S1,_,hL1,hS1,h1,λlo' S2 H2 h2 k2 hS2=>⟨L,S2,_,hL1.kp k2,hS2,h2,λhi' S3 H3 h3 k3 hS3=>?_⟩⟩
  cases d with
  | tup xs=>
   obtain⟨a,vs,rfl,t,j⟩:=bw.mp i1;have j3:=j.kp (k2.trans k3)
   by_cases hw:HT.cI xs.length 0 lo'=0/\HT.cI xs.length xs.length hi'=xs.length
   ·refine .inr ⟨a,vs,rfl,(k2.trans k3).tup t,by rw [<- j.length]; exact hw,?_⟩
    have h3:k (.tup (jt xs lo' hi')) S3:=h3;rw [yd hw] at h3;exact n _ S3 _ _ h3 (k1.trans (k2.trans k3)) hS3 (bw.mpr ⟨a,vs,rfl,(k2.trans k3).tup t,j3⟩)
   ·refine .inl ⟨a,vs,rfl,(k2.trans k3).tup t,by rw [<- j.length]; exact hw,λp hp=>?_⟩
    have k4:Kp H3 (br H3 p (.tup (n_ vs lo' hi'))):=Kp.new hp;refine n _ S3 _ _ h3 (k1.trans (k2.trans (k3.trans k4))) (hS3.new hp) (bw.mpr ⟨p,_,rfl,gZ.of bo,?_⟩);unfold jt n_;rw [j.length];exact((j3.drop _).take _).kp k4
  | _=>exact(show False from h3).elim⟩
def vd (mg:Str->KO KM) (x:Str) (n:Int):Prop:=∃ t,mg x=some (.int n t)
theorem pO {X:Cx} {x:Str} {n:Int} {pos:Pos} (g:vd X.mg x n) (hg:Gl X x) (hd:(x == ("__debug__":Str))=false:=by decide):EJ X (.Name x pos) (dC (.int n)):=by
 obtain⟨t,hm⟩:=g;exact⟨CL (oE (v:=.int n) hg hm ⟨t,rfl⟩ hd) λH=>isInt.mpr rfl⟩
end DL
set_option linter.all false
namespace DT
abbrev Mx:=Nat->Nat->Rat
def sm:Nat->(Nat->Rat)->Rat
 | 0,_=>0
 | n+1,f=>sm n f+f n
def cl (M:Mx) (a:Nat) (u:Nat->Rat):Mx:=λr c=>if c=a then u r else M r c
end DT
namespace DL
open PySem PySem.Spec PyProof.Rows L2
def Ir (K:Fg) (q:KN) (ns:List Int):Prop:=∃ o its n,K.lookup q=some o/\o.cls=.type "tuple"/\o.data=.seq its n/\its.size<=sizeLine/\aV (ns.map V.int) its.toList
end DL
namespace PySem
open Sem (wp)
open Builtin DL
section
variable {prog:KQ} {w:KS}
def vo (c:KZ) (d:KN) (i n ep:Nat):K1:={cls:=.type c,dict:=none,data:=.fields #[.ref d,.int i 0,.int n 0,.int ep 0],slots:=#[]}
theorem Jl (it d:KN) (es:KW K0) (i ep:Nat) (e:K0) (hx:es[i]?=some e):
  MeetsIn prog w (Builtin.«dict_keyiterator.__next__» ⟨[.ref it],[]⟩) (λ_ R s=>s.heap.get? it=some (vo "dict_keyiterator" d i es.size ep)/\s.heap.get? d=some (nP es ep)/\
   R (.ok (.ret e.key)) {s with heap:=s.heap.update it (Obj.mapFields (·.setIfInBounds 1 (rawInt ((i:Int)+1))))}):=
 .of_wp λA R s h=>by
  obtain⟨hp,g,dr,tk,os⟩:=s;obtain⟨h1,h2,h⟩:=h
  wp_walk
  have z:(if (i:Int) < 0 then none else es[(i:Int).toNat]?)=some e:=by
   rw [if_neg (by omega),KE]; exact hx
  rw [z]
  wp_walk
  exact⟨_,rfl,h⟩
theorem AS {h:KT} {it:KN} (f:K1->K1) (o o':K1):Heap.ExtBut it h (((h.update it f).push o).push o'):=λb u nb e=>
 pp _ (pp _ ((Heap.get?_update_other _ _ (Ne.symm nb)).trans e))
theorem JM (it d:KN) (es:KW K0) (i ep:Nat) (hx:es[i]?=none):
  MeetsIn prog w (Builtin.«dict_keyiterator.__next__» ⟨[.ref it],[]⟩) (λA R s=>A.handled=none/\s.heap.get? it=some (vo "dict_keyiterator" d i es.size ep)/\s.heap.get? d=some (nP es ep)/\
   (∀ h' e,Heap.ExtBut it s.heap h'->(∃ o,h'.get? e=some o/\o.cls=.type "StopIteration")->R (.error (.ref e)) {s with heap:=h'})):=
 .of_wp λA R s h=>by
  obtain⟨hp,g,dr,tk,os⟩:=s;obtain⟨h0,h1,h2,h⟩:=h
  wp_walk
  have z:(if (i:Int) < 0 then none else es[(i:Int).toNat]?)=none:=by
   rw [if_neg (by omega),KE]; exact hx
  rw [z]
  wp_walk
  unfold raiseNew;refine gt (wpAny_handled ?_);rw [show A.in1.handled=none from h0]
  exact gt (JU (wpAny_throw (h _ _ (AS _ _ _) ⟨_,JV _ rfl,rfl⟩)))
theorem JK (it d:KN) (es:KW K0) (i ep:Nat) (e:K0) (hx:es[i]?=some e):
  MeetsIn prog w (Builtin.«dict_valueiterator.__next__» ⟨[.ref it],[]⟩) (λ_ R s=>s.heap.get? it=some (vo "dict_valueiterator" d i es.size ep)/\s.heap.get? d=some (nP es ep)/\
   R (.ok (.ret e.val)) {s with heap:=s.heap.update it (Obj.mapFields (·.setIfInBounds 1 (rawInt ((i:Int)+1))))}):=
 .of_wp λA R s h=>by
  obtain⟨hp,g,dr,tk,os⟩:=s;obtain⟨h1,h2,h⟩:=h
  wp_walk
  have z:(if (i:Int) < 0 then none else es[(i:Int).toNat]?)=some e:=by
   rw [if_neg (by omega),KE]; exact hx
  rw [z]
  wp_walk
  exact⟨_,rfl,h⟩
theorem Jp (it d:KN) (es:KW K0) (i ep:Nat) (hx:es[i]?=none):
  MeetsIn prog w (Builtin.«dict_valueiterator.__next__» ⟨[.ref it],[]⟩) (λA R s=>A.handled=none/\s.heap.get? it=some (vo "dict_valueiterator" d i es.size ep)/\s.heap.get? d=some (nP es ep)/\
   (∀ h' e,Heap.ExtBut it s.heap h'->(∃ o,h'.get? e=some o/\o.cls=.type "StopIteration")->R (.error (.ref e)) {s with heap:=h'})):=
 .of_wp λA R s h=>by
  obtain⟨hp,g,dr,tk,os⟩:=s;obtain⟨h0,h1,h2,h⟩:=h
  wp_walk
  have z:(if (i:Int) < 0 then none else es[(i:Int).toNat]?)=none:=by
   rw [if_neg (by omega),KE]; exact hx
  rw [z]
  wp_walk
  unfold raiseNew;refine gt (wpAny_handled ?_);rw [show A.in1.handled=none from h0]
  exact gt (JU (wpAny_throw (h _ _ (AS _ _ _) ⟨_,JV _ rfl,rfl⟩)))
theorem JB (d:KN) (es:KW K0) (ep:Nat) (hd:(d == sysModules)=false):
  MeetsIn prog w (Builtin.«dict.__iter__» ⟨[.ref d],[]⟩) (λ_ R s=>s.heap.get? d=some (nP es ep)/\R (.ok (.ret (.ref s.heap.objs.size))) {s with heap:=s.heap.push (vo "dict_keyiterator" d 0 es.size ep)}):=
 .of_wp λA R s h=>by
  obtain⟨hp,g,dr,tk,os⟩:=s;obtain⟨h2,h⟩:=h
  wp_walk
  exact⟨_,rfl,h⟩
section
variable {A:KR} {E:KM->KL->Prop} {s:KL} {it d v:KN} {es:KW K0} {i ep:Nat} {e:K0} {ok ov:KM}
theorem qY {Q:KM->KL->Prop} (hd:(d == sysModules)=false) (h2:s.heap.get? d=some (nP es ep)) (h:Q (.ref s.heap.objs.size) {s with heap:=s.heap.push (vo "dict_keyiterator" d 0 es.size ep)}):
  wpAny (model prog w) A (pyIter (.ref d)) Q E s:=
 have T:s.TypeIs (.ref d) "dict":=⟨_,h2,rfl⟩
 wpAny_pyIter_slot T F.slot_dict_iter (call_meetsIn F.slot_dict_iter T F.entry_dict_iter (F.args_dict_iter_1 _) (JB d es ep hd) ⟨h2,"dict_keyiterator",_,⟨_,JV _ rfl,rfl⟩,F.slot_dict_keyiterator_next.lookup,h⟩)
theorem oI {T id:KZ} {f:Builtin} {φ} {Q:KO KM->KL->Prop} (hs:Slot T "__next__" id) (hT:s.TypeIs (.ref it) T) (he:entryFor table id=some f) (ha:argsOk id ⟨[.ref it],[]⟩) (hm:MeetsIn prog w (f ⟨[.ref it],[]⟩) φ)
  (h:φ A (wants (λu s'=>Q (some u) s') λe s'=>(∃ a o,e=.ref a/\s'.heap.get? a=some o/\o.cls=.type "StopIteration")/\Q none s') s):wpAny (model prog w) A (pyNext (.ref it)) Q E s:=by
 unfold pyNext;refine gt (wpAny_attempt (KD (name:=Str.ofString "__next__") hT hs (Km (call_meetsIn hs hT he ha hm h) (λu s' q=>JU q) λe s' q=>?_)))
 obtain⟨⟨a,o,rfl,g,c⟩,q⟩:=q;exact gt (wpAny_isInstance (T:="StopIteration") (b:=true) ⟨_,g,c⟩ isSubtype_stop (JU q))
inductive qI where
 | k | v
def qI.nm:qI->KZ
 | .k=>"dict_keyiterator"
 | .v=>"dict_valueiterator"
def qI.of (e:K0):qI->KM
 | .k=>e.key
 | .v=>e.val
theorem Dd (c:qI) {h:KT} {it d:KN} {i n ep:Nat} (h1:h.get? it=some (vo c.nm d i n ep)):(h.update it (Obj.mapFields (·.setIfInBounds 1 (rawInt ((i:Int)+1))))).get? it=some (vo c.nm d (i+1) n ep):=
 Heap.get?_update_self _ h1 rfl
theorem xh (c:qI) {Q:KO KM->KL->Prop} (h1:s.heap.get? it=some (vo c.nm d i es.size ep)) (h2:s.heap.get? d=some (nP es ep)) (hx:es[i]?=some e)
  (h:∀ h',h'.get? it=some (vo c.nm d (i+1) es.size ep)->(∀ b o,b≠it->s.heap.get? b=some o->h'.get? b=some o)->Q (some (qI.of e c)) {s with heap:=h'}):wpAny (model prog w) A (pyNext (.ref it)) Q E s:=by
 have far:∀ b o,b≠it->s.heap.get? b=some o->(s.heap.update it (Obj.mapFields (·.setIfInBounds 1 (rawInt ((i:Int)+1))))).get? b=some o:=λb o nb x=>(Heap.get?_update_other _ _ (Ne.symm nb)).trans x
 have z:=h _ (Dd c h1) far;cases c with
 | k=>exact oI F.slot_dict_keyiterator_next ⟨_,h1,rfl⟩ F.entry_dict_keyiterator_next (F.args_dict_keyiterator_next_1 _) (Jl it d es i ep e hx) ⟨h1,h2,z⟩
 | v=>exact oI F.slot_dict_valueiterator_next ⟨_,h1,rfl⟩ F.entry_dict_valueiterator_next (F.args_dict_valueiterator_next_1 _) (JK it d es i ep e hx) ⟨h1,h2,z⟩
theorem ug (c:qI) {Q:KO KM->KL->Prop} (hh:A.handled=none) (h1:s.heap.get? it=some (vo c.nm d i es.size ep)) (h2:s.heap.get? d=some (nP es ep)) (hx:es[i]?=none)
  (h:∀ h',(∀ b o,b≠it->s.heap.get? b=some o->h'.get? b=some o)->Q none {s with heap:=h'}):wpAny (model prog w) A (pyNext (.ref it)) Q E s:=by
 cases c with
 | k=>exact oI F.slot_dict_keyiterator_next ⟨_,h1,rfl⟩ F.entry_dict_keyiterator_next (F.args_dict_keyiterator_next_1 _) (JM it d es i ep hx) ⟨hh,h1,h2,λh' e x z9=>by obtain⟨o,y1,y2⟩:=z9; exact⟨⟨e,o,rfl,y1,y2⟩,h h' x⟩⟩
 | v=>exact oI F.slot_dict_valueiterator_next ⟨_,h1,rfl⟩ F.entry_dict_valueiterator_next (F.args_dict_valueiterator_next_1 _) (Jp it d es i ep hx) ⟨hh,h1,h2,λh' e x z9=>by obtain⟨o,y1,y2⟩:=z9; exact⟨⟨e,o,rfl,y1,y2⟩,h h' x⟩⟩
theorem wQ (c:qI) {n:Nat} {Q:KM->KL->Prop} (h1:s.heap.get? it=some (vo c.nm d i n ep)) (h:Q (.ref it) s):wpAny (model prog w) A (pyIter (.ref it)) Q E s:=by
 cases c with
 | k=>exact wpAny_pyIter_keyiter ⟨_,h1,rfl,rfl⟩ h
 | v=>exact wpAny_pyIter_valiter ⟨_,h1,rfl,rfl⟩ h
end
end
end PySem
namespace DL
open PySem PySem.Spec PyProof.Rows L2
def l_ (k:List Int):D:=.tup (k.map .int)
def eQ (kvs:List (List Int×D)) (k:List Int):KO D:=(kvs.find? λp=>decide (p.1=k)).map (·.2)
def ni (kvs:List (List Int×D)) (k:List Int) (d:D):List (List Int×D):=if (eQ kvs k).isSome then kvs.map (λp=>if p.1=k then(p.1,d) else p) else kvs++[(k,d)]
section
variable {K:Fg} {H H':Hp} {S:DH} {p:KN}
theorem xZ.step' {a:KN} {o:DO} (z:xZ K H a o) (k:Kp H H') (s:H' a=H a):xZ K H' a o:=
 Hs.step (S:=λb=>if b=a then some o else none) (λb u e=>by
  by_cases q:b=a
  ·subst q; cases (if_pos rfl).symm.trans e; exact z
  ·cases (if_neg q).symm.trans e) k (λb u e=>by
  by_cases q:b=a
  ·subst q; exact s
  ·cases (if_neg q).symm.trans e) a o (if_pos rfl)
theorem Hs.setG {o u:HO} {g:FJ} (h:Hs K H S) (e:H p=some u) (n:¬ HL u) (r:oq K (br H p o) p g):Hs K (br H p o) (put S p (.gen g)):=λa ob q=>by
 by_cases z:a=p
 ·subst z;rw [ak] at q;cases q;exact r
 ·rw [cm z] at q;exact xZ.step' (h a ob q) (Kp.mut e n) (aN z)
theorem Hs.newG {o:HO} {g:FJ} (h:Hs K H S) (e:H p=none) (r:oq K (br H p o) p g):Hs K (br H p o) (put S p (.gen g)):=λa ob q=>by
 by_cases z:a=p
 ·subst z;rw [ak] at q;cases q;exact r
 ·rw [cm z] at q;exact xZ.step' (h a ob q) (Kp.new e) (aN z)
theorem Hs.dT {kvs:List (List Int×D)} {ep:Nat} (h:Hs K H S) (e:S p=some (.gen (.dT kvs ep))):∃ xs,H p=some (.ext (mW p xs ep))/\li K H kvs xs:=h p _ e
theorem i7:∀ {k:List Int} {xs:List V},IsDs K H (k.map D.int) xs↔xs=k.map V.int
 | [],xs=>eF
 | i::k,xs=>by
  rw [J8,J8,bD]
  constructor
  ·rintro⟨v,r,rfl,h1,h2⟩;rw [isInt.mp h1,i7.mp h2]
  ·rintro rfl;exact⟨_,_,rfl,isInt.mpr rfl,i7.mpr rfl⟩
theorem tF {k:List Int} {v:V}:bA K H (l_ k) v↔∃ b,v=.ref b/\gZ K H b (k.map V.int):=by
 unfold l_;rw [bw]
 constructor
 ·rintro⟨a,xs,e,t,j⟩;rw [i7.mp j] at t;exact⟨a,e,t⟩
 ·rintro⟨b,e,t⟩;exact⟨b,_,e,t,i7.mpr rfl⟩
variable {kvs:List (List Int×D)} {xs:List (List Int×KN×KM)}
theorem li.get (r:li K H kvs xs) (k:List Int):(eQ kvs k=none/\atKey xs k=none)\/∃ d b u v,eQ kvs k=some d/\atKey xs k=some (b,u)/\aW v u/\bA K H d v:=by
 induction r with
 | nil=>exact .inl ⟨rfl,rfl⟩
 | @cons p q ps qs h t ih=>
  obtain⟨h1,h2,v,h3,h4⟩:=h
  by_cases e:p.1=k
  ·exact .inr ⟨p.2,q.2.1,q.2.2,v,by simp [eQ,J_,e],by simp [atKey,J_,h1.symm.trans e],h3,h4⟩
  ·have e':¬ q.1=k:=λz=>e (h1.trans z)
   have a1:eQ (p::ps) k=eQ ps k:=by simp [eQ,J_,e]
   have a2:atKey (q::qs) k=atKey qs k:=by simp [atKey,J_,e']
   rw [a1,a2];exact ih
theorem li.isSome (r:li K H kvs xs) (k:List Int):(eQ kvs k).isSome=(atKey xs k).isSome:=by
 rcases r.get k with ⟨a,b⟩ | ⟨d,b,u,v,a,c,_⟩
 ·rw [a,b]; rfl
 ·rw [a,c]; rfl
theorem li.put (r:li K H kvs xs) {k:List Int} {b:KN} {d:D} {v:V} {u:KM} (hb:gZ K H b (k.map V.int)) (rv:aW v u) (hd:bA K H d v):li K H (ni kvs k d) (storedH xs k b u):=by
 unfold ni storedH;rw [r.isSome k]
 by_cases q:(atKey xs k).isSome=true
 ·rw [if_pos q,if_pos q];clear q
  induction r with
  | nil=>exact .nil
  | @cons p q ps qs h t ih=>
   rw [J8,J8];refine .cons ?_ ih;obtain⟨h1,h2,v',h3,h4⟩:=h;unfold putAt
   by_cases e:p.1=k
   ·rw [if_pos e,if_pos (h1.symm.trans e)]; exact⟨h1,h2,v,rv,hd⟩
   ·rw [if_neg e,if_neg (λz=>e (h1.trans z))]; exact⟨h1,h2,v',h3,h4⟩
 ·rw [if_neg q,if_neg q];exact Paired.snoc r ⟨rfl,hb,v,rv,hd⟩
theorem li.length (r:li K H kvs xs):kvs.length=xs.length:=Paired.length r
theorem li.at_:∀ {kvs:List (List Int×D)} {xs:List (List Int×KN×KM)} {i:Nat} {p:List Int×D},li K H kvs xs->kvs[i]?=some p->∃ q,xs[i]?=some q/\p.1=q.1/\gZ K H q.2.1 (p.1.map V.int)/\∃ v,aW v q.2.2/\bA K H p.2 v
 | _,_,0,_,.cons h _,e=>by cases e; exact⟨_,rfl,h⟩
 | _,_,i+1,_,.cons _ t,e=>li.at_ (i:=i) t e
end
section
variable {X:Cx} {K2:List (KN×K1)} {σ:L2.St} {H:Hp} {s:KL} {a b:KN} {kvs:List (List Int×D)} {xs:List (List Int×KN×KM)} {ep:Nat} {k:List Int}
theorem items_int {P:KQ} {w:KS}:∀ {ks:List Int} {us:List KM},aV (ks.map V.int) us->PySem.ItemsAre (intKind P w) ks us
 | [],_,r=>by rw [List.map_nil] at r; cases r; exact .nil
 | k::ks,_,r=>by
  rw [J8] at r;cases r with
  | cons h t=>
   obtain⟨tk,rfl⟩:=h;exact .cons (by simp [intKind,Value.isInt]) (items_int t)
theorem lu (I:aE X K2 σ H s) (h:gZ X.K H b (k.map V.int)):(tupleKind (intKind X.prog X.w)).is s.heap k b:=by
 obtain⟨its,r,⟨o,h1,h2,n,h3⟩,_⟩:=I.tuple h;exact⟨o,its.toArray,n,h1,h2,h3,by simpa using items_int r⟩
theorem dj (I:aE X K2 σ H s) (e:H a=some (.ext (mW a xs ep))):(a == sysModules)=false/\xs.length<=sizeLine/\(xs.map (·.1)).Nodup/\s.heap.get? a=some (nP (xs.map eT).toArray ep):=(I.hok a _ e).1
theorem qC (I:aE X K2 σ H s) (e:H a=some (.ext (mW a xs ep))) (r:li X.K H kvs xs):s.heap.DictOfH (tupleKind (intKind X.prog X.w)) a xs:=by
 obtain⟨_,z,nd,g⟩:=dj I e;refine⟨_,_,ep,g,⟨rfl,rfl,rfl⟩,rfl,rfl,?_,nd⟩;clear z nd g e
 induction r with
 | nil=>intro x hx; exact nomatch hx
 | @cons p q ps qs h t ih=>
  intro x hx;rcases J2.mp hx with e | hx
  ·subst e;rw [<- h.1];exact lu I h.2.1
  ·exact ih x hx
theorem u5 {P:KQ} {w:KS} {h:KT} (hd:(a == sysModules)=false) (z:xs.length<=sizeLine) (m:h.DictOfH (tupleKind (intKind P w)) a xs):∃ ep,mW a xs ep h:=by
 obtain⟨⟨c,d,dt,sl⟩,es,ep,g,⟨c1,c2,c3⟩,c4,c5,_,nd⟩:=m;have q:es=(xs.map eT).toArray:=by
  have:es.toList=xs.map eT:=c5;rw [<- this]
 refine⟨ep,hd,z,nd,?_⟩;rw [g];cases c1; cases c2; cases c3; cases c4
 rw [q]
 rfl
theorem m8 {P:KQ} {w:KS} {h:KT} (m:mW a xs ep h):dy P w H h a (.ext (mW a xs ep)):=
 ⟨m,⟨_,m.2.2.2⟩,λh1 h2 p q=>⟨p.1,p.2.1,p.2.2.1,q _ p.2.2.2⟩⟩
theorem gr (xs:List (List Int×KN×KM)) (k:List Int) (b:KN) (u:KM):(storedH xs k b u).length<=xs.length+1:=by
 unfold storedH
 split
 ·rw [JZ]; omega
 ·rw [Kc]; exact JX _
theorem un1 {n:Nat} {A:KR} (hr:cv n A):A.units+1 < cLine:=by have:=hr.un; omega
def AD (go gi:DE):DE:=λL S k=>go L S λd S1=>gi L S1 λe S2=>match d with
 | .ref a=>∃ kvs ep ks c,S2 a=some (.gen (.dT kvs ep))/\e=l_ ks/\eQ kvs ks=some c/\k c S2
 | _=>False
def EF (K:Fg) (to ti:TE):TE:=fun σ H Q=>to σ H λx H1=>ti σ H1 λy H2=>∃ a b kvs xs ep ks p v,x=.ref a/\y=.ref b/\H2 a=some (.ext (mW a xs ep))/\li K H2 kvs xs/\gZ K H2 b (ks.map V.int)/\atKey xs ks=some p/\aW v p.2/\Q v H2
theorem yU {o i:KP} {to ti:TE} {pos:Pos} {n:Nat} (hr:cv n X.A) (ho:PE X o to) (hi:PE X i ti) (hs:Et i):PE X (.Subscript o i pos) (EF X.K to ti):=by
 intro K2 s σ H Q I h;refine B_ PySem.F.slot_dict_getitem.lookup hs (bc (ho K2 s σ H _ I h) λu s1 ⟨x,H1,I1,rx,h1⟩=>bc (hi K2 s1 σ H1 _ I1 h1) λiv s2 z9=>?_)
 obtain⟨y,H2,I2,ry,a,b,kvs,xs,ep,ks,p,v,ex,ey,e1,r1,t1,z2,z3,q⟩:=z9;subst ex ey;obtain rfl:u=Value.ref a:=rx;cases (show iv=Value.ref b from ry)
 have dd:=qC I2 e1 r1;exact⟨dd.typeIs,wpAny_getItem_heap (tupleKind_room_in1 (un1 hr)) (lu I2 t1) dd z2 ⟨v,H2,I2.tok _,z3,q⟩⟩
theorem oB {o i:KP} {go gi:DE} {pos:Pos} {n:Nat} (hr:cv n X.A) (ho:EJ X o go) (hi:EJ X i gi) (hs:Et i):EJ X (.Subscript o i pos) (AD go gi):=
 ⟨PE.imp (yU hr ho.h hi.h hs) fun σ H Q ⟨L,S,k,hL,hS,h,m⟩=>up.go hL hS h λd S1 x H1 h1 k1 hL1 hS1 i1=>up.go hL1 hS1 h1 λe S2 y H2 h2 k2 hL2 hS2 i2=>by
  cases d with
  | ref a=>
   obtain⟨kvs,ep,ks,c,g1,rfl,g3,h2⟩:=h2;obtain⟨xs,e1,r1⟩:=hS2.dT g1;obtain⟨b,rfl,t1⟩:=tF.mp i2;have ex:=aR.mp i1;subst ex;rcases r1.get ks with ⟨z,_⟩ | ⟨d,b',w,v,z1,z2,z3,z4⟩
   ·rw [g3] at z; cases z
   ·rw [g3] at z1;cases z1;exact⟨a,b,kvs,xs,ep,ks,_,v,rfl,rfl,e1,r1,t1,z2,z3,m c S2 v H2 h2 (k1.trans k2) hS2 z4⟩
  | _=>exact(show False from h2).elim⟩
def Hz (K:Fg):B8:=λx y v H Q=>∃ a b kvs xs ep ks,x=.ref a/\y=.ref b/\H a=some (.ext (mW a xs ep))/\li K H kvs xs/\gZ K H b (ks.map V.int)/\xs.length < sizeLine/\∀ u ep',aW v u->Q (br H a (.ext (mW a (storedH xs ks b u) ep')))
theorem zT {n:Nat} (hr:cv n X.A):EV X (Hz X.K):=by
 intro K2 s σ H o i v ov iv u Q I ro ri rv h;obtain⟨a,b,kvs,xs,ep,ks,rfl,rfl,e1,r1,t1,z,q⟩:=h;cases (show ov=Value.ref a from ro)
 cases (show iv=Value.ref b from ri)
 have hd:=(dj I e1).1;refine wpAny_setItem_heap (hsz:=Nat.le_of_lt z) (tupleKind_room_in1 (un1 hr)) (lu I t1) (qC I e1 r1) λh' dd' hs=>?_
 have z':(storedH xs ks b u).length<=sizeLine:=by have:=gr xs ks b u; omega
 obtain⟨ep',m⟩:=u5 hd z' dd';exact⟨_,wV I (by rw [e1]; exact True.intro) hs ⟨_,m.2.2.2⟩ (m8 m),q u ep' rv⟩
def zF (go gi:DE):DG:=λd L S k=>go L S λo S1=>gi L S1 λi S2=>match o with
 | .ref a=>∃ kvs ep ks,S2 a=some (.gen (.dT kvs ep))/\i=l_ ks/\kvs.length < sizeLine/\∀ ep',k L (put S2 a (.gen (.dT (ni kvs ks d) ep')))
 | _=>False
theorem oD {o i:KP} {go gi:DE} {pos:Pos} {n:Nat} (hr:cv n X.A) (ho:EJ X o go) (hi:EJ X i gi)
  (ha:∀ v,assign (.Subscript o i pos) X.env v=(do
   let ov <- holding [v] (eval o X.env)
   let iv <- holding [v,ov] (eval i X.env)
   standAt pos
   holding [v,ov,iv] (setItem ov iv v)
   release [v,ov,iv] []):=by intro _; rfl):GJ X (.Subscript o i pos) (zF go gi):=
 ⟨PG.imp (zt ho.h hi.h (zT hr) ha) λv σ H Q ⟨d,L,S,k,i1,hL,hS,h,m⟩=>up.go hL hS h λc S1 u H1 h1 k1 hL1 hS1 j1=>up.go hL1 hS1 h1 λc2 S2 u2 H2 h2 k2 hL2 hS2 j2=>by
  cases c with
  | ref a=>
   obtain⟨kvs,ep,ks,g1,rfl,z,h2⟩:=h2;obtain⟨xs,e1,r1⟩:=hS2.dT g1;obtain⟨b,rfl,t1⟩:=tF.mp j2;have ex:=aR.mp j1;subst ex;refine⟨a,b,kvs,xs,ep,ks,rfl,rfl,e1,r1,t1,by rw [<- r1.length]; exact z,λw ep' rw'=>?_⟩
   have k3:Kp H2 (br H2 a (.ext (mW a (storedH xs ks b w) ep'))):=Kp.mut e1 (λz=>z)
   exact m L _ σ _ (h2 ep') (k1.trans (k2.trans k3)) (hL2.kp k3) (hS2.setG e1 (λz=>z) ⟨_,bo,(r1.put t1 rw' (i1.kp (k1.trans k2))).kp k3⟩)
  | _=>exact(show False from h2).elim⟩
def Go:DE:=λ_ S k=>∀ p,S p=none->∀ ep,k (.ref p) (put S p (.gen (.dT [] ep)))
theorem q9 (h:KT) (hb:sysModules < h.objs.size):mW h.objs.size [] 0 (h.push {cls:=.type "dict",data:=.dict #[]}):=
 ⟨beq_eq_false_iff_ne.mpr (Ne.symm (J3 hb)),Kz _,List.nodup_nil,JV _ rfl⟩
theorem wx {pos:Pos}:EJ X (.Dict [] [] pos) Go:=⟨λK2 s σ H Q I ⟨L,S,k,hL,hS,h,m⟩=>by
 have hn:=I.hok.fresh (JX s.heap.objs.size);refine wpAny_Dict_empty ⟨.ref s.heap.objs.size,_,I.laid (a:=s.heap.objs.size) (o:=.ext (mW s.heap.objs.size [] 0)) (t':=s.toks) (λ_ _ q=>pp _ q) (JX _) (m8 (q9 s.heap I.big)),rfl,?_⟩
 exact m _ _ _ _ (h _ (hS.free hn) 0) (Kp.new hn) (hS.newG hn ⟨[],bo,.nil⟩) (aR.mpr rfl)⟩
end
end DL
namespace L2
open PySem PySem.Spec PyProof.Rows
theorem Cb {X:Cx} {K2:List (KN×K1)} {σ:St} {H:Hp} {s:KL} {a:KN} {xs ys:List (List Int×KN×KM)} {ep ep' i:Nat} {x:List Int×KN×KM} (I:aE X K2 σ H s) (e1:H a=some (.ext (DL.mW a xs ep))) (e2:H a=some (.ext (DL.mW a ys ep')))
  (hx:xs[i]?=some x):∃ y,ys[i]?=some y/\DL.eT y=DL.eT x:=by
 have g1:=(DL.dj I e1).2.2.2;have g2:=(DL.dj I e2).2.2.2;have z:=Kj (g1.symm.trans g2);have q:xs.map DL.eT=ys.map DL.eT:=by
  unfold DL.nP at z;injection z with _ _ z _
  injection z with z _
  exact congrArg Array.toList z
 have w:(ys.map DL.eT)[i]?=some (DL.eT x):=by rw [<- q,Ki,hx]; rfl
 rw [Ki] at w;exact Option.map_eq_some_iff.mp w
def Iu (c:qI) (a:KN) (ep n:Nat):It:=
 ⟨λi H => ∃ xs x v, H a = some (.ext (DL.mW a xs ep)) ∧ xs[i]? = some x ∧ xs.length = n ∧ aW v (qI.of (DL.eT x) c),
  λi H v H'=>H'=H/\∀ xs,H a=some (.ext (DL.mW a xs ep))->∃ x,xs[i]?=some x/\aW v (qI.of (DL.eT x) c),
  λi H=>∃ xs,H a=some (.ext (DL.mW a xs ep))/\xs.length=n/\n<=i⟩
theorem xK {P:KQ} {w:KS} {K:PySem.W.Frag} {tg:KP} (c:qI) (a it:KN) (ep n:Nat):qo P w K tg (Iu c a ep n) [it] it (λi h=>h.get? it=some (vo c.nm a i n ep)) where
 mem:=by simp
 obj:=λi h st b hb=>by
  have e:b=it:=by simpa using hb
  subst e;exact⟨_,st,λv z=>by cases z⟩
 keep:=λi h h' st k=>k it (by simp) _ st
 item:=by
  intro X hP hw hK hc i K2 s σ H E I hf st hg;subst hP hw hK;obtain⟨xs,x,v,e1,hx,hn,rv⟩:=hg;have g:=(DL.dj I e1).2.2.2;have sz:(xs.map DL.eT).toArray.size=n:=by simp [hn]
  obtain⟨f0,f1,f2,f3,f4,f5⟩:=hf it (by simp)
  refine xh c (e:=DL.eT x) (by rw [sz]; exact st) g (by simp [hx]) λh' st' kk=>?_
  have I1:aE X K2 σ H {s with heap:=h'}:=I.turned (t':=s.toks) kk f0 f1 f3 f4 f5
  rw [sz] at st';refine⟨_,rfl,o8 (s:={s with heap:=h'}) (n:=c.nm) st' rfl rfl (by cases c <;> decide) ⟨v,H,I1,rv,⟨rfl,λys ey=>?_⟩,st',λb hb=>(hf b hb).1⟩⟩
  obtain⟨y,y1,y2⟩:=Cb I e1 ey hx;exact⟨y,y1,by rw [y2]; exact rv⟩
 done:=by
  intro X hP hw hK hc i K2 s σ H E I hf st hg;subst hP hw hK;obtain⟨xs,e1,hn,hi⟩:=hg;have g:=(DL.dj I e1).2.2.2;have sz:(xs.map DL.eT).toArray.size=n:=by simp [hn]
  obtain⟨f0,f1,f2,f3,f4,f5⟩:=hf it (by simp)
  exact ug c (I.ok.hd hc) (by rw [sz]; exact st) g (by simp; omega) λh' kk=>⟨rfl,I.turned (t':=s.toks) kk f0 f1 f3 f4 f5⟩
 self:=λ_ _ _ _ _ st h=>wQ c st h
section
variable {X:Cx} {tg l o:KP} {tl to:TE} {apos cpos:Pos}
def Gv (tl:TE):TI:=fun σ H R=>tl σ H λx H1=>∃ a ep xs,x=.ref a/\H1 a=some (.ext (DL.mW a xs ep))/\R (Iu .k a ep xs.length) H1
theorem BC (hl:PE X l tl):PI X tg l (Gv tl):=by
 intro K2 s σ H R I h;refine bc (hl K2 s σ H _ I h) λv s1 z9=>?_
 obtain⟨x,H1,I1,r1,a,ep,xs,ex,e1,q⟩:=z9;subst ex;cases (show v=Value.ref a from r1)
 obtain⟨hd,_,_,g⟩:=DL.dj I1 e1;refine qY hd g ⟨s1.heap.objs.size,[s1.heap.objs.size],_,_,H1,rfl,I1.kept (t':=s1.toks) λb o e=>pp _ e,xK .k a _ ep xs.length,?_,λb hb=>?_,q⟩
 ·show(s1.heap.push _).get? _=_
  rw [JV _ rfl];simp [qI.nm]
 ·have e:b=s1.heap.objs.size:=by simpa using hb
  subst e;exact I1.fpOk (JX _) (I1.hok.fresh (JX _))
end
end L2
namespace DL
open PySem PySem.Spec PyProof.Rows L2
abbrev As:=Lo->DH->(List D->(DH->Prop)->DH->Prop)->Prop
structure EO (K:Fg) (H1:Hp) (J:It) (ds:List D) (ok:DH->Prop):Prop where
 go:∀ i d S2 H2,ds[i]?=some d->Kp H1 H2->Hs K H2 S2->ok S2->J.go i H2/\∀ x H',J.yld i H2 x H'->Kp H2 H'/\Hs K H' S2/\bA K H' d x
 stop:∀ S2 H2,Kp H1 H2->Hs K H2 S2->ok S2->J.stop ds.length H2
def Ji (K:Fg) (g:As):TI:=fun σ H R=>∃ L S k,Lc K H L σ/\Hs K H S/\g L S k/\∀ ds ok S' H' J,k ds ok S'->Kp H H'->Lc K H' L σ->Hs K H' S'->EO K H' J ds ok->R J H'
structure IJ (X:Cx) (tg iter:KP) (g:As):Prop where
 h:PI X tg iter (Ji X.K g)
def zl (cap:List (KO Nat)) (gi:As) (g:DG) (bd:DB):DE:=λL S k=>gi L S λds ok S1=>∀ p,S1 p=none->bK ok p g bd k ds [] (xR cap L) (put S1 p (.lst []))
section
variable {K:Fg} {ok:DH->Prop} {gg:DG} {ge:DE} {gc:DT} {k:DK} {ds:List D} {L:Lo} {S:DH} {σ:L2.St} {H:Hp} {J:It} {p:KN} {Q:V->Hp->Prop}
theorem sn (hL:Lc K H L σ) (hS:Hs K H S) (hp:H p=none) (h:bK ok p gg (oj gc ge) k ds [] L (put S p (.lst [])))
  (n:∀ d S' v H',k d S'->Kp H H'->Hs K H' S'->bA K H' d v->Q v H') (G:EO K H J ds ok):
  ∃ W:Nat->Nat->L2.St->Hp->Prop,(∃ m,W 0 m σ (br H p (.lst [])))/\∀ i m σ' H',W i m σ' H'->
   (J.stop i H'/\Q (.ref p) H')\/(J.go i H'/\∃ N:L2.St->Hp->Prop,(∀ σ2 H2,N σ2 H2->∃ m',m' < m/\W (i+1) m' σ2 H2)/\∀ x H2,J.yld i H' x H2->DW K gg x σ' H2 fun σ3 H3=>tm K gc σ3 H3 λb H3'=>if b=true then up K ge σ3 H3' λv H4=>∃ ys,H4 p=some (.lst ys)/\ys.length < sizeLine/\N σ3 (br H4 p (.lst (ys++[v]))) else N σ3 H3'):=by
 refine⟨λi m σ1 H1=>m=ds.length - i/\i<=ds.length/\∃ acc L1 S1,Lc K H1 L1 σ1/\Hs K H1 S1/\Kp H H1/\bK ok p gg (oj gc ge) k (ds.drop i) acc L1 S1,⟨ds.length,by simp,Kz _,[],L,_,hL.kp (Kp.new hp),hS.newL hp IsDs.nil,Kp.new hp,h⟩,?_⟩
 rintro i m σ1 H1 ⟨rfl,hi,acc,L1,S1,hL1,hS1,k1,w1⟩
 by_cases hlt:i < ds.length
 ·have e:ds.drop i=ds[i]::ds.drop (i+1):=Kw hlt;rw [e] at w1;obtain⟨o1,w1⟩:=w1;obtain⟨g1,y1⟩:=G.go i ds[i] S1 H1 (by simp [hlt]) k1 hS1 o1
  refine .inr ⟨g1,fun σ' H'=>i+1<=ds.length/\∃ acc L' S',Lc K H' L' σ'/\Hs K H' S'/\Kp H H'/\bK ok p gg (oj gc ge) k (ds.drop (i+1)) acc L' S',fun σ' H' z9=>by obtain⟨q1,q2⟩:=z9; exact⟨ds.length - (i+1),by omega,rfl,q1,q2⟩,λx H' y=>?_⟩
  obtain⟨k0,hS0,ix⟩:=y1 x H' y;refine⟨ds[i],L1,S1,_,ix,hL1.kp k0,hS0,w1,λL2 S2 σ2 H2 q k2 hL2 hS2=>tm.go hL2 hS2 q λb S2' H2' h2 k2' hL2' hS2'=>?_⟩
  have kk:=((k1.trans k0).trans k2).trans k2';cases b with
  | true=>
   rw [if_pos rfl] at h2 ⊢;refine up.go hL2' hS2' h2 λd S3 v H3 h3 k3 hL3 hS3 i3=>?_
   obtain⟨z1,z2,z3⟩:=h3;obtain⟨xs,hl,j⟩:=hS3.lst z1;have k4:Kp H3 (br H3 p (.lst (xs++[v]))):=Kp.mut hl (λz=>z)
   exact⟨xs,hl,by rw [<- j.length]; exact z2,hlt,_,L2,_,hL3.kp k4,hS3.setL hl (j.append (IsDs.cons i3 IsDs.nil)),(kk.trans k3).trans k4,z3⟩
  | false=>
   rw [if_neg J0] at h2 ⊢;exact⟨hlt,acc,L2,_,hL2',hS2',kk,h2⟩
 ·have e:i=ds.length:=by omega
  subst e;rw [List.drop_length] at w1;obtain⟨o1,w1⟩:=w1;exact .inl ⟨G.stop S1 H1 k1 hS1 o1,n _ S1 _ H1 w1 k1 hS1 (aR.mpr rfl)⟩
end
section
variable {X:Cx} {tg iter elt c:KP} {gi:As} {gg:DG} {g:DS} {ge:DE} {gc:DT} {body:List KU} {pos:Pos} {scope:Scope} {cl:List (Str×KN)} {N:List Str} {cap:List (KO Nat)}
theorem wk {K:Fg}:∀ σ H Q,up K (zl cap gi gg (oj gc ge)) σ H Q->rR cap (Ji K gi) (DW K gg) (tm K gc) (up K ge) σ H Q:=fun σ H Q ⟨L,S,k,hL,hS,h,n⟩=>
 ⟨L,S,_,hL,hS,h,λds ok S1 H1 J h1 k1 hL1 hS1 G D hD=>sn (hL1.cap cap) hS1 hD (h1 D (hS1.free hD)) (λd S' v H' q k3=>n d S' v H' q (k1.trans k3)) G⟩
theorem o6 (hc:X.calm=true) (Sc:dJ X scope cl N cap) (hi:IJ X tg iter gi) (hg:∀ s0 H0 ex C,GJ (eN X scope cl N s0 H0 ex C) tg gg) (hcnd:∀ s0 H0 ex C,TJ (eN X scope cl N s0 H0 ex C) c gc) (he:∀ s0 H0 ex C,EJ (eN X scope cl N s0 H0 ex C) elt ge)
  (hs:∀ x,foldedSetIterable iter X.env x=pure x:=by intro _; rfl):EJ X (.ListComp elt [⟨tg,iter,[c],0⟩] scope pos) (zl cap gi gg (oj gc ge)):=
 ⟨PE.imp (rn hc Sc hi.h (λs0 H0 ex C=>(hg s0 H0 ex C).h) (λs0 H0 ex C=>(hcnd s0 H0 ex C).h) (λs0 H0 ex C=>(he s0 H0 ex C).h) hs) wk⟩
end
def yI (c:qI) (kvs:List (List Int×D)):List D:=kvs.map λp=>match c with
 | .k=>l_ p.1
 | .v=>p.2
def eU (kvs:List (List Int×D)):List D:=kvs.map λp=>.tup [l_ p.1,p.2]
def IF (gi:DE) (f:List (List Int×D)->List D):As:=λL S k=>gi L S λd S1=>match d with
 | .ref a=>∃ kvs ep,S1 a=some (.gen (.dT kvs ep))/\k (f kvs) (λS=>S a=some (.gen (.dT kvs ep))) S1
 | _=>False
theorem yi (c:qI) {K:Fg} {H1:Hp} {a:KN} {kvs:List (List Int×D)} {ep:Nat}:EO K H1 (Iu c a ep kvs.length) (yI c kvs) (λS=>S a=some (.gen (.dT kvs ep))) where
 go:=λi d S2 H2 e k2 hS2 ok=>by
  obtain⟨xs,e1,r1⟩:=hS2.dT ok;unfold yI at e;rw [Ki] at e;obtain⟨p,hp,rfl⟩:=Option.map_eq_some_iff.mp e;obtain⟨q,hq,h1,h2,v,h3,h4⟩:=r1.at_ hp;cases c with
  | k=>
   refine⟨⟨xs,q,.ref q.2.1,e1,hq,r1.length.symm,rfl⟩,?_⟩;rintro x H' ⟨rfl,al⟩;obtain⟨q',hq',rv⟩:=al xs e1;rw [hq] at hq';cases hq';rw [aW.inj (show aW x (Value.ref q.2.1) from rv) (show aW (.ref q.2.1) (Value.ref q.2.1) from rfl)]
   exact⟨Kp.refl _,hS2,tF.mpr ⟨_,rfl,h2⟩⟩
  | v=>
   refine⟨⟨xs,q,v,e1,hq,r1.length.symm,h3⟩,?_⟩;rintro x H' ⟨rfl,al⟩;obtain⟨q',hq',rv⟩:=al xs e1;rw [hq] at hq';cases hq';rw [aW.inj (show aW x q.2.2 from rv) h3]
   exact⟨Kp.refl _,hS2,h4⟩
 stop:=λS2 H2 k2 hS2 ok=>by
  obtain⟨xs,e1,r1⟩:=hS2.dT ok;exact⟨xs,e1,r1.length.symm,by unfold yI; rw [JZ]; exact JX _⟩
section
variable {X:Cx} {tg o:KP} {go:DE} {apos cpos:Pos}
theorem wF (ho:EJ X o go):IJ X tg o (IF go (yI .k)):=⟨PI.imp (BC ho.h) fun σ H R ⟨L,S,k,hL,hS,h,n⟩=>up.go hL hS h λd S1 v H1 h1 k1 hL1 hS1 i1=>by
  cases d with
  | ref a=>
   obtain⟨kvs,ep,g1,h1⟩:=h1;obtain⟨xs,e1,r1⟩:=hS1.dT g1;have ex:=aR.mp i1;subst ex;exact⟨a,ep,xs,rfl,e1,n _ _ _ _ _ h1 k1 hL1 hS1 (r1.length▸yi .k)⟩
  | _=>exact(show False from h1).elim⟩
end
section
variable {X:Cx} {o e f:KP} {go ge gf:DE} {to te tf:TE} {apos cpos:Pos}
def CT:bE:=λds S k=>match ds with
 | [.ref a,.ty c]=>∃ kvs ep,S a=some (.gen (.dT kvs ep))/\k (.bl (pZ .dic c)) S
 | _=>False
theorem FF:bP X (.builtin "isinstance") (nX X.K CT):=by
 intro K2 s σ H xs us Q I rs h;obtain⟨ds,S,k,i,hS,r,n⟩:=h;unfold CT at r
 split at r
 ·rename_i a c
  obtain⟨kvs,ep,g1,r⟩:=r;obtain⟨x,y,rfl,i1,i2⟩:=kB i;have e2:=AV.mp i2;have e1:=aR.mp i1;subst e2 e1;obtain⟨u,w',rfl,r1,r2⟩:=pL rs;cases (show w'=Value.type c.name from r2)
  cases (show u=Value.ref a from r1)
  obtain⟨ys,e1,_⟩:=hS.dT g1;exact PySem.W.kia_one PySem.W.kitx_dict I.kIn ⟨_,(dj I e1).2.2.2,rfl⟩ (uT .dic c) (λz=>nomatch z) λtk=>⟨.bl (pZ .dic c),H,I.tok tk,rfl,n _ _ _ _ r (Kp.refl H) hS (aS.mpr rfl)⟩
 ·exact r.elim
end
abbrev Br:=Lo->DH->(List (D×D)->DH->Prop)->Prop
def G8:Br:=λ_ S k=>k [] S
def Fb (gk gv:DE) (t:Br):Br:=λL S k=>gk L S λx S1=>gv L S1 λy S2=>t L S2 λps S3=>k ((x,y)::ps) S3
abbrev E3 (K:Fg) (H:Hp):List (D×D)->List (V×V)->Prop:=Paired λd p=>bA K H d.1 p.1/\bA K H d.2 p.2
def Ih (K:Fg) (t:Br):L2.St->Hp->(List (V×V)->Hp->Prop)->Prop:=fun σ H Q=>∃ L S k,Lc K H L σ/\Hs K H S/\t L S k/\∀ ds S' ps H',k ds S'->Kp H H'->Hs K H' S'->E3 K H' ds ps->Q ps H'
structure PJ (X:Cx) (pos:Pos) (keys:List (KO KP)) (values:List KP) (t:Br):Prop where
 h:∀ (K2:List (KN×K1)) (s:KL) (σ:L2.St) (H:Hp) (Q:List (V×V)->Hp->Prop),aE X K2 σ H s->Ih X.K t σ H Q->
  wpAny (model X.prog X.w) X.A (evalPairs (pairTrees keys values X.env pos)) (λvs s'=>∃ ps H',aE X K2 σ H' s'/\VV ps vs/\Q ps H') X.xe s
section
variable {X:Cx} {pos:Pos}
theorem zm:PJ X pos [] [] G8:=⟨λK2 s σ H Q I z9=>by obtain⟨L,S,k,hL,hS,h,n⟩:=z9; exact pairTrees_nil_walk ⟨[],H,I,.nil,n [] S [] H h (Kp.refl H) hS .nil⟩⟩
theorem iM {a b:KP} {ks:List (KO KP)} {vs:List KP} {ga gb:DE} {t:Br} (ha:EJ X a ga) (hb:EJ X b gb) (hr:PJ X pos ks vs t):PJ X pos (some a::ks) (b::vs) (Fb ga gb t):=
 ⟨λK2 s σ H Q I ⟨L,S,k,hL,hS,h,n⟩=>by
  refine pairTrees_cons_walk (bc (ha.h K2 s σ H (λx H1=>up X.K gb σ H1 λy H2=>Ih X.K t σ H2 λps H3=>Q ((x,y)::ps) H3) I ?_) λu s1 ⟨x,H1,I1,rx,q1⟩=>bc (hb.h K2 s1 σ H1 _ I1 q1) λw2 s2 ⟨y,H2,I2,ry,q2⟩=>
   bc (hr.h K2 s2 σ H2 _ I2 q2) λws s3 ⟨ps,H3,I3,rel,q3⟩=>⟨(x,y)::ps,H3,I3,.cons ⟨rx,ry⟩ rel,q3⟩)
  exact up.go hL hS h λd S1 v H1 h1 k1 hL1 hS1 i1=>up.go hL1 hS1 h1 λe S2 u H2 h2 k2 hL2 hS2 i2=>⟨L,S2,_,hL2,hS2,h2,λds S3 ps H3 h3 k3 hS3 i3=>n _ S3 _ H3 h3 ((k1.trans k2).trans k3) hS3 (.cons ⟨i1.kp (k2.trans k3),i2.kp k3⟩ i3)⟩⟩
end
section
variable {prog:KQ} {w:KS} {A:KR} {E:KM->KL->Prop} {d:KN}
theorem qG (hu:A.units < cLine):∀ (vs:List (KM×KM)) (ks acc:List (List Int×KN×KM)) (s:KL) (Q:PUnit->KL->Prop),Paired (λv k=>v.1=.ref k.2.1/\v.2=k.2.2) vs ks->
  (∀ k∈ks,(tupleKind (intKind prog w)).is s.heap k.1 k.2.1)->s.heap.DictOfH (tupleKind (intKind prog w)) d acc->acc.length+ks.length<=sizeLine->
  (∀ h' tk,h'.DictOfH (tupleKind (intKind prog w)) d (ks.foldl (λacc k=>storedH acc k.1 k.2.1 k.2.2) acc)->Heap.SameBut d s.heap h'->Q PUnit.unit {s with heap:=h',toks:=tk})->
  wpAny (model prog w) A (forIn vs PUnit.unit fun(x:KM×KM) (_:PUnit)=>(do dictSet d x.1 x.2; pure (ForInStep.yield PUnit.unit):Sem (ForInStep PUnit))) Q E s
 | _,_,acc,s,Q,.nil,_,hm,_,hQ=>by
  rw [List.forIn_nil];exact JU (hQ s.heap s.toks hm (Heap.SameBut.refl _ _))
 | (_,_)::vs,k::ks,acc,s,Q,.cons h t,hk,hm,hz,hQ=>by
  obtain⟨h1,h2⟩:=h;simp only at h1 h2
  subst h1 h2;rw [J9] at hz;rw [List.forIn_cons];have hl:=gr acc k.1 k.2.1 k.2.2;refine gt (gt (wpAny_dictSet_heap (hsz:=by omega) (show (tupleKind (intKind prog w)).room A from hu) (hk k (by simp)) hm λh1 m1 s1=>JU (qG hu vs ks (storedH acc k.1 k.2.1 k.2.2) _ Q t (λq hq=>?_) m1 (by omega) λh' tk m' s'=>hQ h' tk m' (s1.trans s'))))
  obtain⟨o,es,ep,g,_,dt,_⟩:=hm;exact(tupleKind (intKind prog w)).keeps (hk q (by simp [hq])) g dt s1
end
def gN (acc kvs:List (List Int×D)):List (List Int×D):=kvs.foldl (λacc kv=>ni acc kv.1 kv.2) acc
theorem li.merge {K:Fg} {H:Hp}:∀ {kvs:List (List Int×D)} {xs:List (List Int×KN×KM)} {acc:List (List Int×D)} {ys:List (List Int×KN×KM)},li K H kvs xs->li K H acc ys->li K H (gN acc kvs) (xs.foldl (λacc k=>storedH acc k.1 k.2.1 k.2.2) ys)
 | _,_,_,_,.nil,r=>r
 | (k,d)::_,x::_,_,_,.cons h t,r=>by
  obtain⟨h1,h2,v,h3,h4⟩:=h;simp only at h1;subst h1
  rename_i t1 t2 a b
  exact li.merge (kvs:=t1) (xs:=t2) (acc:=ni a x.1 d) (ys:=storedH b x.1 x.2.1 x.2.2) t (r.put h2 h3 h4)
theorem mM:∀ (ks acc:List (List Int×KN×KM)),(ks.foldl (λacc k=>storedH acc k.1 k.2.1 k.2.2) acc).length<=acc.length+ks.length
 | [],acc=>JX _
 | k::ks,acc=>by
  have h1:=mM ks (storedH acc k.1 k.2.1 k.2.2);have h2:=gr acc k.1 k.2.1 k.2.2;rw [List.foldl_cons,J9];omega
theorem zu {K:Fg} {H:Hp}:∀ {kvs:List (List Int×D)} {ps:List (V×V)} {vs:List (KM×KM)},E3 K H (kvs.map λkv=>(l_ kv.1,kv.2)) ps->VV ps vs->∃ xs,li K H kvs xs/\Paired (λv (k:List Int×KN×KM)=>v.1=.ref k.2.1/\v.2=k.2.2) vs xs
 | [],_,_,r,q=>by rw [List.map_nil] at r; cases r; cases q; exact⟨[],.nil,.nil⟩
 | kv::kvs,_,_,r,q=>by
  rw [J8] at r;cases r with
  | @cons _ p _ _ h t=>
   cases q with
   | @cons _ b _ _ h' t'=>
    obtain⟨xs,a1,a2⟩:=zu t t';obtain⟨c,e,t1⟩:=tF.mp h.1;have h1:=h'.1;rw [e] at h1;exact⟨(kv.1,c,b.2)::xs,.cons ⟨rfl,t1,p.2,h'.2,h.2⟩ a1,.cons ⟨h1,rfl⟩ a2⟩
def DU (K:Fg) (t:L2.St->Hp->(List (V×V)->Hp->Prop)->Prop):TE:=fun σ H Q=>∀ p,H p=none->t σ (br H p (.ext (mW p [] 0))) λps H2=>∃ ep,H2 p=some (.ext (mW p [] ep))/\∃ kvs:List (List Int×D),E3 K H2 (kvs.map λkv=>(l_ kv.1,kv.2)) ps/\kvs.length<=15/\
 ∀ xs ep',li K H2 kvs xs->Q (.ref p) (br H2 p (.ext (mW p (xs.foldl (λacc k=>storedH acc k.1 k.2.1 k.2.2) []) ep')))
theorem A2 {X:Cx} {pos:Pos} {keys:List (KO KP)} {values:List KP} {t:Br} {n:Nat} (hr:cv n X.A) (h:PJ X pos keys values t) (hall:keys.all (·.isSome)=true:=by rfl) (hl:keys.length=values.length:=by rfl) (h0:keys≠[]:=by simp)
  (h15:keys.length<=15:=by decide):PE X (.Dict keys values pos) (DU X.K (Ih X.K t)):=by
 intro K2 s σ H Q I q;have hn:=I.hok.fresh (JX s.heap.objs.size);have hlen:=pairTrees_length keys values X.env pos hall hl;have I1:=I.laid (a:=s.heap.objs.size) (o:=.ext (mW s.heap.objs.size [] 0)) (h':=s.heap.push {cls:=.type "dict",data:=.dict #[]}) (t':=s.toks) (λ_ _ q=>pp _ q) (JX _) (m8 (q9 s.heap I.big))
 rw [arm_eval_Dict,zip_pairTrees keys values X.env pos hall hl,dictDisplay_pairs _ (λe=>h0 (by rw [e] at hlen; exact KJ.mp hlen.symm)) (by omega)]
 refine gt (wpAny_standAt (gt ?_));unfold subDict;refine gt (wpAny_alloc (gt (Kf ?_)));rw [if_pos (by omega)]
 refine gt (bc (h.h K2 _ σ _ _ I1 (q _ hn)) λws s2 z9=>?_)
 obtain⟨ps,H2,I2,rel,ep,e2,kvs,r2,lk,q2⟩:=z9;refine Kf (gt ?_);obtain⟨xs,rx,rw'⟩:=zu r2 rel;have hd:=(dj I2 e2).1;have hz:xs.length<=15:=by rw [<- rx.length]; exact lk
 refine qG (Nat.lt_of_succ_lt (un1 hr)) ws xs [] s2 _ rw' (λx hx=>?_) (qC I2 e2 (kvs:=[]) .nil) (by rw [sizeLine_eq,List.length_nil]; omega) λh' tk dd' hs=>?_
 ·clear rw' hz q2;clear r2 lk
  induction rx with
  | nil=>exact nomatch hx
  | @cons p q ps qs h t ih=>
   rcases J2.mp hx with e | hx
   ·subst e;rw [<- h.1];exact lu I2 h.2.1
   ·exact ih hx
 ·have z':(xs.foldl (λacc k=>storedH acc k.1 k.2.1 k.2.2) []).length<=sizeLine:=by have:=mM xs []; rw [List.length_nil] at this; rw [sizeLine_eq]; omega
  obtain⟨ep',m⟩:=u5 hd z' dd';exact JU (JU (JU ⟨.ref s.heap.objs.size,_,wV (t':=tk) I2 (by rw [e2]; exact True.intro) hs ⟨_,m.2.2.2⟩ (m8 m),rfl,q2 xs ep' rx⟩))
def F7 (t:Br):DE:=λL S k=>∀ p,S p=none->∀ ep,t L (put S p (.gen (.dT [] ep))) λds S2=>∃ ep' kvs,S2 p=some (.gen (.dT [] ep'))/\ds=kvs.map (λ(kv:List Int×D)=>(l_ kv.1,kv.2))/\kvs.length<=15/\∀ ep2,k (.ref p) (put S2 p (.gen (.dT (gN [] kvs) ep2)))
theorem wI {X:Cx} {pos:Pos} {keys:List (KO KP)} {values:List KP} {t:Br} {n:Nat} (hr:cv n X.A) (h:PJ X pos keys values t) (hall:keys.all (·.isSome)=true:=by rfl) (hl:keys.length=values.length:=by rfl) (h0:keys≠[]:=by simp)
  (h15:keys.length<=15:=by decide):EJ X (.Dict keys values pos) (F7 t):=
 ⟨PE.imp (A2 hr h hall hl h0 h15) fun σ H Q ⟨L,S,k,hL,hS,h,n⟩ p hp=>by
  refine⟨L,_,_,hL.kp (Kp.new hp),hS.newG (g:=.dT [] 0) hp ⟨[],bo,.nil⟩,h p (hS.free hp) 0,λds S2 ps H2 h2 k2 hS2 i2=>?_⟩
  obtain⟨ep',kvs,g2,rfl,lk,h2⟩:=h2;obtain⟨ys,e2,r2⟩:=hS2.dT g2;cases r2;refine⟨ep',e2,kvs,i2,lk,λxs ep2 rx=>?_⟩
  have k3:Kp H2 (br H2 p (.ext (mW p (xs.foldl (λacc k=>storedH acc k.1 k.2.1 k.2.2) []) ep2))):=Kp.mut e2 (λz=>z)
  exact n _ _ _ _ (h2 ep2) (((Kp.new hp).trans k2).trans k3) (hS2.setG e2 (λz=>z) ⟨_,bo,(rx.merge .nil).kp k3⟩) (aR.mpr rfl)⟩
end DL
namespace PySem
open Sem (wp)
open Builtin DL
section
variable {prog:KQ} {w:KS} {A:KR} {E:KM->KL->Prop}
theorem rS:typeLookup (.type "list") "keys"=pure none:=by rw [typeLookup_type,builtinLookup_eq_fast]; kernel_rfl
theorem yk {a:KN} {xs:KW KM} {k:Nat} {u:Tok} {s:KL} {R:Result->KL->Prop} (hx:s.heap.get? a=some {cls:=.type "list",dict:=none,data:=.seq xs k,slots:=#[]}) (hA:A.handled=none)
  (h:∀ h' tk e,Heap.NewAttrErr s.heap h' e (.ref a) "keys"->R (.error (.ref e)) {s with heap:=h',toks:=tk}):codeAny (model prog w) A (.call (.builtin "list.__getattribute__") ⟨[.ref a,.str "keys" u],[]⟩) R s:=
 have T:s.TypeIs (.ref a) "list":=⟨_,hx,rfl⟩
 codeAny_call_builtin F.slot_list_getattribute.plain am_entry_list_getattribute (F.slot_list_getattribute.check _ _ _ _ _ _ _ _ T (F.args_list_getattribute_2 _ _) (meets_getattribute_miss_list a xs k #[] "keys" _ rS (by decide) (by rw [sizeLine_eq]; decide) prog w A _ _ ⟨hx,hA,h⟩))
theorem ye {a:KN} {xs:KW KM} {k:Nat} {s:KL} {Q:KO KM->KL->Prop} (hx:s.heap.get? a=some {cls:=.type "list",dict:=none,data:=.seq xs k,slots:=#[]}) (hA:A.handled=none)
  (h:∀ h' tk,(∀ b o,s.heap.get? b=some o->h'.get? b=some o)->Q none {s with heap:=h',toks:=tk}):wpAny (model prog w) A (getAttr? (.ref a) "keys") Q E s:=by
 obtain⟨hp,g,d,tk,os⟩:=s;have hT:∀ tk',(⟨hp,g,d,tk',os⟩:KL).TypeIs (.ref a) "list":=λ_=>⟨_,hx,rfl⟩
 have c1:=sub_AttributeError;have c2:=F.slot_list_getattribute.lookup;have c3:=F.slot_list_getattribute.bind (.ref a);have c4:=am_list_getattr_none;unfold getAttr? getAttrBy? getAttrBy
 repeat (any_goals (first | assumption | exact hT _ | wp_step))
 refine yk (s:=⟨hp,g,d,tk+1,os⟩) hx hA λh' tk' e ne=>?_
 obtain⟨t',u',he⟩:=ne.there;have z:=h h' tk' ne.keeps
 show wpAny _ _ (getattributeRaised _ _ _ _ _ _ _) _ _ _
 unfold getattributeRaised
 repeat (any_goals (first | assumption | wp_step))
theorem w6:entryFor table "dict.update.loop"=some Builtin.«dict.update.loop»:=entryFor_of_tree (by kernel_rfl)
theorem oG:plainId "dict.update.loop"=true:=by decide +kernel
theorem xA {d it l T:KN} {its:KW KM} {i n:Nat} {key val:KM} {s:KL} {R:Result->KL->Prop} {dd:KO KN} {sl:KW (KO KM)} (hx:its[i]?=some (.ref T)) (st:s.heap.IsListIter it l i) (hl:s.heap.IsList l its)
  (hT:s.heap.get? T=some {cls:=.type "tuple",dict:=dd,data:=.seq #[key,val] n,slots:=sl}) (ne:T≠it)
  (h:∀ h',h'.IsListIter it l (i+1)->Heap.SameBut it s.heap h'->wpAny (model prog w) A.in1 (dictSet d key val) (λ_ s'=>codeAny (model prog w) A (.builtin "dict.update.loop" ⟨[.ref d,.ref it,rawInt ((i:Int)+1),.none],[]⟩) R s') (λe s'=>R (.error e) s') {s with heap:=h'}):
  codeAny (model prog w) A (.builtin "dict.update.loop" ⟨[.ref d,.ref it,rawInt i,.none],[]⟩) R s:=by
 refine Kk w6 ?_;rw [Kd oG _];refine gt (m:=pyNext (.ref it)) (wpAny_pyNext_list_item st hl hx λh' st' sb=>?_)
 obtain⟨hp,g,dr,tk,os⟩:=s;have hT':Heap.get? h' T=some {cls:=.type "tuple",dict:=dd,data:=.seq #[key,val] n,slots:=sl}:=(sb.2 T ne).trans hT
 have z:=h h' st' sb;refine gt (Kf (gt (wpAny_tryCatch ?_)))
 repeat (any_goals (first | assumption | (with_reducible show wpAny _ _ (dictSet _ _ _) _ _ _; refine Km z (λ_ s' q=>JU ⟨plainId_quiet oG _,q⟩) λ_ _ q=>q) | wp_step))
abbrev yp (prog:KQ) (w:KS):HeapKind prog w (List Int):=tupleKind (intKind prog w)
theorem ul {h h':KT} {d it:KN} {c:KZ} {acc:List (List Int×KN×KM)} (m:h.DictOfH (yp prog w) d acc) (ci:∃ o,h.get? it=some o/\o.cls=.type c) (nt:(Value.type "tuple" == Value.type c)=false) (hd:d≠it)
  (k:∀ b o,b≠it->h.get? b=some o->h'.get? b=some o):h'.DictOfH (yp prog w) d acc:=by
 obtain⟨o,es,ep,g,e1,e2,e3,e4,nd⟩:=m;refine⟨o,es,ep,k _ _ hd g,e1,e2,e3,λx hx=>?_,nd⟩
 obtain⟨q,its,n,g1,g2,g3⟩:=e4 x hx;refine⟨q,its,n,k _ _ (λz=>?_) g1,g2,g3⟩
 obtain⟨q',y1,y2⟩:=ci;rw [z,y1] at g1;cases g1;rw [y2] at g2;rw [g2] at nt;simp at nt
theorem A4 {d it l:KN} {R:Result->KL->Prop} (hu:A.units+1 < cLine) (hh:A.handled=none) (ts:List (KN×List Int×KN×KM)) (hd:d≠it) (hl:l≠it) (hld:l≠d):
  ∀ (k i:Nat) (s:KL) (acc:List (List Int×KN×KM)),ts.length - i=k->i<=ts.length->s.heap.IsListIter it l i->s.heap.IsList l (ts.map λt=>Value.ref t.1).toArray->
  (∀ t∈ts,(∃ dd n sl,s.heap.get? t.1=some {cls:=.type "tuple",dict:=dd,data:=.seq #[.ref t.2.2.1,t.2.2.2] n,slots:=sl})/\(yp prog w).is s.heap t.2.1 t.2.2.1)->
  s.heap.DictOfH (yp prog w) d acc->acc.length+(ts.length - i)<=sizeLine->
  (∀ h' tk,(∀ b o,b≠it->b≠d->s.heap.get? b=some o->h'.get? b=some o)->h'.DictOfH (yp prog w) d ((ts.drop i).foldl (λacc t=>storedH acc t.2.1 t.2.2.1 t.2.2.2) acc)->R (.ok (.ret .none)) {s with heap:=h',toks:=tk})->
  codeAny (model prog w) A (.builtin "dict.update.loop" ⟨[.ref d,.ref it,rawInt i,.none],[]⟩) R s:=by
 intro k
 induction k with
 | zero=>
  intro i s acc hk hi st hL hts hm hz hR;have e:i=ts.length:=by omega
  subst e;refine Kk w6 ?_;rw [Kd oG _];have ci:∃ o,s.heap.get? it=some o/\o.cls=.type "list_iterator":=let ⟨o,a,b,_⟩:=st; ⟨o,a,b⟩
  refine gt (m:=pyNext (.ref it)) (wpAny_pyNext_list_end (A:=A.in1) hh st hL (by simp) λh' eb=>?_)
  have z:=hR h' s.toks (λb o n1 _ x=>eb b o n1 x) (by rw [List.drop_length]; exact ul hm ci (by decide) hd eb)
  exact gt (JU (JU z))
 | succ k ih=>
  intro i s acc hk hi st hL hts hm hz hR;have hlt:i < ts.length:=by omega
  have mem:ts[i]∈ts:=List.getElem_mem hlt;obtain⟨⟨dd,n,sl,gT⟩,ik⟩:=hts _ mem;have ci:∃ o,s.heap.get? it=some o/\o.cls=.type "list_iterator":=let ⟨o,a,b,_⟩:=st; ⟨o,a,b⟩
  have cd:∃ o,s.heap.get? d=some o/\o.cls=.type "dict":=let ⟨o,_,_,a,b,_⟩:=hm; ⟨o,a,b.1⟩
  have tni:∀ {b:KN} {o:K1},s.heap.get? b=some o->o.cls=.type "tuple"->b≠it:=λg c z=>by
   obtain⟨q,y1,y2⟩:=ci;rw [z,y1] at g;cases g;rw [y2] at c;simp at c
  have tnd:∀ {b:KN} {o:K1},s.heap.get? b=some o->o.cls=.type "tuple"->b≠d:=λg c z=>by
   obtain⟨q,y1,y2⟩:=cd;rw [z,y1] at g;cases g;rw [y2] at c;simp at c
  have hlen:=gr acc ts[i].2.1 ts[i].2.2.1 ts[i].2.2.2;refine xA (T:=ts[i].1) (by simp [hlt]) st hL gT (tni gT rfl) λh1 st1 sb=>?_
  have kk:∀ b o,b≠it->s.heap.get? b=some o->h1.get? b=some o:=λb o n1 x=>(sb.2 b n1).trans x
  have isk:∀ t∈ts,(yp prog w).is h1 t.2.1 t.2.2.1:=λt ht=>by
   obtain⟨q,its,m,g1,g2,g3⟩:=(hts t ht).2;exact⟨q,its,m,kk _ _ (tni g1 g2) g1,g2,g3⟩
  have hm1:h1.DictOfH (yp prog w) d acc:=ul hm ci (by decide) hd kk
  refine wpAny_dictSet_heap (hsz:=by omega) (show (yp prog w).room A.in1 from hu) (isk _ mem) hm1 λh2 hm2 sb2=>?_
  have e:(rawInt ((i:Int)+1))=rawInt ((i+1:Nat):Int):=rfl;rw [e];have k2:∀ b o,b≠d->h1.get? b=some o->h2.get? b=some o:=λb o n1 x=>(sb2.2 b n1).trans x
  refine ih (i+1) _ _ (by omega) hlt (st1.at λo x=>k2 _ _ (Ne.symm hd) x) ((hL.at λo x=>kk _ _ hl x).at λo x=>k2 _ _ hld x) (λt ht=>?_) hm2 (by omega) λh' tk q1 q2=>?_
  ·obtain⟨⟨dd,n,sl,g⟩,_⟩:=hts t ht;obtain⟨o,es,ep,g',_,dt,_⟩:=hm1;exact⟨⟨dd,n,sl,k2 _ _ (tnd g rfl) (kk _ _ (tni g rfl) g)⟩,(yp prog w).keeps (isk t ht) g' dt sb2⟩
  ·refine hR h' tk (λb o n1 n2 x=>q1 b o n1 n2 (k2 b o n2 (kk b o n1 x))) ?_
   rw [Kw hlt,List.foldl_cons];exact q2
theorem pT {l:KN} {s:KL} {n:Nat} (hu:A.units+2 < cLine) (hh:A.handled=none) (hb:sysModules < s.heap.objs.size) (ts:List (KN×List Int×KN×KM)) {Q:KM->KL->Prop}
  (gl:s.heap.get? l=some {cls:=.type "list",dict:=none,data:=.seq (ts.map λt=>Value.ref t.1).toArray n,slots:=#[]})
  (hts:∀ t∈ts,(∃ dd n sl,s.heap.get? t.1=some {cls:=.type "tuple",dict:=dd,data:=.seq #[.ref t.2.2.1,t.2.2.2] n,slots:=sl})/\(yp prog w).is s.heap t.2.1 t.2.2.1) (hz:ts.length<=sizeLine)
  (h:∀ h' tk,(∀ b o,s.heap.get? b=some o->h'.get? b=some o)->h'.DictOfH (yp prog w) s.heap.objs.size (ts.foldl (λacc t=>storedH acc t.2.1 t.2.2.1 t.2.2.2) [])->Q (.ref s.heap.objs.size) {s with heap:=h',toks:=tk}):
  wpAny (model prog w) A (call (.type "dict") [.ref l]) Q E s:=by
 refine callType_codes (Q₁:=λob s1=>ob=.ref s.heap.objs.size/\s1={s with heap:=s.heap.push {cls:=.type "dict",data:=.dict #[]}}) F.kt_called_dict (F.kt_typeCall_dict_1 _) F.entry_dict_init (kt_code_dict_new _ ⟨rfl,rfl⟩) ?_
 rintro ob s1 ⟨rfl,rfl⟩;have hl:l < s.heap.objs.size:=JW gl;have gl1:(s.heap.push {cls:=.type "dict",data:=.dict #[]}).get? l=some {cls:=.type "list",dict:=none,data:=.seq (ts.map λt=>Value.ref t.1).toArray n,slots:=#[]}:=pp _ gl
 have gd1:(s.heap.push {cls:=.type "dict",data:=.dict #[]}).get? s.heap.objs.size=some (nP #[] 0):=JV _ rfl
 refine⟨⟨_,gd1,rfl⟩,F.args_dict_init_2 _ _,?_⟩;generalize hH:s.heap.push {cls:=.type "dict",data:=.dict #[]}=H1 at gl1 gd1
 have kH:∀ b o,s.heap.get? b=some o->H1.get? b=some o:=λb o x=>by rw [<- hH]; exact pp _ x
 obtain⟨hp,g,dr,tk,os⟩:=s;have T1:(⟨H1,g,dr,tk,os⟩:KL).TypeIs (.ref hp.objs.size) "dict":=⟨_,gd1,rfl⟩
 have hT2:(⟨H1,g,dr,tk,os⟩:KL).TypeIs (.ref l) "list":=⟨_,gl1,rfl⟩
 refine gt (m:=Dict.selfAndRest "__init__" _) ?_
 unfold Dict.selfAndRest;refine gt (wpAny_notOrdered_dict T1 ?_)
 show wpAny _ _ (pure (hp.objs.size,[Value.ref l])) _ _ _
 refine JU ?_
 show wpAny _ _ (Dict.updateFrom "dict.__init__" hp.objs.size (.ref l) [] .none) _ _ _
 unfold Dict.updateFrom;refine gt (wpAny_typeOf hT2 ?_);rw [if_pos (by decide)]
 refine gt (ye (s:=⟨H1,g,dr,tk,os⟩) gl1 hh λh' tk' kk=>?_)
 rw [if_pos (show (none:KO KM).isNone=true from rfl)]
 refine gt (wpAny_rule (gt ?_));have gl2:=kk _ _ gl1;have gd2:=kk _ _ gd1;have iL:h'.IsList l (ts.map λt=>Value.ref t.1).toArray:=⟨_,gl2,rfl,_,rfl⟩
 refine wpAny_pyIter_list (s:=⟨h',g,dr,tk',os⟩) iL (JU ⟨plainId_quiet oG _,?_⟩);have z1:hp.objs.size < h'.objs.size:=JW gd2;refine A4 (A:=A.in1) (by show A.units+1+1 < cLine; omega) hh ts (J3 z1) (J3 (Nat.lt_trans hl z1)) (J3 hl) ts.length 0 ⟨h'.push {cls:=.type "list_iterator",data:=.fields #[.ref l,.int 0 0]},g,dr,tk',os⟩ [] rfl (Kz _) ⟨_,JV _ rfl,rfl,rfl⟩ (iL.push _) (λt ht=>?_) ?_ (by rw [List.length_nil]; omega) λh2 tk2 q1 q2=>⟨rfl,h h2 tk2 (λb o x=>?_) q2⟩
 ·obtain⟨⟨dd,n',sl,g1⟩,o,its,m,g2,g3⟩:=hts t ht;have up:∀ b o,hp.get? b=some o->(h'.push {cls:=.type "list_iterator",data:=.fields #[.ref l,.int 0 0]}).get? b=some o:=λb o x=>pp _ (kk _ _ (kH _ _ x))
  exact⟨⟨dd,n',sl,up _ _ g1⟩,o,its,m,up _ _ g2,g3⟩
 ·exact⟨_,#[],0,pp _ gd2,⟨rfl,rfl,rfl⟩,rfl,rfl,(by intro x hx; simp at hx),List.nodup_nil⟩
 ·have b1:b < hp.objs.size:=JW x;exact q1 b o (J3 (Nat.lt_trans b1 z1)) (J3 b1) (pp _ (kk _ _ (kH _ _ x)))
theorem tS (c:Int):∀ l:List K0,(l.map (·.hash)).Nodup->(l.filter (·.hash == c)).length<=1
 | [],_=>Kz _
 | e::l,h=>by
  rw [J8,Ks] at h;rw [List.filter_cons]
  by_cases q:(e.hash == c)=true
  ·rw [if_pos q];have z:l.filter (·.hash == c)=[]:=by
    rw [List.filter_eq_nil_iff];intro x hx y;refine h.1 (JY.mpr ⟨x,hx,?_⟩);simp only [beq_iff_eq] at q y
    rw [q,y]
   rw [z];exact JX _
  ·rw [if_neg q];exact tS c l h.2
theorem sM {id:KZ} {o:KN} {es:KW K0} {ep:Nat} {s:KL} {Q:KW K0->KL->Prop} (g:s.heap.get? o=some (nP es ep)) (hk:∀ e∈es.toList,∃ b q,e.key=.ref b/\s.heap.get? b=some q/\q.cls=.type "tuple") (hn:(es.toList.map (·.hash)).Nodup) (h:Q es s):
  wpAny (model prog w) A (Dict.entriesForEmpty id o) Q E s:=by
 unfold Dict.entriesForEmpty;refine gt (Kx g rfl ?_);refine gt ?_;rw [<- Array.forIn_toList];refine wpAny_forIn_list _ (λa_ _ s'=>s'=s/\∀ e∈a_,e∈es.toList) _ ?_ ?_ es.toList _ ⟨rfl,λe he=>he⟩
 ·rintro e a_ _ s' ⟨rfl,hr⟩;have me:=hr e (by simp)
  obtain⟨b,q,kb,gb,cb⟩:=hk e me;have one:¬ (es.filter (·.hash == e.hash)).size > 1:=by
   have z:=tS e.hash es.toList hn;rw [<- KG,Array.toList_filter];omega
  rw [kb];have T:s'.TypeIs (.ref b) "tuple":=⟨q,gb,cb⟩
  refine gt (gt (wpAny_specialOf T F.slot_tuple_eq.lookup (JU ?_)));rw [if_pos (by decide),if_neg one]
  exact JU ⟨rfl,λx hx=>hr x (by simp [hx])⟩
 ·rintro _ s' ⟨rfl,_⟩;exact JU h
theorem AX {d o:KN} {es:KW K0} {ep:Nat} {s:KL} {Q:Unit->KL->Prop} (ne:d≠o) (ho:(o == sysModules)=false) (gd:s.heap.get? d=some (nP #[] 0)) (go:s.heap.get? o=some (nP es ep))
  (hk:∀ e∈es.toList,∃ b q,e.key=.ref b/\s.heap.get? b=some q/\q.cls=.type "tuple") (hn:(es.toList.map (·.hash)).Nodup) (hz:es.size<=sizeLine) (h:∀ h' ep',h'.get? d=some (nP es ep')->Heap.SameBut d s.heap h'->Q () {s with heap:=h'}):
  wpAny (model prog w) A (Dict.mergeDict "dict.__init__" d o) Q E s:=by
 have nb:(d == o)=false:=by simpa using ne
 unfold Dict.mergeDict Dict.showsAll;rw [if_neg (by rw [nb]; exact J0),if_neg (by rw [ho]; exact J0)]
 refine gt (JU (gt (Kx go rfl ?_)));cases hes:es.toList with
 | nil=>
  have e0:es=#[]:=by cases es; simp at hes; rw [hes]
  subst e0;have z:=h s.heap 0 gd (Heap.SameBut.refl _ _);dsimp only;rw [if_neg (by simp)]
  refine gt (wpAny_dictEpoch go rfl (gt (Kx go rfl ?_)));rw [Std.Legacy.Range.forIn_eq_forIn_range'];exact gt (JU (JU z))
 | cons e r=>
  obtain⟨b,q,kb,gb,cb⟩:=hk e (by rw [hes]; simp)
  have few:(es.size<=8 && es.all λe=>(keyPart e.key).isSome)=false:=by
   have:(es.all λe=>(keyPart e.key).isSome)=false:=by
    rw [<- Array.all_toList,hes,List.all_cons,kb]
    rfl
   rw [this,Bool.and_false]
  dsimp only;rw [if_pos (by rw [few]; rfl)]
  refine gt (Kx gd rfl ?_);rw [if_pos (by rfl)]
  refine gt (sM go (by rw [hes]; rw [hes] at hk; exact hk) hn ?_)
  have ne0:(!es.isEmpty)=true:=by
   cases es;simp at hes;rw [hes]
   rfl
  rw [if_pos ne0];have up:(s.heap.update d (Obj.mapDictKeys λ_=>es)).get? d=_:=Heap.get?_update_self (Obj.mapDictKeys λ_=>es) gd rfl
  refine gt (wpAny_updateDictKeysTo gd rfl ?_ (Nat.le_succ_of_le hz));exact JU (h _ _ up (Heap.SameBut.update ..))
theorem oS {o:KN} {es:KW K0} {ep:Nat} {s:KL} {Q:KM->KL->Prop} (ho:(o == sysModules)=false) (go:s.heap.get? o=some (nP es ep))
  (hk:∀ e∈es.toList,∃ b q,e.key=.ref b/\s.heap.get? b=some q/\q.cls=.type "tuple") (hn:(es.toList.map (·.hash)).Nodup) (hz:es.size<=sizeLine)
  (h:∀ h' ep',h'.get? s.heap.objs.size=some (nP es ep')->(∀ b q,s.heap.get? b=some q->h'.get? b=some q)->Q (.ref s.heap.objs.size) {s with heap:=h'}):wpAny (model prog w) A (call (.type "dict") [.ref o]) Q E s:=by
 refine callType_codes (Q₁:=λob s1=>ob=.ref s.heap.objs.size/\s1={s with heap:=s.heap.push {cls:=.type "dict",data:=.dict #[]}}) F.kt_called_dict (F.kt_typeCall_dict_1 _) F.entry_dict_init (kt_code_dict_new _ ⟨rfl,rfl⟩) ?_
 rintro ob s1 ⟨rfl,rfl⟩;have lo:o < s.heap.objs.size:=JW go;have go1:=pp {cls:=.type "dict",data:=.dict #[]} go
 have gd1:(s.heap.push {cls:=.type "dict",data:=.dict #[]}).get? s.heap.objs.size=some (nP #[] 0):=JV _ rfl
 have T1:({s with heap:=s.heap.push {cls:=.type "dict",data:=.dict #[]}}:KL).TypeIs (.ref s.heap.objs.size) "dict":=⟨_,gd1,rfl⟩
 have T2:({s with heap:=s.heap.push {cls:=.type "dict",data:=.dict #[]}}:KL).TypeIs (.ref o) "dict":=⟨_,go1,rfl⟩
 refine⟨T1,F.args_dict_init_2 _ _,gt (m:=Dict.selfAndRest "__init__" _) ?_⟩
 unfold Dict.selfAndRest;refine gt (wpAny_notOrdered_dict T1 (JU (a:=(s.heap.objs.size,[Value.ref o])) ?_))
 show wpAny _ _ (Dict.updateFrom "dict.__init__" s.heap.objs.size (.ref o) [] .none) _ _ _
 unfold Dict.updateFrom;refine gt (wpAny_typeOf T2 ?_);rw [if_neg (by decide)]
 refine gt ?_;unfold Dict.merge;refine gt ?_;unfold Dict.readDirectly;refine gt (wpAny_isInstance T2 isSubtype_dict_dict ?_);rw [if_neg (by decide)]
 refine gt (wpAny_specialOf T2 F.slot_dict_iter.lookup (JU ?_));rw [if_pos (by decide)]
 refine gt (JU (AX (Nat.ne_of_gt lo) ho gd1 go1 (λe he=>?_) hn hz λh' ep' g sb=>?_))
 ·obtain⟨b,q,x1,x2,x3⟩:=hk e he;exact⟨b,q,x1,pp _ x2,x3⟩
 ·exact gt (JU (JU ⟨rfl,h h' ep' g λb q x=>(sb.2 b (J3 (JW x))).trans (pp _ x)⟩))
theorem z8 (c:qI) (hh:A.handled=none) (I d:KN) (ne:d≠I) (es:KW K0) (ep:Nat):Walks prog w A I [I,d] [I] es.size (λi v=>∃ e,es[i]?=some e/\v=qI.of e c) (λi h=>h.get? I=some (vo c.nm d i es.size ep)/\h.get? d=some (nP es ep)) where
 sub:=λb hb=>by simp at hb; simp [hb]
 frame:=λ_ _ _ st k=>⟨k I (by simp) _ st.1,k d (by simp) _ st.2⟩
 item:=λi s Q E hi st fin=>xh c (e:=es[i]) st.1 st.2 (by simp [hi]) λh' a k=>fin _ h' s.toks ⟨es[i],by simp [hi],rfl⟩ ⟨a,k _ _ ne st.2⟩ λb o hb x=>k b o (λz=>hb (by simp [z])) x
 done:=λs Q E st fin=>ug c hh st.1 st.2 (by simp) λh' k=>fin h' s.toks λb o hb x=>k b o (λz=>hb (by simp [z])) x
 self:=λ_ _ _ _ st q=>wQ c st.1 q
end
end PySem
namespace DL
open PySem PySem.Spec PyProof.Rows L2
theorem qN {X:Cx} {K2:List (KN×K1)} {σ:L2.St} {H:Hp} {s:KL} (I:aE X K2 σ H s):∀ {kvs:List (List Int×D)} {xs:List V} {us:List KM},IsDs X.K H (eU kvs) xs->aV xs us->
  ∃ ts:List (KN×List Int×KN×KM),us=ts.map (λt=>Value.ref t.1)/\li X.K H kvs (ts.map (·.2))/\
   ∀ t∈ts,(∃ dd n sl,s.heap.get? t.1=some {cls:=.type "tuple",dict:=dd,data:=.seq #[.ref t.2.2.1,t.2.2.2] n,slots:=sl})/\(yp X.prog X.w).is s.heap t.2.1 t.2.2.1
 | [],xs,us,i,r=>by
  have e:xs=[]:=eF.mp i;subst e;cases r;exact⟨[],rfl,.nil,λt ht=>nomatch ht⟩
 | kv::kvs,xs,us,i,r=>by
  obtain⟨v,vs,rfl,h1,h2⟩:=bD.mp (show IsDs X.K H (.tup [l_ kv.1,kv.2]::eU kvs) xs from i)
  cases r with
  | @cons _ u _ us r1 r2=>
   obtain⟨ts,e,q1,q2⟩:=qN I h2 r2;obtain⟨T,ys,rfl,t1,j⟩:=bw.mp h1;obtain⟨y1,y2,rfl,j1,j2⟩:=kB j;obtain⟨b,rfl,tb⟩:=tF.mp j1;cases (show u=Value.ref T from r1)
   obtain⟨its,rv,⟨⟨cls,dd,data,sl⟩,g1,g2,n,g3⟩,_⟩:=I.tuple t1;obtain⟨w1,w2,rfl,rw1,rw2⟩:=pL rv;cases (show w1=Value.ref b from rw1)
   simp only at g2 g3
   subst g2 g3;refine⟨(T,kv.1,b,w2)::ts,by rw [e]; rfl,.cons ⟨rfl,tb,y2,rw2,j2⟩ q1,λt ht=>?_⟩
   rcases J2.mp ht with e2 | ht2
   ·subst e2;exact⟨⟨dd,n,sl,g1⟩,lu I tb⟩
   ·exact q2 t ht2
theorem yb (ts:List (KN×List Int×KN×KM)):∀ acc,ts.foldl (λacc t=>storedH acc t.2.1 t.2.2.1 t.2.2.2) acc=(ts.map (·.2)).foldl (λacc k=>storedH acc k.1 k.2.1 k.2.2) acc:=by
 induction ts with
 | nil=>intro acc; rfl
 | cons t ts ih=>intro acc; exact ih _
def CN:bE:=λds S k=>match ds with
 | [.ref a]=>(∃ kvs ep,S a=some (.gen (.dT kvs ep))/\(kvs.map λp=>qE p.1).Nodup/\∀ p,S p=none->∀ ep',k (.ref p) (put S p (.gen (.dT kvs ep'))))\/
   ∃ kvs,S a=some (.lst (eU kvs))/\∀ p,S p=none->∀ ep',k (.ref p) (put S p (.gen (.dT (gN [] kvs) ep')))
 | _=>False
theorem Fu {X:Cx} {n:Nat} (hr:cv n X.A):bP X (.type "dict") (nX X.K CN):=by
 intro K2 s σ H xs us Q I rs h;obtain⟨ds,S,k,i,hS,r,m⟩:=h;unfold CN at r
 split at r
 ·rename_i a
  obtain⟨v,rfl,j⟩:=cf i;have ex:=aR.mp j;subst ex;obtain⟨u,rfl,ru⟩:=pB rs;cases (show u=Value.ref a from ru)
  have hn:=I.hok.fresh (JX s.heap.objs.size);have hb:(s.heap.objs.size == sysModules)=false:=beq_eq_false_iff_ne.mpr (Ne.symm (J3 I.big));have hun:=hr.un;rcases r with ⟨kvs,ep,g1,nd,r⟩ | ⟨kvs,g1,r⟩
  ·obtain⟨ys,e1,r1⟩:=hS.dT g1;obtain⟨hd,z,ndk,g⟩:=dj I e1;have hash:(ys.map λy=>qE y.1)=kvs.map λp=>qE p.1:=by
    clear e1 z ndk g nd g1 r
    induction r1 with
    | nil=>rfl
    | cons h t ih=>exact congr (congrArg List.cons (congrArg qE h.1.symm)) ih
   refine oS hd g (λe he=>?_) ?_ (by simp; omega) λh' ep' g' kk=>?_
   ·simp only [JY] at he;obtain⟨y,hy,rfl⟩:=he;have dd:=qC I e1 r1;obtain⟨_,_,_,_,_,_,_,al,_⟩:=dd;obtain⟨q,its,n',q1,q2,_⟩:=al y hy;exact⟨y.2.1,q,rfl,q1,q2⟩
   ·show((ys.map eT).map (·.hash)).Nodup
    rw [Kq,show((λx:K0=>x.hash) ∘ eT)=λy:List Int×KN×KM=>qE y.1 from rfl,hash]
    exact nd
   ·have new:mW s.heap.objs.size ys ep' h':=⟨hb,z,ndk,g'⟩;refine⟨.ref s.heap.objs.size,_,I.laid (o:=.ext (mW s.heap.objs.size ys ep')) (t':=s.toks) kk (JX _) (m8 new),rfl,?_⟩;exact m _ _ _ _ (r _ (hS.free hn) ep') (Kp.new hn) (hS.newG hn ⟨ys,bo,r1.kp (Kp.new hn)⟩) (aR.mpr rfl)
  ·obtain⟨vs,hl,jl⟩:=hS.lst g1;obtain⟨z,its,c,rv,gl⟩:=(show dy X.prog X.w H s.heap a (.lst vs) from I.hok a _ hl)
   obtain⟨ts,rfl,q1,q2⟩:=qN I jl rv;have hz:ts.length<=sizeLine:=by
    have:=rv.length;rw [JZ] at this;omega
   refine pT (by omega) hr.hd I.big ts gl q2 hz λh' tk kk dd=>?_
   rw [yb] at dd;have z':((ts.map (·.2)).foldl (λacc k=>storedH acc k.1 k.2.1 k.2.2) []).length<=sizeLine:=by have:=mM (ts.map (·.2)) []; rw [JZ,List.length_nil] at this; omega
   obtain⟨ep',new⟩:=u5 hb z' dd;refine⟨.ref s.heap.objs.size,_,I.laid (o:=.ext (mW s.heap.objs.size _ ep')) (t':=tk) kk (JX _) (m8 new),rfl,?_⟩;exact m _ _ _ _ (r _ (hS.free hn) ep') (Kp.new hn) (hS.newG hn ⟨_,bo,(q1.merge .nil).kp (Kp.new hn)⟩) (aR.mpr rfl)
 ·exact r.elim
end DL
namespace L2
open PySem PySem.Spec PyProof.Rows
section
variable {X:Cx}
def G9 (X:Cx) (f:KM) (nm:Str) (r:List V->V->Hp->VK->Prop):Prop:=
 ∀ (K2:List (KN×K1)) (s:KL) (σ:St) (H:Hp) (xs:List V) (us:List KM) (d:V) (u:KM) (Q:VK),aE X K2 σ H s->aV xs us->aW d u->r xs d H Q->wpAny (model X.prog X.w) X.A (call f us [(nm,u)]) (EP X K2 σ Q) X.xe s
theorem xz {x nm:Str} {p pos kp:Pos} {e ed:KP} {es:List KP} {t:TA} {id:KZ} {td:TE} {r:List V->V->Hp->VK->Prop} (hc:G9 X (.builtin id) nm r) (hg:Gl X x) (hm:X.mg x=none) (hv:bootBuiltins x=some (.builtin id)) (ha:PA X (e::es) t) (hd:PE X ed td) (hn:x≠"__name__":=by decide) (hdb:(x == ("__debug__":Str))=false:=by decide)
  (he:backTo pos (starEach (e::es) X.env)=(false,eval e X.env)::backTo pos (starEach es X.env):=by rfl) (hpl:(backTo pos (starEach (e::es) X.env)).any (·.1)=false:=by rfl):
  PE X (.Call (.Name x p) (e::es) [⟨some nm,ed,kp⟩] pos) (fun σ H Q=>t σ H λxs H1=>td σ H1 λd H2=>r xs d H2 Q):=by
 intro K2 s σ H Q I h;refine wpAny_Call_Name_kw (iI I hg hm hv ?_ hn hdb);refine callWith_kw (bc (ha pos K2 s σ H _ I h) λus s1 ⟨vs,H1,I1,r1,q1⟩=>kws_cons (bc (hd K2 s1 σ H1 _ I1 q1) λu s2 ⟨d,H2,I2,r2,q2⟩=>kws_nil ?_)) he hpl
 exact hc K2 s2 σ H2 vs us d u Q I2 r1 r2 q2
end
end L2
namespace DL
open PySem PySem.Spec PyProof.Rows L2
def GE:D2:=λd e S k=>match d,e with
 | .ref a,.ref c=>∃ xs ys b,S a=some (.lst xs)/\S c=some (.lst ys)/\((xs.length=ys.length/\gF (g7 7) xs ys=some b)\/(xs.length≠ys.length/\b=false))/\k (.bl b) S
 | d,e=>∃ b,g7 8 d e=some b/\k (.bl b) S
theorem y7 {X:Cx} {K2:List (KN×K1)} {σ:L2.St} {H:Hp} {s:KL} {S:DH} {a c:KN} {xs ys:List D} (I:aE X K2 σ H s) (hS:Hs X.K H S) (h1:S a=some (.lst xs)) (h2:S c=some (.lst ys)) (hl:xs.length≠ys.length) (A:KR) (hu:A.units < cLine):
  SeqAt.RcAt A s (.ref a) (.ref c) false:=by
 obtain⟨v1,g1,j1⟩:=hS.lst h1;obtain⟨v2,g2,j2⟩:=hS.lst h2;obtain⟨u1,r1,p1,_⟩:=I.list (eH.of g1);obtain⟨u2,r2,p2,_⟩:=I.list (eH.of g2);refine SeqAt.RcAt.lists_lengths p1.isList p2.isList ?_ hu;have e1:=j1.length.trans r1.length;have e2:=j2.length.trans r2.length;simp only [J1,bne_iff_ne,ne_eq];omega
theorem yV {X:Cx} {n:Nat} (hr:cv n X.A):cS X (compareOp .Eq) (fm X.K GE):=by
 intro K2 s σ H x y v u Q I rx ry h;obtain⟨d,e,S,k,i1,i2,hS,r,m⟩:=h;have hu:=hr.units;unfold GE at r
 split at r
 ·obtain⟨xs,ys,b,h1,h2,h3,w⟩:=r;rcases h3 with ⟨h3,h4⟩ | ⟨h3,rfl⟩
  ·exact qB hr K2 s σ H x y v u Q I rx ry ⟨_,_,S,k,i1,i2,hS,⟨xs,ys,b,h1,h2,h3,h4,w⟩,m⟩
  ·have e1:=aR.mp i1;have e2:=aR.mp i2;subst e1 e2;cases rx;cases ry;exact(y7 I hS h1 h2 h3 X.A (by omega)) X.prog X.w X.xe _ ⟨.bl false,H,I,rfl,eJ m hS w (aS.mpr rfl)⟩
 ·rename_i hn
  obtain⟨b,h1,w⟩:=r;refine qB hr K2 s σ H x y v u Q I rx ry ⟨_,_,S,k,i1,i2,hS,?_,m⟩;unfold Eb
  split
  ·rename_i a c
   exact(hn a c rfl rfl).elim
  ·exact⟨b,h1,w⟩
def Ef:D2:=λd e S k=>match d,e with
 | .non,.tup _=>k (.bl true) S
 | .tup _,.non=>k (.bl true) S
 | d,e=>Fs d e S k
theorem Hj {X:Cx} {n:Nat} (hr:cv n X.A):cS X (compareOp .NotEq) (fm X.K Ef):=by
 intro K2 s σ H x y v u Q I rx ry h;obtain⟨d,e,S,k,i1,i2,hS,r,m⟩:=h;have hu:=hr.units;unfold Ef at r
 split at r
 ·obtain⟨a,vs,rfl,t,j⟩:=bw.mp i2;have e1:=b7.mp i1;subst e1;cases rx;cases ry;obtain⟨its,_,p,_⟩:=I.tuple t;exact SeqAt.RcNeAt.none_tuple p (by omega) X.prog X.w X.xe _ ⟨.bl true,H,I,rfl,eJ m hS r (aS.mpr rfl)⟩
 ·obtain⟨a,vs,rfl,t,j⟩:=bw.mp i1;have e1:=b7.mp i2;subst e1;cases rx;cases ry;obtain⟨its,_,p,_⟩:=I.tuple t;exact SeqAt.RcNeAt.tuple_none p (by omega) X.prog X.w X.xe _ ⟨.bl true,H,I,rfl,eJ m hS r (aS.mpr rfl)⟩
 ·exact uM hr K2 s σ H x y v u Q I rx ry ⟨_,_,S,k,i1,i2,hS,r,m⟩
end DL
namespace PySem
open Builtin DL
def HQ (A:KR) (s:KL) (ys:List (List Int×KN×KM)):List (List Int×KN×KM)->KY->Prop
 | [],r=>r=true
 | x::xs,r=>(atKey ys x.1=none/\r=false)\/∃ p e r',atKey ys x.1=some p/\SeqAt.EqAt A s x.2.2 p.2 e/\HQ A s ys xs r'/\r=(e && r')
section
variable {prog:KQ} {w:KS} {A:KR} {E:KM->KL->Prop}
theorem GO {nm:KZ} {a b:KN} {s:KL} {xs ys:List (List Int×KN×KM)} {ep ep':Nat} {r:KY} {Q:KY->KL->Prop} (ha:(a == sysModules)=false) (hb:(b == sysModules)=false) (ga:s.heap.get? a=some (nP (xs.map eT).toArray ep)) (gb:s.heap.get? b=some (nP (ys.map eT).toArray ep'))
  (ka:∀ x∈xs,(tupleKind (intKind prog w)).is s.heap x.1 x.2.1) (kb:∀ x∈ys,(tupleKind (intKind prog w)).is s.heap x.1 x.2.1) (nb:(ys.map (·.1)).Nodup) (hu:(tupleKind (intKind prog w)).room A) (len:xs.length=ys.length) (hit:HQ A s ys xs r) (h:Q r s):
  wpAny (model prog w) A (Builtin.Dict.samePairs nm a b) Q E s:=by
 have na:¬ (a == sysModules)=true:=by rw [ha]; decide
 have nb':¬ (b == sysModules)=true:=by rw [hb]; decide
 unfold Builtin.Dict.samePairs Builtin.Dict.showsAll;rw [if_neg na,if_neg nb'];refine gt (JU (gt (JU (gt (Kx ga rfl ?_)))));dsimp only;refine gt (Kx gb rfl ?_);have sz:(xs.map eT).toArray.size=(ys.map eT).toArray.size:=by simp [len]
 rw [if_neg (by rw [sz]; simp)]
 refine gt (wpAny_dictEpoch ga rfl (gt ?_));rw [Std.Legacy.Range.forIn_eq_forIn_range'];have sz2:(xs.map eT).toArray.size=xs.length:=by simp
 simp only [Std.Legacy.Range.size,Nat.sub_zero,Nat.add_sub_cancel,Nat.div_one,sz2];refine wpAny_forIn_list _ (λa_ q s'=>s'=s/\q=(none,())/\∃ pre suf,xs=pre++suf/\a_=List.range' pre.length suf.length/\HQ A s ys suf r) _ ?_ ?_ _ _ ⟨rfl,rfl,[],xs,rfl,rfl,hit⟩
 ·rintro i a_ q s' ⟨rfl,rfl,pre,suf,ex,er,ht⟩;cases suf with
  | nil=>cases er
  | cons x suf=>
   rw [J9,List.range'_succ] at er;injection er with e1 e2
   subst e1;have gx:(xs.map eT).toArray[pre.length]?=some (eT x):=by simp [ex]
   refine gt (Kx ga rfl ?_);rw [gx];have mx:x∈xs:=by rw [ex]; simp
   refine gt (Kf (gt (wpAny_dictFind_heap (knd:=tupleKind (intKind prog w)) (k:=x.1) (a:=x.2.1) (xs:=ys) hu (ka x mx) gb rfl rfl kb nb (λno=>?_) (λj p hj=>?_))))
   ·rcases ht with ⟨_,er⟩ | ⟨p,e,r',hp,_⟩
    ·subst er;exact JU (JU (JU h))
    ·rw [atKey_none_of_get no] at hp;cases hp
   ·rcases ht with ⟨hn,_⟩ | ⟨p',e,r',hp,he,ht',er⟩
    ·rw [atKey_of_get nb hj] at hn;cases hn
    ·rw [atKey_of_get nb hj] at hp;cases hp;have gy:(ys.map eT).toArray[j]?=some (eT (x.1,p)):=by simp [hj]
     refine gt (Kx gb rfl ?_);rw [gy];refine Kf (he prog w _ _ ?_);cases e with
     | false=>
      rw [Bool.false_and] at er;subst er;exact JU (JU h)
     | true=>
      rw [Bool.true_and] at er;subst er;refine gt (wpAny_dictEpoch ga rfl ?_);rw [if_neg (by simp)]
      exact JU ⟨rfl,rfl,pre++[x],suf,by rw [ex]; simp,by simp [e2],ht'⟩
 ·rintro q s' ⟨rfl,rfl,pre,suf,ex,er,ht⟩;cases suf with
  | cons x suf=>rw [J9,List.range'_succ] at er; cases er
  | nil=>
   have ht:r=true:=ht;subst ht;exact JU h
end
end PySem
namespace DL
open PySem PySem.Spec PyProof.Rows L2
def Bj (kvs':List (List Int×D)):List (List Int×D)->KY->Prop
 | [],r=>r=true
 | p::ps,r=>(eQ kvs' p.1=none/\r=false)\/∃ d e r',eQ kvs' p.1=some d/\g7 6 p.2 d=some e/\Bj kvs' ps r'/\r=(e && r')
section
variable {X:Cx} {K2:List (KN×K1)} {σ:L2.St} {H:Hp} {s:KL}
theorem zj (I:aE X K2 σ H s) {A:KR} (hu:A.units+6 < cLine) {kvs':List (List Int×D)} {ys:List (List Int×KN×KM)} (r2:li X.K H kvs' ys):∀ {kvs:List (List Int×D)} {xs:List (List Int×KN×KM)} {r:KY},li X.K H kvs xs->Bj kvs' kvs r->HQ A s ys xs r
 | _,_,_,.nil,h=>h
 | p::ps,q::qs,r,.cons c t,h=>by
  obtain⟨e1,_,v,rv,iv⟩:=c;rcases h with ⟨hn,er⟩ | ⟨d,e,r',hd,he,ht,er⟩
  ·rcases r2.get p.1 with ⟨_,g⟩ | ⟨_,_,_,_,g,_⟩
   ·exact .inl ⟨by rw [<- e1]; exact g,er⟩
   ·rw [hn] at g;cases g
  ·rcases r2.get p.1 with ⟨g,_⟩ | ⟨d',b,u,v2,g,hp,rv2,iv2⟩
   ·rw [hd] at g;cases g
   ·rw [hd] at g;cases g;exact .inr ⟨(b,u),e,r',by rw [<- e1]; exact hp,(kO I 6 A p.2 d v v2 q.2.2 u e hu he iv iv2 rv rv2).1,zj I hu r2 t ht,er⟩
end
end DL
namespace PySem
open Builtin DL
section
variable {prog:KQ} {w:KS} {A:KR} {E:KM->KL->Prop}
theorem Gy {a b:KN} {s:KL} {r:KY} {Q:KM->KL->Prop} (T1:s.TypeIs (.ref a) "dict") (T2:s.TypeIs (.ref b) "dict") (hu:A.units < cLine) (sp:∀ (Q':KY->KL->Prop),Q' r s->wpAny (model prog w) A.in1 (Builtin.Dict.samePairs "dict.__eq__" a b) Q' E s) (h:Q (.bool r) s):
  wpAny (model prog w) A (compareOp .Eq (.ref a) (.ref b)) Q E s:=by
 refine wpAny_richCompare_same_room (op:=.Eq) T1 T2 F.slot_dict_eq (Ku F.slot_dict_eq T1 F.entry_dict_eq ?_ (F.args_dict_eq_2 _ _)) hu;refine gt (m:=Builtin.Dict.dictSlotArgs "__eq__" ⟨[.ref a,.ref b],[]⟩) ?_
 unfold Builtin.Dict.dictSlotArgs;refine gt (wpAny_notOrdered_dict T1 (JU (gt (wpAny_isInstance (T:="dict") T2 F.sub_dict_dict ?_))))
 rw [if_neg (by decide)]
 refine gt (JU (gt (JU (gt (sp _ ?_)))));exact JU ⟨_,rfl,(by intro z; cases z),by cases r <;> exact h⟩
theorem Ee {nm:KZ} {a b:KN} {s:KL} {es es':KW K0} {ep ep':Nat} {Q:KY->KL->Prop} (ha:(a == sysModules)=false) (hb:(b == sysModules)=false) (ga:s.heap.get? a=some (nP es ep)) (gb:s.heap.get? b=some (nP es' ep')) (n:es.size≠es'.size) (h:Q false s):
  wpAny (model prog w) A (Builtin.Dict.samePairs nm a b) Q E s:=by
 have na:¬ (a == sysModules)=true:=by rw [ha]; decide
 have nb':¬ (b == sysModules)=true:=by rw [hb]; decide
 unfold Builtin.Dict.samePairs Builtin.Dict.showsAll;rw [if_neg na,if_neg nb'];refine gt (JU (gt (JU (gt (Kx ga rfl ?_)))));dsimp only;refine gt (Kx gb rfl ?_);rw [if_pos (by simpa using n)]
 exact gt (wpAny_rule (JU h))
end
end PySem
namespace DL
open PySem PySem.Spec PyProof.Rows L2
theorem vT {p q:KQ} {u v:KS}:∀ {k:List Int} {l:List KM},PySem.ItemsAre (intKind p u) k l->PySem.ItemsAre (intKind q v) k l:=by
 intro k l h
 induction h with
 | nil=>exact .nil
 | cons a _ ih=>exact .cons a ih
def Io (kvs kvs':List (List Int×D)) (r:KY):Prop:=(kvs.length≠kvs'.length/\r=false)\/(kvs.length=kvs'.length/\Bj kvs' kvs r)
section
variable {X:Cx} {K2:List (KN×K1)} {σ:L2.St} {H:Hp} {s:KL}
theorem FR (I:aE X K2 σ H s) {S:DH} (hS:Hs X.K H S) {a b:KN} {kvs kvs':List (List Int×D)} {ep ep':Nat} {r:KY} {A:KR} (hu:A.units+7 < cLine) (g1:S a=some (.gen (.dT kvs ep))) (g2:S b=some (.gen (.dT kvs' ep'))) (h:Io kvs kvs' r) {nm:KZ} {E:KM->KL->Prop} {prog:KQ} {w:KS}:
  ∀ (Q':KY->KL->Prop),Q' r s->wpAny (model prog w) A.in1 (Builtin.Dict.samePairs nm a b) Q' E s:=λQ' hq=>by
 obtain⟨xs,w1,r1⟩:=hS.dT g1;obtain⟨ys,w2,r2⟩:=hS.dT g2;obtain⟨hd1,_,n1,t1⟩:=dj I w1;obtain⟨hd2,_,n2,t2⟩:=dj I w2;have l1:=r1.length;have l2:=r2.length;rcases h with ⟨hl,rfl⟩ | ⟨hl,ht⟩
 ·exact Ee hd1 hd2 t1 t2 (by simp; omega) hq
 ·obtain⟨_,_,_,_,_,_,_,k1,_⟩:=qC I w1 r1;obtain⟨_,_,_,_,_,_,_,k2,_⟩:=qC I w2 r2;have ct:∀ k a,(tupleKind (intKind X.prog X.w)).is s.heap k a->(tupleKind (intKind prog w)).is s.heap k a:=λk a h=>by
   obtain⟨o,its,n,h1,h2,h3,h4⟩:=h;exact⟨o,its,n,h1,h2,h3,vT h4⟩
  exact GO hd1 hd2 t1 t2 (λx hx=>ct _ _ (k1 x hx)) (λx hx=>ct _ _ (k2 x hx)) n2 (tupleKind_room_in1 (by omega)) (by omega) (zj I (by show A.units+1+6 < cLine; omega) r2 r1 ht) hq
theorem Ga (I:aE X K2 σ H s) {S:DH} (hS:Hs X.K H S) {a b:KN} {kvs kvs':List (List Int×D)} {ep ep':Nat} {r:KY} {A:KR} (hu:A.units+7 < cLine) (g1:S a=some (.gen (.dT kvs ep))) (g2:S b=some (.gen (.dT kvs' ep'))) (h:Io kvs kvs' r):SeqAt.RcAt A s (.ref a) (.ref b) r:=λprog w E Q hq=>by
 obtain⟨xs,w1,r1⟩:=hS.dT g1;obtain⟨ys,w2,r2⟩:=hS.dT g2;exact Gy ⟨_,(dj I w1).2.2.2,rfl⟩ ⟨_,(dj I w2).2.2.2,rfl⟩ (by omega) (FR I hS hu g1 g2 h) hq
def JH (S:DH) (x y:D):Prop:=∃ a c kvs ep kvs' ep',x=.ref a/\y=.ref c/\a≠c/\S a=some (.gen (.dT kvs ep))/\S c=some (.gen (.dT kvs' ep'))/\Io kvs kvs' true
end
end DL
namespace PySem
open Builtin DL
abbrev Sx:=Nat×Tok
end PySem
namespace ST
open PySem PySem.SetTable
def JE (mask:Nat) (p:Probe):Probe:=
 if p.more > 0 then {p with j:=p.j+1,more:=p.more - 1} else {p with j:=(leap mask p.i p.perturb).1,more:=runEnd mask (leap mask p.i p.perturb).1 - (leap mask p.i p.perturb).1,i:=(leap mask p.i p.perturb).1,perturb:=(leap mask p.i p.perturb).2}
def Jw (mask i pt:Nat):Probe:={j:=i,more:=runEnd mask i - i,i:=i,perturb:=pt,dummy:=none}
def sq (mask:Nat) (h:Int):Nat->Probe
 | 0=>Jw mask (bits h % (mask+1)) (bits h)
 | n+1=>JE mask (sq mask h n)
def lp (mask:Nat) (h:Int):Nat->Nat×Nat
 | 0=>(bits h % (mask+1),bits h)
 | n+1=>leap mask (lp mask h n).1 (lp mask h n).2
def Jt (mask:Nat):Prop:=mask=7\/mask=31\/mask=127
def JP (xs:KW Nat):Prop:=∀ i j:Nat,i < j->∀ a b:Nat,xs[i]?=some a->xs[j]?=some b->a < b
def On (t:SetTable) (j:Nat):Prop:=∃ i:Nat,t.place[i]?=some j
def Jy (t:SetTable) (h:Int) (j:Nat):Prop:=∃ n,(sq t.mask h n).j=j/\∀ m,m < n->On t (sq t.mask h m).j
structure TI (t:SetTable) (hs:List Int):Prop where
 dm:t.dummies=#[]
 ris:JP t.place
 sz:t.place.size=hs.length
 le:∀ j,On t j->j < t.mask+1
 msk:Jt t.mask
 way:∀ q∈t.place.toList.zip hs,Jy t q.2 q.1
def JC (t:SetTable):Prop:=t.place.size*5 < t.mask*3
end ST
namespace ST
open PySem PySem.SetTable PySem.Spec
section
variable {prog:KQ} {w:KS} {K:Type} [DecidableEq K] {knd:KeyKind prog w K} {A:KR} {E:KM->KL->Prop} {s:KL}
def ent (knd:KeyKind prog w K) (x:List K×KN):Int×KM:=(tupleKeyHash knd x.1,.ref x.2)
structure Ib (knd:KeyKind prog w K) (h:KT) (a:KN) (o:K1) (es:KW (Int×KM)) (ep:Nat) (t:SetTable) (xs:List (List K×KN)):Prop where
 get:h.get? a=some o
 ex:o.ExactSet
 data:o.data=.set es ep t
 ent:es.toList=xs.map (ent knd)
 is:∀ x∈xs,IsTupleKey knd h x.1 x.2
 ti:TI t (xs.map λx=>tupleKeyHash knd x.1)
 lax:JC t
end
end ST
namespace ST
open PySem PySem.SetTable PySem.Spec PyProof.Rows
def HG {α:Type} [DecidableEq α] (a:List α) (k:α):List α:=if k∈a then a else a++[k]
def dd {α:Type} [DecidableEq α] (l:List α):List α:=l.foldl HG []
section
variable {prog:KQ} {w:KS} {K:Type} [DecidableEq K] {knd:KeyKind prog w K} {A:KR} {R:Result->KL->Prop} {I:KN} {fp wr:List KN} {G:KW GenState->KW GenState->Prop} {n:Nat} {P:Nat->KM->Prop} {St:Nat->KL->Prop}
def Holds (knd:KeyKind prog w K) (h:KT) (S:KN) (V:KN->Prop) (l:List (List K)):Prop:=∃ o es ep t xs,Ib knd h S o es ep t xs/\xs.length=(dd l).length/\(∀ k,k∈xs.map (·.1)↔k∈dd l)/\∀ x∈xs,V x.2
end
end ST
namespace DL
open PySem PySem.Spec PyProof.Rows L2
theorem zz:bootBuiltins "range"=some (.type "range"):=by decide +kernel
inductive Gq (K:Fg) (n:Str) (st:KU) (f:KN) (cd:KM):Prop where
 | mk {oc kV doc pm ct:KM} {od an:KO KN} {osl:KW (KO KM)} (l:K.lookup f=some ⟨oc,od,.func (PySem.W.fnOf n n (eD st) (cN st) (aj st) .none kV doc pm an cd ct),osl⟩):Gq K n st f cd
structure DI (K:Fg) (n:Str) (st:KU) (f:KN) (cd:KM):Prop where
 a:PySem.W.nsIn K mainGlobals n=some (some (.ref f))
 x:Gq K n st f cd
 e:PySem.W.codeIn K cd n=true
 k:PySem.W.keepIn K (.ref f)=true
def Bd (n:Str) (st:KU) (ps:List Str):Prop:=∀ (kV doc pm:KM) (an:KO KN) (cdv ct:KM) (us:List KM),us.length=ps.length->bindArgs (PySem.W.fnOf n n (eD st) (cN st) (aj st) .none kV doc pm an cdv ct) ⟨us,[]⟩=pure (ps.zip us)
theorem lc {us:List KM} {n:Nat} (h:us.length=n+1):∃ u r,us=u::r/\r.length=n:=by
 cases us with
 | nil=>cases h
 | cons u r=>exact⟨u,r,rfl,Nat.succ.inj h⟩
theorem Jj {n a1:Str} {st:KU} (h:∀ (kV doc pm:KM) (an:KO KN) (cdv ct u1:KM),bindArgs (PySem.W.fnOf n n (eD st) (cN st) (aj st) .none kV doc pm an cdv ct) ⟨[u1],[]⟩=pure (List.zip [a1] [u1])):Bd n st [a1]:=λ_ _ _ _ _ _ us hl=>by obtain⟨u1,us,rfl,h1⟩:=lc hl; cases KJ.mp h1; exact h _ _ _ _ _ _ u1
theorem JL {n a1 a2:Str} {st:KU} (h:∀ (kV doc pm:KM) (an:KO KN) (cdv ct u1 u2:KM),bindArgs (PySem.W.fnOf n n (eD st) (cN st) (aj st) .none kV doc pm an cdv ct) ⟨[u1,u2],[]⟩=pure (List.zip [a1,a2] [u1,u2])):Bd n st [a1,a2]:=λ_ _ _ _ _ _ us hl=>by obtain⟨u1,us,rfl,h1⟩:=lc hl; obtain⟨u2,us,rfl,h2⟩:=lc h1; cases KJ.mp h2; exact h _ _ _ _ _ _ u1 u2
theorem JS {n a1 a2 a3:Str} {st:KU} (h:∀ (kV doc pm:KM) (an:KO KN) (cdv ct u1 u2 u3:KM),bindArgs (PySem.W.fnOf n n (eD st) (cN st) (aj st) .none kV doc pm an cdv ct) ⟨[u1,u2,u3],[]⟩=pure (List.zip [a1,a2,a3] [u1,u2,u3])):Bd n st [a1,a2,a3]:=λ_ _ _ _ _ _ us hl=>by obtain⟨u1,us,rfl,h1⟩:=lc hl; obtain⟨u2,us,rfl,h2⟩:=lc h1; obtain⟨u3,us,rfl,h3⟩:=lc h2; cases KJ.mp h3; exact h _ _ _ _ _ _ u1 u2 u3
inductive Bs (P:KQ) (w:KS) (base:KT):Prop where
 | mk:Bs P w base
section
variable {P:KQ} {w:KS} {K:Fg} {mg:Str->KO KM} {base h:KT} {n:Str} {st:KU} {f:KN} {cd:KM} {ps:List Str} {k:Nat}
theorem DI.own {F:bE} (d:DI K n st f cd) (_:Bs P w base) (X:K.In h) (G:h.Ns mainGlobals mg) (ok:∀ fd,xP K n n st f fd->fd.code=cd->aQ P w K mg base b8 k f fd ps (ca K F))
  (hb:Bd n st ps:=by first | exact Jj λ_ _ _ _ _ _ _=>rfl | exact JL λ_ _ _ _ _ _ _ _=>rfl | exact JS λ_ _ _ _ _ _ _ _ _=>rfl | exact bd4 λ_ _ _ _ _ _ _ _ _ _=>rfl | exact bd5 λ_ _ _ _ _ _ _ _ _ _ _=>rfl | exact bd6 λ_ _ _ _ _ _ _ _ _ _ _ _=>rfl | exact bd7 λ_ _ _ _ _ _ _ _ _ _ _ _ _=>rfl):bf P w K mg base n k F:=by
 obtain⟨lk⟩:=d.x;have Fn:=Ay lk d.e d.k;exact bf.mk' Fn (ok _ Fn rfl) (PySem.W.mg_of X G d.a) (Fn.binds hb)
theorem DI.fn (d:DI K n st f cd) (hb:∀ (kV doc pm:KM) (an:KO KN) (ct v:KM),bindArgs (PySem.W.fnOf n n (eD st) (cN st) (aj st) .none kV doc pm an cd ct) ⟨[v],[]⟩=pure [(("script":Str),v)]:=by exact λ_ _ _ _ _ _=>rfl):∃ fd:FuncData,xP K n n st f fd/\fd.code=cd/\∀ (s:KL) (v:KM),BindsTo s fd ⟨[v],[]⟩ [("script",v)]:=by
 obtain⟨lk⟩:=d.x;exact⟨_,Ay lk d.e d.k,rfl,λs v=>.of_eq (hb _ _ _ _ _ v)⟩
end
end DL
namespace L2
open PySem PySem.Spec PyProof.Rows
inductive Bb (h:KT):KN->KN->Prop
 | one {a b:KN} {o:K1} {vs:KW KM}:h.get? a=some o->o.data=.fields vs->vs[2]?=some (.ref b)->Bb h a b
 | step {a b c:KN} {o:K1} {vs:KW KM}:h.get? a=some o->o.data=.fields vs->vs[2]?=some (.ref b)->Bb h b c->Bb h a c
end L2
namespace L2
open PySem PySem.Spec PyProof.Rows Builtin Builtin.Str
section
variable {prog:KQ} {w:KS} {A:KR} {E:KM->KL->Prop} {s:KL} {x y:Str} {t u:Tok} {Q:KM->KL->Prop}
theorem yh (hy:(y.length == 0)=false) (hsz:x.length<=sizeLine) (hsz2:(partsBetween x (occurrences x y 0 x.length (x.length+1)) y.length).length<=sizeLine)
  (hq:∀ l k,l.map (·.1)=Txt.split x y->Q (.ref s.heap.objs.size) {s with toks:=k,heap:=s.heap.push {cls:=.type "list",data:=.seq (strValues l).toArray}}):
  wpAny (model prog w) A (call (.builtin "str.split") [.str x t,.str y u]) Q E s:=by
 cases h1:(decide (x.length < y.length) || decide (strKind x < strKind y))
 ·cases hf:(occurrences x y 0 x.length (x.length+1)).isEmpty
  ·refine call_meets F.slot_str_split (typeIs_str _ _ _) F.entry_str_split (F.args_str_split_2 _ _) (meets_str_split_sep x y t u h1 hy hf hsz hsz2) ?_
   show wants Q E _ {s with toks:=_,heap:=s.heap.push {cls:=.type "list",data:=.seq (strsFrom s.toks (partsBetween x (occurrences x y 0 x.length (x.length+1)) y.length)).toArray}}
   rw [strsFrom_eq];exact hq (numbered s.toks _) _ ((numbered_texts _ _).trans ((if_neg (ne_true_of_eq_false h1)).trans (if_neg (ne_true_of_eq_false hf))).symm)
  ·exact call_meets F.slot_str_split (typeIs_str _ _ _) F.entry_str_split (F.args_str_split_2 _ _) (meets_str_split_not_found x y t u h1 hy hf)
    (hq [(x,t)] s.toks ((if_neg (ne_true_of_eq_false h1)).trans (if_pos hf)).symm)
 ·exact call_meets F.slot_str_split (typeIs_str _ _ _) F.entry_str_split (F.args_str_split_2 _ _) (meets_str_split_cannot_occur x y t u h1)
   (hq [(x,t)] s.toks (if_pos h1).symm)
theorem pY (hy:(y.length == 0)=false) (hsz:x.length<=sizeLine)
  (h:∀ ta tb tc k,Q (.ref s.heap.objs.size) {s with toks:=k,heap:=s.heap.push {cls:=.type "tuple",data:=.seq [.str (Txt.partition x y).1 ta,.str (Txt.partition x y).2.1 tb,.str (Txt.partition x y).2.2 tc].toArray}}):
  wpAny (model prog w) A (call (.builtin "str.partition") [.str x t,.str y u]) Q E s:=by
 refine call_meets F.slot_str_partition (typeIs_str _ _ _) F.entry_str_partition (F.args_str_partition_2 _ _) (meets_str_partition x y t u hy hsz) ?_;have h':=h;unfold Txt.partition at h'
 revert h'
 cases occurrences x y 0 x.length 1 with
 | nil=>intro h'; exact h' _ _ _ _
 | cons i r=>intro h'; exact h' _ _ _ _
theorem uj:∀ (l:List (Str×Tok)),aV ((l.map (·.1)).map V.str) (strValues l)
 | []=>.nil
 | p::l=>.cons ⟨p.2,rfl⟩ (uj l)
theorem ph:∀ {zs:List Str} {us:List KM},aV (zs.map V.str) us->∃ l:List (Str×Tok),us=strValues l/\l.map (·.1)=zs
 | [],_,.nil=>⟨[],rfl,rfl⟩
 | z::zs,_,.cons r h=>by
  obtain⟨t,rfl⟩:=r;obtain⟨l,rfl,e⟩:=ph h;exact⟨(z,t)::l,rfl,by rw [J8,e]⟩
end
end L2
namespace DL
open PySem PySem.Spec PyProof.Rows L2
abbrev DM:=Str->List D->DH->DK->Prop
def GN (K:Fg) (r:DM):V->List V->Hp->VK->Prop:=λx vs H Q=>∃ z ds S k,x=.str z/\IsDs K H ds vs/\Hs K H S/\r z ds S k/\∀ d' S' v H',k d' S'->Kp H H'->Hs K H' S'->bA K H' d' v->Q v H'
def ww (r:DM) (go:DE) (ga:DA):DE:=λL S k=>go L S λd S1=>match d with
 | .str x=>ga L S1 λds S2=>r x ds S2 k
 | _=>False
section
variable {X:Cx} {o e:KP} {es:List KP} {go:DE} {ga:DA} {r:DM} {name:Str} {id:KZ} {apos cpos:Pos}
theorem cF (slot:Slot "str" name id) (hty:typeOf (.builtin id)=pure (.type "method_descriptor")) (hm:Bu X id (GN X.K r)) (ho:EJ X o go) (ha:AJ X (e::es) ga)
  (hbase:attributeBase o name X.env (eval o X.env)=eval o X.env:=by rfl)
  (hfew:((backTo cpos (starEach (e::es) X.env)).all (λx=>!x.1) && (backToKw cpos (keywordEach [] X.env)).all (λx=>x.1.isSome)
   && decide ((e::es).length+([]:List Keyword).length+(if ([]:List Keyword).isEmpty then 0 else 1) < 30))=true:=by rfl)
  (hline:(apos.endLine == cpos.line)=true:=by rfl) (hs:starEach (e::es) X.env=(false,eval e X.env)::starEach es X.env:=by rfl) (hplain:(backTo cpos (starEach es X.env)).any (·.1)=false:=by rfl):
  EJ X (.Call (.Attribute o name apos) (e::es) [] cpos) (ww r go ga):=
 ⟨PE.imp (C5 PySem.F.plainAttrs_str slot hty hm ho.h ha.h hbase hfew hline hs hplain) fun σ H Q ⟨L,S,k,hL,hS,h,n⟩=>up.go hL hS h λd S1 v H1 h1 k1 hL1 hS1 i1=>by
  cases d with
  | str z=>
   have q1:=a7.mp i1;subst q1;exact⟨rfl,qT.go hL1 hS1 h1 λds S2 vs H2 h2 k2 hL2 hS2 i2=>⟨z,ds,S2,k,rfl,i2,hS2,h2,λd' S' v H' q k3 z1 z2=>n d' S' v H' q (k1.trans (k2.trans k3)) z1 z2⟩⟩
  | _=>exact(show False from h1).elim⟩
def Aa:DM:=λx ds S k=>match ds with
 | [.str y]=>(y.length == 0)=false/\x.length<=sizeLine/\(Builtin.Str.partsBetween x (Builtin.Str.occurrences x y 0 x.length (x.length+1)) y.length).length<=sizeLine/\(Txt.split x y).length<=sizeLine/\
   ∀ p,S p=none->k (.ref p) (put S p (.lst ((Txt.split x y).map .str)))
 | _=>False
theorem pK {K:Fg} {H:Hp}:∀ (l:List Str),IsDs K H (l.map D.str) (l.map V.str)
 | []=>by unfold IsDs; rfl
 | z::l=>bD.mpr ⟨_,_,rfl,a7.mpr rfl,pK l⟩
theorem oM {K:Fg} {H:Hp}:∀ {l:List Str} {vs:List V},IsDs K H (l.map D.str) vs->vs=l.map V.str
 | [],_,h=>by unfold IsDs at h; exact h
 | z::l,_,h=>by
  obtain⟨v,r,rfl,h1,h2⟩:=bD.mp h;rw [a7.mp h1,oM h2]
  rfl
theorem pF:Bu X "str.split" (GN X.K Aa):=by
 intro K2 s σ H x xs v us Q I rx rs h;obtain⟨z,ds,S,k,rfl,i,hS,r,n⟩:=h;unfold Aa at r
 split at r
 ·rename_i y
  obtain⟨hy,h1,h2,h3,w⟩:=r;obtain⟨v1,rfl,i1⟩:=cf i;have e1:=a7.mp i1;subst e1;obtain⟨t,rfl⟩:=rx;obtain⟨u,rfl,t2,rfl⟩:=rs.one;refine yh hy h1 h2 λl tk hl=>?_
  have hf:H s.heap.objs.size=none:=I.hok.fresh (JX _);have hv:=uj l;rw [hl] at hv;refine⟨.ref s.heap.objs.size,br H s.heap.objs.size (.lst ((Txt.split z y).map V.str)),I.laid (t':=tk) (λb u e=>pp _ e) (JX _) ?_,rfl,n _ _ _ _ (w _ (hS.free hf)) (Kp.new hf) (hS.newL hf (pK _)) (aR.mpr rfl)⟩
  exact⟨by rw [JZ]; exact h3,strValues l,0,hv,JV _ rfl⟩
 ·exact r.elim
def xn:DM:=λx ds S k=>match ds with
 | [.ref a]=>∃ zs:List Str,S a=some (.lst (zs.map .str))/\JoinOk x zs=true/\k (.str (Txt.join x zs)) S
 | _=>False
theorem iF:Bu X "str.join" (GN X.K xn):=by
 intro K2 s σ H x xs v us Q I rx rs h;obtain⟨z,ds,S,k,rfl,i,hS,r,n⟩:=h;unfold xn at r
 split at r
 ·rename_i a
  obtain⟨zs,ha,hj,w⟩:=r;obtain⟨v1,rfl,i1⟩:=cf i;have e1:=aR.mp i1;subst e1;obtain⟨t,rfl⟩:=rx;obtain⟨u,rfl,rfl⟩:=rs.one;obtain⟨ys,hH,j⟩:=hS.lst ha;have e2:=oM j;subst e2;obtain⟨_,its,m,r2,_,hl⟩:=I.lstM hH;obtain⟨l,rfl,e3⟩:=ph r2;exact PySem.SC.join ⟨_,hl,rfl,_,rfl⟩ e3 hj λt' tk=>⟨.str _,H,I.tok tk,⟨t',rfl⟩,eJ n hS w (a7.mpr rfl)⟩
 ·exact r.elim
def CH:DM:=λx ds S k=>match ds with
 | [.str y]=>(y.length == 0)=false/\x.length<=sizeLine/\k (.tup [.str (Txt.partition x y).1,.str (Txt.partition x y).2.1,.str (Txt.partition x y).2.2]) S
 | _=>False
theorem wB:Bu X "str.partition" (GN X.K CH):=by
 intro K2 s σ H x xs v us Q I rx rs h;obtain⟨z,ds,S,k,rfl,i,hS,r,n⟩:=h;unfold CH at r
 split at r
 ·rename_i y
  obtain⟨hy,h1,w⟩:=r;obtain⟨v1,rfl,i1⟩:=cf i;have e1:=a7.mp i1;subst e1;obtain⟨t,rfl⟩:=rx;obtain⟨u,rfl,t2,rfl⟩:=rs.one;refine pY hy h1 λta tb tc tk=>?_
  have hf:H s.heap.objs.size=none:=I.hok.fresh (JX _);have k2:Kp H (br H s.heap.objs.size (.tup [.str (Txt.partition z y).1,.str (Txt.partition z y).2.1,.str (Txt.partition z y).2.2])):=Kp.new hf;refine⟨.ref s.heap.objs.size,_,I.laid (t':=tk) (λb u e=>pp _ e) (JX _) (show dy X.prog X.w _ _ _ (.tup [.str (Txt.partition z y).1,.str (Txt.partition z y).2.1,.str (Txt.partition z y).2.2]) from⟨Kb rfl,_,.cons ⟨ta,rfl⟩ (.cons ⟨tb,rfl⟩ (.cons ⟨tc,rfl⟩ .nil)),IsTup.new _ _⟩),rfl,n _ _ _ _ w k2 (hS.new hf) (bw.mpr ⟨_,_,rfl,gZ.of bo,pK [_,_,_]⟩)⟩
 ·exact r.elim
def sR:DM:=λx ds S k=>match ds with
 | [.str y]=>k (.bl (Txt.startswith x y)) S
 | _=>False
theorem tJ:Bu X "str.startswith" (GN X.K sR):=by
 intro K2 s σ H x xs v us Q I rx rs h;obtain⟨z,ds,S,k,rfl,i,hS,r,n⟩:=h;unfold sR at r
 split at r
 ·rename_i y
  obtain⟨v1,rfl,i1⟩:=cf i;have e1:=a7.mp i1;subst e1;obtain⟨t,rfl⟩:=rx;obtain⟨u,rfl,t2,rfl⟩:=rs.one;exact PySem.SC.startswith ⟨.bl _,H,I,rfl,eJ n hS r (aS.mpr rfl)⟩
 ·exact r.elim
end
end DL
namespace L2
open PySem PySem.Spec PyProof.Rows
section
variable {X:Cx}
def Ig:V->KO Int->KO Int->Hp->VK->Prop:=λx lo hi H Q=>∃ z,x=.str z/\z.length<=sizeLine/\Q (.str (Txt.slice z lo hi)) H
theorem wt {v:KM} {o:KO Int} (h:IsPart v o):∃ p:KO (Int×Tok),v=partValue p/\p.map (·.1)=o:=by
 cases h with
 | none=>exact⟨none,rfl,rfl⟩
 | int i t=>exact⟨some (i,t),rfl,rfl⟩
theorem Ff:Ai X Ig:=by
 intro K2 s σ H x v vl vu lo hi sl Q I rx hs pl pu h;obtain⟨z,rfl,hz,q⟩:=h;obtain⟨t,rfl⟩:=rx;obtain⟨l,rfl,el⟩:=wt pl;obtain⟨u,rfl,eu⟩:=wt pu;subst el eu;refine⟨"str",_,F.slot_str_getitem.lookup,typeIs_str _ _ _,wpAny_getItem_str_slice (l:=l) (u:=u) (st:=none) hs rfl ?_⟩
 exact post_val_or_str ⟨Kn (Txt.slice_le z _ _) hz,λt' k=>⟨.str _,H,I.tok k,⟨t',rfl⟩,q⟩⟩
end
end L2
namespace DL
open PySem PySem.Spec PyProof.Rows L2
section
variable {X:Cx}
def Fm:D2:=λd e S k=>match d,e with
 | .str x,.int i=>∃ c,x.length<=sizeLine/\L2.atI x.cps.toList i=some c/\k (.str ⟨#[c]⟩) S
 | d,e=>EI d e S k
theorem aP:wz X (fm X.K Fm):=by
 intro value slice K2 s σ H x y v u Q I rx ry h hs;obtain⟨d,e,S,k,i1,i2,hS,r,n⟩:=h;unfold Fm at r
 split at r
 ·obtain⟨c,h1,h2,w⟩:=r;have e1:=a7.mp i1;have e2:=isInt.mp i2;subst e1 e2;exact Du value slice K2 s σ H _ _ v u Q I rx ry ⟨_,_,c,rfl,rfl,h1,h2,eJ n hS w (a7.mpr rfl)⟩ hs
 ·exact cy value slice K2 s σ H x y v u Q I rx ry ⟨d,e,S,k,i1,i2,hS,r,n⟩ hs
def GB (g:DE) (tl th:Bf):DE:=λL S k=>g L S λx S1=>tl L S1 λlo S2=>th L S2 λhi S3=>match x with
 | .str x=>x.length<=sizeLine/\k (.str (Txt.slice x lo hi)) S3
 | _=>False
theorem sO {e:KP} {g:DE} {lo hi:KO KP} {tl th:Bf} {p2 pos:Pos} (he:EJ X e g) (hl:OJ X lo tl) (hu:OJ X hi th):EJ X (.Subscript e (.Slice lo hi none p2) pos) (GB g tl th):=
 ⟨PE.imp (pP Ff he.h hl.h hu.h) fun σ H Q ⟨L,S,k,hL,hS,h,n⟩=>up.go hL hS h λd S1 v H1 h1 k1 hL1 hS1 i1=>by
  refine⟨L,S1,_,hL1,hS1,h1,λlo' S2 H2 h2 k2 hS2=>⟨L,S2,_,hL1.kp k2,hS2,h2,λhi' S3 H3 h3 k3 hS3=>?_⟩⟩
  cases d with
  | str x=>
   have e1:=a7.mp i1;subst e1;exact⟨x,rfl,h3.1,n _ _ _ _ h3.2 (k1.trans (k2.trans k3)) hS3 (a7.mpr rfl)⟩
  | _=>exact(show False from h3).elim⟩
def Fp (neg:KY):D2:=λd e S k=>match d,e with
 | .str y,.str x=>k (.bl (if neg then !Txt.contains x y else Txt.contains x y)) S
 | _,_=>False
theorem Ge:cS X (compareOp .In) (fm X.K (Fp false)):=by
 intro K2 s σ H x y v u Q I rx ry h;obtain⟨d,e,S,k,i1,i2,hS,r,n⟩:=h;unfold Fp at r
 split at r
 ·have e1:=a7.mp i1;have e2:=a7.mp i2;subst e1 e2;obtain⟨t1,rfl⟩:=rx;obtain⟨t2,rfl⟩:=ry;exact P.in_str ⟨.bl _,H,I,rfl,eJ n hS r (aS.mpr rfl)⟩
 ·exact r.elim
def C7:bE:=λds S k=>match ds with
 | [.str x]=>x.length<=sizeLine/\k (.int (x.length:Nat)) S
 | ds=>yZ ds S k
theorem jM:bP X (.builtin "len") (nX X.K C7):=by
 intro K2 s σ H xs us Q I rs h;obtain⟨ds,S,k,i,hS,r,n⟩:=h;unfold C7 at r
 split at r
 ·obtain⟨x,rfl,i1⟩:=cf i;have e1:=a7.mp i1;subst e1;obtain⟨u,rfl,t,rfl⟩:=rs.one;have:=nF;exact P.len_str (by have:=r.1; omega) ⟨.int _,H,I.tok _,⟨_,rfl⟩,eJ n hS r.2 (isInt.mpr rfl)⟩
 ·exact cM K2 s σ H xs us Q I rs ⟨_,S,k,i,hS,r,n⟩
def CU:bE:=λds S k=>match ds with
 | [.str x]=>∃ m,PySem.intText? x=some m/\x.length<=640/\k (.int m) S
 | ds=>En ds S k
theorem vG:bP X (.type "int") (nX X.K CU):=by
 intro K2 s σ H xs us Q I rs h;obtain⟨ds,S,k,i,hS,r,n⟩:=h;unfold CU at r
 split at r
 ·obtain⟨x,rfl,i1⟩:=cf i;have e1:=a7.mp i1;subst e1;obtain⟨u,rfl,t,rfl⟩:=rs.one;obtain⟨m,hm,hl,w⟩:=r;exact PySem.W.KIN.call_text hm hl ⟨.int m,H,I.tok _,⟨_,rfl⟩,eJ n hS w (isInt.mpr rfl)⟩
 ·exact yu K2 s σ H xs us Q I rs ⟨_,S,k,i,hS,r,n⟩
def Ao:D2:=λd e S k=>match d,e with
 | .str x,.int j=>MulOk x j/\k (.str (Txt.mul x j)) S
 | d,e=>Gp d e S k
theorem Dz:cS X (binaryOp .Mult) (fm X.K Ao):=by
 intro K2 s σ H x y v u Q I rx ry h;obtain⟨d,e,S,k,i1,i2,hS,r,n⟩:=h;unfold Ao at r
 split at r
 ·have e1:=a7.mp i1;have e2:=isInt.mp i2;subst e1 e2;obtain⟨t1,rfl⟩:=rx;obtain⟨t2,rfl⟩:=ry;exact SB.mul r.1 λt' tk=>⟨.str _,H,I.tok tk,⟨t',rfl⟩,eJ n hS r.2 (a7.mpr rfl)⟩
 ·exact dZ K2 s σ H x y v u Q I rx ry ⟨d,e,S,k,i1,i2,hS,r,n⟩
end
end DL
namespace L2
open PySem PySem.Spec PyProof.Rows
def G1 (x:Str):It:=⟨λi _=>i < x.cps.size,λi H v H'=>H'=H/\∃ c,x.cps[i]?=some c/\v=.str ⟨#[c]⟩,λi _=>x.cps.size<=i⟩
theorem xY {P:KQ} {w:KS} {K:PySem.W.Frag} {tg:KP} (x:Str) (t:Tok) (it:KN):qo P w K tg (G1 x) [it] it (λi h=>h.IsStrIter it "str_ascii_iterator" x t i) where
 mem:=by simp
 obj:=λi h st b hb=>by
  have e:b=it:=by simpa using hb
  subst e;obtain⟨o,e,c,d⟩:=st;exact⟨o,e,λv z=>by rw [d] at z; cases z⟩
 keep:=λi h h' st k=>let ⟨o,ho,r⟩:=st; ⟨o,k it (by simp) o ho,r⟩
 item:=by
  intro X hP hw hK hc i K2 s σ H E I hf st hg;subst hP hw hK;obtain⟨f0,f1,f2,f3,f4,f5⟩:=hf it (by simp)
  have hg:i < x.cps.size:=hg;refine wpAny_pyNext_ascii_item st (c:=x.cps[i]) (by simp [hg]) λh' st' sb=>?_
  have I1:aE X K2 σ H {s with heap:=h',toks:=s.toks+1}:=I.turned (t':=s.toks+1) (λb o hb e=>(sb.2 b hb).trans e) f0 f1 f3 f4 f5
  obtain⟨o,e,c,d⟩:=id st';exact⟨_,rfl,o8 (s:={s with heap:=h',toks:=s.toks+1}) e c d (by decide) ⟨.str ⟨#[x.cps[i]]⟩,H,I1,⟨_,rfl⟩,⟨rfl,x.cps[i],by simp [hg],rfl⟩,st',λb hb=>(hf b hb).1⟩⟩
 done:=by
  intro X hP hw hK hc i K2 s σ H E I hf st hg;subst hP hw hK;obtain⟨f0,f1,f2,f3,f4,f5⟩:=hf it (by simp)
  have hg:x.cps.size<=i:=hg;exact wpAny_pyNext_ascii_end (I.ok.hd hc) st (by simp [hg]) λh' eb=>⟨rfl,I.turned (t':=s.toks) (λb o hb e=>eb b o hb e) f0 f1 f3 f4 f5⟩
 self:=λ_ _ _ _ _ st h=>wpAny_pyIter_striter_ascii st h
theorem xW {P:KQ} {w:KS} {K:PySem.W.Frag} {tg:KP} (x:Str) (t:Tok) (it:KN):qo P w K tg (G1 x) [it] it (λi h=>h.IsStrIter it "str_iterator" x t i) where
 mem:=by simp
 obj:=λi h st b hb=>by
  have e:b=it:=by simpa using hb
  subst e;obtain⟨o,e,c,d⟩:=st;exact⟨o,e,λv z=>by rw [d] at z; cases z⟩
 keep:=λi h h' st k=>let ⟨o,ho,r⟩:=st; ⟨o,k it (by simp) o ho,r⟩
 item:=by
  intro X hP hw hK hc i K2 s σ H E I hf st hg;subst hP hw hK;obtain⟨f0,f1,f2,f3,f4,f5⟩:=hf it (by simp)
  have hg:i < x.cps.size:=hg;refine wpAny_pyNext_wide_item st (c:=x.cps[i]) (by simp [hg]) λh' st' sb=>?_
  have I1:aE X K2 σ H {s with heap:=h',toks:=s.toks+1}:=I.turned (t':=s.toks+1) (λb o hb e=>(sb.2 b hb).trans e) f0 f1 f3 f4 f5
  obtain⟨o,e,c,d⟩:=id st';exact⟨_,rfl,o8 (s:={s with heap:=h',toks:=s.toks+1}) e c d (by decide) ⟨.str ⟨#[x.cps[i]]⟩,H,I1,⟨_,rfl⟩,⟨rfl,x.cps[i],by simp [hg],rfl⟩,st',λb hb=>(hf b hb).1⟩⟩
 done:=by
  intro X hP hw hK hc i K2 s σ H E I hf st hg;subst hP hw hK;obtain⟨f0,f1,f2,f3,f4,f5⟩:=hf it (by simp)
  have hg:x.cps.size<=i:=hg;exact wpAny_pyNext_wide_end (I.ok.hd hc) st (by simp [hg]) λh' eb=>⟨rfl,I.turned (t':=s.toks) (λb o hb e=>eb b o hb e) f0 f1 f3 f4 f5⟩
 self:=λ_ _ _ _ _ st h=>wpAny_pyIter_striter_wide st h
def Jc (tl:TE):TI:=fun σ H R=>tl σ H λv H1=>∃ x,v=.str x/\R (G1 x) H1
theorem Dv {X:Cx} {tg l:KP} {tl:TE} (hl:PE X l tl):PI X tg l (Jc tl):=by
 intro K2 s σ H R I h;refine bc (hl K2 s σ H _ I h) λv s1 ⟨y,H1,I1,r1,q1⟩=>?_
 obtain⟨x,e,q⟩:=q1;subst e;obtain⟨t,rfl⟩:=r1;have fin:∀ b∈[s1.heap.objs.size],nj X K2 H1 b:=λb hb=>by
  have e:b=s1.heap.objs.size:=by simpa using hb
  subst e;exact I1.fpOk (JX _) (I1.hok.fresh (JX _))
 cases ha:x.cps.all (· < 128)
 ·refine wpAny_pyIter_wide ha ⟨s1.heap.objs.size,[s1.heap.objs.size],_,_,H1,rfl,I1.kept (t':=s1.toks) λb o e=>pp _ e,xW x t _,⟨_,JV _ rfl,rfl,rfl⟩,fin,q⟩
 ·refine wpAny_pyIter_ascii ha ⟨s1.heap.objs.size,[s1.heap.objs.size],_,_,H1,rfl,I1.kept (t':=s1.toks) λb o e=>pp _ e,xY x t _,⟨_,JV _ rfl,rfl,rfl⟩,fin,q⟩
end L2
namespace DL
open PySem PySem.Spec PyProof.Rows L2
def HI (x:Str):List D:=x.cps.toList.map λc=>.str ⟨#[c]⟩
def yN (cap:List (KO Nat)) (gi:DE) (g:DG) (bd:DB):DE:=λL S k=>gi L S λd S1=>match d with
 | .str x=>∀ p,S1 p=none->bK (λ_=>True) p g bd k (HI x) [] (xR cap L) (put S1 p (.lst []))
 | _=>False
section
variable {X:Cx} {pos:Pos}
theorem Gj {K:Fg} {x:Str} {H:Hp}:∀ (i:Nat) (d:D) (S1:DH) (H1:Hp),(HI x)[i]?=some d->Kp H H1->Hs K H1 S1->True->(G1 x).go i H1/\∀ v H',(G1 x).yld i H1 v H'->H'=H1/\bA K H1 d v:=λi d S1 H1 hd _ _ _=>by
 unfold HI at hd;rw [Ki] at hd;cases e:x.cps.toList[i]? with
 | none=>rw [e] at hd; cases hd
 | some c=>
  rw [e] at hd;cases hd;have e':x.cps[i]?=some c:=by simpa using e
  refine⟨?_,λv H' ⟨h1,c',h2,h3⟩=>⟨h1,?_⟩⟩
  ·show i < x.cps.size
   obtain⟨h,_⟩:=Array.getElem?_eq_some_iff.mp e';exact h
  ·rw [e'] at h2;cases h2;exact a7.mpr h3
theorem FA {x:Str}:(HI x).length=x.cps.size:=by unfold HI; simp
theorem AE {elt tg iter:KP} {scope:Scope} {cl:List (Str×KN)} {N:List Str} {cap:List (KO Nat)} {gg:DG} {ge gi:DE} (hc:X.calm=true) (Sc:dJ X scope cl N cap) (hi:EJ X iter gi) (hg:∀ s0 H0 ex C,GJ (eN X scope cl N s0 H0 ex C) tg gg) (he:∀ s0 H0 ex C,EJ (eN X scope cl N s0 H0 ex C) elt ge)
  (hs:∀ x,foldedSetIterable iter X.env x=pure x:=by intro _; rfl):EJ X (.ListComp elt [⟨tg,iter,[],0⟩] scope pos) (yN cap gi gg (jx ge)):=
 ⟨PE.imp (xg hc Sc (Dv hi.h) (λs0 H0 ex C=>(hg s0 H0 ex C).h) (λs0 H0 ex C=>(he s0 H0 ex C).h) hs) fun σ H Q ⟨L,S,k,hL,hS,h,n⟩=>up.go hL hS h λd S1 v H1 h1 k1 hL1 hS1 i1=>by
  cases d with
  | str x=>
   have e1:=a7.mp i1;subst e1;exact⟨x,rfl,λD hD=>hX (hL1.cap cap) hS1 hD (h1 D (hS1.free hD)) (λd S' v H' q k3=>n d S' v H' q (k1.trans k3)) Gj λS2 H2 _ _ _=>by rw [FA]; exact JX _⟩
  | _=>exact(show False from h1).elim⟩
end
end DL
namespace L2
open PySem PySem.Spec PyProof.Rows
section
variable {X:Cx} {o e:KP} {es:List KP} {to:TE} {t:TA} {r:V->List V->Hp->VK->Prop} {T id:KZ} {name:Str} {apos cpos:Pos} {ty:V->Hp->Prop}
def IS (ty:V->Hp->Prop) (r:V->List V->Hp->VK->Prop) (to:TE) (t:TA):TE:=fun σ H Q=>to σ H λx H1=>ty x H1/\t σ H1 λxs H2=>r x xs H2 Q
theorem Di (hT:∀ K2 σ H (s:KL) x v,aE X K2 σ H s->aW x v->ty x H->s.TypeIs v T/\∀ a,v=.ref a->∃ ob,s.heap.get? a=some ob/\ob.dict=none)
  (pa:PlainAttrs T) (slot:Slot T name id) (hty:typeOf (.builtin id)=pure (.type "method_descriptor")) (hm:Bu X id r) (ho:PE X o to) (ha:PA X (e::es) t)
  (hbase:attributeBase o name X.env (eval o X.env)=eval o X.env:=by rfl)
  (hfew:((backTo cpos (starEach (e::es) X.env)).all (λx=>!x.1) && (backToKw cpos (keywordEach [] X.env)).all (λx=>x.1.isSome)
   && decide ((e::es).length+([]:List Keyword).length+(if ([]:List Keyword).isEmpty then 0 else 1) < 30))=true:=by rfl)
  (hline:(apos.endLine == cpos.line)=true:=by rfl) (hs:starEach (e::es) X.env=(false,eval e X.env)::starEach es X.env:=by rfl) (hplain:(backTo cpos (starEach es X.env)).any (·.1)=false:=by rfl):
  PE X (.Call (.Attribute o name apos) (e::es) [] cpos) (IS ty r to t):=by
 intro K2 s σ H Q I h;refine wpAny_Call_method_late hbase hfew hline rfl (bc (ho K2 s σ H _ I h) λv s1 z9=>?_)
 obtain⟨x,H1,I1,r1,ty,q1⟩:=z9;obtain⟨h1,h2⟩:=hT _ _ _ _ _ _ I1 r1 ty;refine⟨T,id,pa,slot,hty,h1,h2,?_⟩;have hA:=ha cpos K2 s1 σ H1 _ I1 q1;rw [hs] at hA ⊢;refine Calls.callWith_builtin (by show(false || (backTo cpos (starEach es X.env)).any (·.1))=false; rw [hplain] <;> rfl) (Calls.evalArgs_plain ?_)
 exact bc hA λus s2 z9=>by obtain⟨vs,H2,I2,r2,q2⟩:=z9; exact hm K2 s2 σ H2 x vs v us Q I2 r1 r2 q2
end
end L2
namespace DL
open PySem PySem.Spec PyProof.Rows L2
def Ez (mg:Str->KO KM) (x y:Str):Prop:=∃ t,mg x=some (.str y t)
theorem Fa {X:Cx} {x y:Str} {pos:Pos} (g:Ez X.mg x y) (hg:Gl X x) (hd:(x == ("__debug__":Str))=false:=by decide):EJ X (.Name x pos) (dC (.str y)):=by
 obtain⟨t,hm⟩:=g;exact⟨CL (oE (v:=.str y) hg hm ⟨t,rfl⟩ hd) λH=>a7.mpr rfl⟩
def ly (K:Fg) (d:D) (u:KM):Prop:=∃ v,aW v u/\∀ H,bA K H d v
theorem ly.int {K:Fg} {i:Int} {t:Tok}:ly K (.int i) (.int i t):=⟨.int i,⟨t,rfl⟩,λ_=>isInt.mpr rfl⟩
theorem ly.tup {K:Fg} {q:KN} {ns:List Int} (h:Ir K q ns):ly K (.tup (ns.map D.int)) (.ref q):=by
 obtain⟨o,its,m,a,b,c,e,f⟩:=h;exact⟨.ref q,rfl,λH=>bw.mpr ⟨q,_,rfl,.inr ⟨o,its,m,a,b,c,e,f⟩,mR _⟩⟩
inductive u6 (K:Fg) (w:KS):List K0->List (Str×D)->Prop
 | nil:u6 K w [] []
 | cons {h:Int} {k:Str} {t:Tok} {u:KM} {d:D} {es:List K0} {tab:List (Str×D)} (hh:h=hashStr w k) (h1:ly K d u) (r:u6 K w es tab):u6 K w (⟨h,.str k t,u⟩::es) ((k,d)::tab)
def A7 (K:Fg) (mg:Str->KO KM) (w:KS) (x:Str) (tab:List (Str×D)):Prop:=∃ p o es ep,mg x=some (.ref p)/\K.lookup p=some o/\o.ExactDict/\o.data=.dict es ep/\(p == sysModules)=false/\u6 K w es.toList tab/\(tab.map (·.1)).Nodup
theorem u6.kvs {K:Fg} {w:KS} (prog:KQ):∀ {es:List K0} {tab:List (Str×D)},u6 K w es tab->∃ kvs:List (Str×KM),Pairs (strKind prog w) es kvs/\kvs.map (·.1)=tab.map (·.1)/\(∀ e∈es,∃ k,(strKind prog w).is k e.key=true/\e.hash=(strKind prog w).hash k)/\∀ k,match tab.lookup k with
   | some d=>∃ u,valueAt kvs k=some u/\ly K d u
   | none=>valueAt kvs k=none
 | _,_,.nil=>⟨[],.nil,rfl,(λ_ h=>by cases h),λk=>rfl⟩
 | _,_,.cons (k:=k) (t:=t) (u:=u) (d:=d) (tab:=tab) hh h1 r=>by
  obtain⟨kvs,a,b,c,e⟩:=r.kvs prog;refine⟨(k,u)::kvs,.cons (strKind_is _ _ _ _) rfl a,by rw [J8,J8,b],?_,?_⟩
  ·intro e he;rcases J2.mp he with rfl | he
   ·exact⟨k,strKind_is _ _ _ _,hh⟩
   ·exact c e he
  ·intro k';have e:=e k';rw [List.lookup_cons];unfold valueAt at*
   rw [J_]
   by_cases z:k=k'
   ·subst z;simp only [beq_self_eq_true,decide_true];exact⟨u,rfl,h1⟩
   ·have z1:(k' == k)=false:=beq_eq_false_iff_ne.mpr (Ne.symm z);have z2:decide (k=k')=false:=Ky z;simp only [z1,z2];exact e
section
variable {X:Cx} {x:Str} {tab:List (Str×D)} {p:KN}
def Jr (p:KN):V->Hp->Prop:=λv _=>v=.ref p
def Dl (tab:List (Str×D)):bE:=λds S k=>match ds with
 | [.str w]=>k ((tab.lookup w).getD .non) S
 | [.str w,d]=>k ((tab.lookup w).getD d) S
 | _=>False
def IU (K:Fg) (p:KN) (tab:List (Str×D)):V->List V->Hp->VK->Prop:=λv vs H Q=>v=.ref p/\nX K (Dl tab) vs H Q
theorem FG {o:K1} {es:KW K0} {ep:Nat} (h1:X.K.lookup p=some o) (h2:o.ExactDict) (h3:o.data=.dict es ep) (h0:(p == sysModules)=false) (h4:u6 X.K X.w es.toList tab) (h5:(tab.map (·.1)).Nodup):
  Bu X "dict.get" (IU X.K p tab):=by
 intro K2 s σ H v vs u us Q I rx rs h;obtain⟨rfl,ds,S,k,i,hS,r,n⟩:=h;cases rx;obtain⟨kvs,a,b,c,d⟩:=h4.kvs X.prog;have hd:s.heap.DictOf (strKind X.prog X.w) p kvs:=⟨o,es,ep,I.kIn p o h1,h2,h3,λe he=>c e (Array.mem_toList_iff.mpr he),a,by rw [b]; exact h5⟩
 unfold Dl at r
 split at r
 ·rename_i w
  obtain⟨v1,rfl,i1⟩:=cf i;have e1:=a7.mp i1;subst e1;obtain⟨u1,rfl,t1,rfl⟩:=rs.one;refine call_meetsIn F.slot_dict_get hd.typeIs F.entry_dict_get (F.args_dict_get_2 _ _) (meets_dict_get (strKind X.prog X.w) p (strKind_is _ _ w t1) h0) ⟨_,hd.mapOf,?_⟩;have dw:=d w
  show EP X K2 σ Q _ _
  cases hl:tab.lookup w with
  | none=>
   rw [hl] at dw r
   rw [dw];exact⟨.non,H,I.tok _,rfl,eJ n hS r (b7.mpr rfl)⟩
  | some d0=>
   rw [hl] at dw r
   obtain⟨u,e,v,rv,iv⟩:=dw;rw [e];exact⟨v,H,I.tok _,rv,eJ n hS r (iv H)⟩
 ·rename_i w d2
  obtain⟨v1,v2,rfl,i1,i2⟩:=kB i;have e1:=a7.mp i1;subst e1;obtain⟨u1,u2,rfl,⟨t1,rfl⟩,r2⟩:=pL rs;refine call_meetsIn F.slot_dict_get hd.typeIs F.entry_dict_get (F.args_dict_get_3 _ _ _) (meets_dict_get_default (strKind X.prog X.w) p (strKind_is _ _ w t1) h0 _) ⟨_,hd.mapOf,?_⟩;have dw:=d w
  show EP X K2 σ Q _ _
  cases hl:tab.lookup w with
  | none=>
   rw [hl] at dw r
   rw [dw];exact⟨v2,H,I.tok _,r2,eJ n hS r i2⟩
  | some d0=>
   rw [hl] at dw r
   obtain⟨u,e,v,rv,iv⟩:=dw;rw [e];exact⟨v,H,I.tok _,rv,eJ n hS r (iv H)⟩
 ·exact r.elim
theorem xb {e:KP} {es:List KP} {ta:DA} {p1 apos cpos:Pos} (g:A7 X.K X.mg X.w x tab) (hg:Gl X x) (ha:AJ X (e::es) ta) (hd:(x == ("__debug__":Str))=false:=by decide)
  (hbase:attributeBase (.Name x p1) "get" X.env (eval (.Name x p1) X.env)=eval (.Name x p1) X.env:=by rfl)
  (hfew:((backTo cpos (starEach (e::es) X.env)).all (λx=>!x.1) && (backToKw cpos (keywordEach [] X.env)).all (λx=>x.1.isSome)
   && decide ((e::es).length+([]:List Keyword).length+(if ([]:List Keyword).isEmpty then 0 else 1) < 30))=true:=by rfl)
  (hline:(apos.endLine == cpos.line)=true:=by rfl) (hs:starEach (e::es) X.env=(false,eval e X.env)::starEach es X.env:=by rfl) (hplain:(backTo cpos (starEach es X.env)).any (·.1)=false:=by rfl):
  EJ X (.Call (.Attribute (.Name x p1) "get" apos) (e::es) [] cpos) (gj (Dl tab) ta):=by
 obtain⟨p,o,es',ep,hm,h1,h2,h3,h0,h4,h5⟩:=g;refine⟨PE.imp (Di (ty:=Jr p) (λK2 σ H s x v I rv z=>?_) PySem.F.plainAttrs_dict PySem.F.slot_dict_get PySem.F.type_dict_get (FG h1 h2 h3 h0 h4 h5) (oE (v:=.ref p) hg hm rfl hd) ha.h hbase hfew hline hs hplain) fun σ H Q ⟨L,S,k,hL,hS,h,n⟩=>?_⟩
 ·have z:x=.ref p:=z;subst z;cases rv;exact⟨⟨o,I.kIn p o h1,h2.1⟩,λa e=>by cases e; exact⟨o,I.kIn p o h1,h2.2.1⟩⟩
 ·refine⟨rfl,qT.go hL hS h λds S1 vs H1 h1 k1 hL1 hS1 i1=>⟨rfl,ds,S1,k,i1,hS1,h1,λd' S' v H' q k3 z1 z2=>n d' S' v H' q (k1.trans k3) z1 z2⟩⟩
end
end DL
namespace ZS
open PySem PySem.W PyProof.Rows
abbrev pl (p:KW Nat) (i:Nat):Nat:=p.getD i 0
structure Od (n:Nat) (c:Nat->Nat->KY):Prop where
 tr:∀ i j k,i < n->j < n->k < n->c i j=true->c j k=true->c i k=true
 tot:∀ i j,i < n->j < n->i≠j->c i j=false->c j i=true
 asy:∀ i j,i < n->j < n->c i j=true->c j i=false
structure Pm (n:Nat) (p:KW Nat):Prop where
 sz:p.size=n
 pm:p.toList.Perm (List.range n)
theorem uN {p:KW Nat} {i:Nat} (h:i < p.size):p[i]?=some (pl p i):=by
 unfold pl;rw [Array.getD_eq_getD_getElem?,getElem?_pos p i h]
 rfl
section
variable {n:Nat} {c:Nat->Nat->KY} {p:KW Nat}
theorem Pm.lt (h:Pm n p) {i:Nat} (hi:i < n):pl p i < n:=by
 have e:=uN (p:=p) (i:=i) (by rw [h.sz]; exact hi)
 have m:pl p i∈p.toList:=by
  rw [<- Array.getElem?_toList] at e;exact List.mem_of_getElem? e
 exact List.mem_range.mp (h.pm.mem_iff.mp m)
theorem Pm.ne (h:Pm n p) {i j:Nat} (hi:i < n) (hj:j < n) (ij:i≠j):pl p i≠pl p j:=λe=>by
 have nd:p.toList.Nodup:=h.pm.nodup_iff.mpr List.nodup_range;have ei:=uN (p:=p) (i:=i) (by rw [h.sz]; exact hi)
 have ej:=uN (p:=p) (i:=j) (by rw [h.sz]; exact hj)
 rw [<- Array.getElem?_toList] at ei ej
 rw [e,<- ej] at ei;exact ij ((List.getElem?_inj (by rw [KG,h.sz]; exact hi) nd).mp ei)
def Up (c:Nat->Nat->KY) (p:KW Nat) (b:Nat):Prop:=∀ i j,i < j->j < b->c (pl p i) (pl p j)=true
def Dn (c:Nat->Nat->KY) (p:KW Nat) (b:Nat):Prop:=∀ i j,i < j->j < b->c (pl p j) (pl p i)=true
theorem Up.one:Up c p 1:=λi j h1 h2=>by omega
theorem Up.more (o:Od n c) (h:Pm n p) {b:Nat} (b1:1<=b) (bn:b < n) (u:Up c p b) (x:c (pl p b) (pl p (b - 1))=false):Up c p (b+1):=λi j ij jb=>by
 by_cases e:j < b
 ·exact u i j ij e
 ·have e:j=b:=by omega
  subst e;have y:=o.tot _ _ (h.lt bn) (h.lt (by omega)) (h.ne bn (by omega) (by omega)) x
  by_cases f:i=j - 1
  ·rw [f]; exact y
  ·exact o.tr _ _ _ (h.lt (by omega)) (h.lt (by omega)) (h.lt bn) (u i (j - 1) (by omega) (by omega)) y
theorem Dn.more (o:Od n c) (h:Pm n p) {b:Nat} (b1:1<=b) (bn:b < n) (u:Dn c p b) (x:c (pl p b) (pl p (b - 1))=true):Dn c p (b+1):=λi j ij jb=>by
 by_cases e:j < b
 ·exact u i j ij e
 ·have e:j=b:=by omega
  subst e
  by_cases f:i=j - 1
  ·rw [f]; exact x
  ·exact o.tr _ _ _ (h.lt bn) (h.lt (by omega)) (h.lt (by omega)) x (u i (j - 1) (by omega) (by omega))
theorem Pm.rev (h:Pm n p) {a b:Nat}:Pm n (kas_rev p a b):=⟨by unfold kas_rev; rw [mirror_size,h.sz],(Array.perm_iff_toList_perm.mp (mirror_perm p a b _)).trans h.pm⟩
theorem Pm.bub (h:Pm n p) {a b:Nat}:Pm n (bubble p a b):=⟨by rw [bubble_size,h.sz],(Array.perm_iff_toList_perm.mp (bubble_perm p a b)).trans h.pm⟩
theorem zL (h:Pm n p) {b i:Nat} (bn:b<=n) (ib:i < b):pl (kas_rev p 0 b) i=pl p (b - 1 - i):=by
 have e:=getElem?_mirror_all (xs:=p) (i:=0) (j:=b) (by rw [h.sz]; exact bn) i
 rw [if_pos ⟨Kz _,ib⟩] at e;unfold pl kas_rev;rw [Array.getD_eq_getD_getElem?,Array.getD_eq_getD_getElem?,e]
 congr 2
 omega
theorem Dn.rev (h:Pm n p) {b:Nat} (bn:b<=n) (d:Dn c p b):Up c (kas_rev p 0 b) b:=λi j ij jb=>by
 rw [zL h bn (by omega),zL h bn jb]
 exact d _ _ (by omega) (by omega)
variable {cmp:Nat->Nat->(KY->KL->Prop)->KL->Prop} {s:KL}
def CO (n:Nat) (c:Nat->Nat->KY) (cmp:Nat->Nat->(KY->KL->Prop)->KL->Prop) (s:KL):Prop:=∀ i j (C:KY->KL->Prop),i < n->j < n->C (c i j) s->cmp i j C s
theorem wd (o:Od n c) (h:Pm n p) (an:CO n c cmp s) {Q:Nat->KL->Prop}:∀ (f b:Nat),1<=b->b+f<=n->Up c p b->(∀ m,b<=m->m<=b+f->Up c p m->(m=b+f\/c (pl p m) (pl p (m - 1))=true)->Q m s)->(kas_asc p f b).kasWp cmp Q s
 | 0,b,_,_,u,q=>q b (JX _) (JX _) u (.inl rfl)
 | f+1,b,b1,bn,u,q=>by
  refine an _ _ _ (h.lt (by omega)) (h.lt (by omega)) ?_
  show KasT.kasWp cmp (if c (pl p b) (pl p (b - 1))=true then KasT.ret b else kas_asc p f (b+1)) Q s
  cases x:c (pl p b) (pl p (b - 1)) with
  | true=>
   rw [if_pos rfl];exact q b (JX _) (by omega) u (.inr x)
  | false=>
   rw [if_neg J0];refine wd o h an f (b+1) (by omega) (by omega) (u.more o h b1 (by omega) x) λm m1 m2 um e=>q m (by omega) (by omega) um ?_
   rcases e with e | e
   ·exact .inl (by omega)
   ·exact .inr e
theorem wy (o:Od n c) (h:Pm n p) (an:CO n c cmp s) {Q:KW Nat×Nat×Nat->KL->Prop}:∀ (f b:Nat),1<=b->b+f<=n->Dn c p b->(∀ m,b<=m->m<=b+f->Dn c p m->Q (p,m,0) s)->(kas_desc f p b 0).kasWp cmp Q s
 | 0,b,_,_,u,q=>q b (JX _) (JX _) u
 | f+1,b,b1,bn,u,q=>by
  refine an _ _ _ (h.lt (by omega)) (h.lt (by omega)) ?_
  dsimp only;cases x:c (pl p b) (pl p (b - 1)) with
  | true=>
   rw [if_pos rfl,if_neg (by omega)]
   exact wy o h an f (b+1) (by omega) (by omega) (u.more o h b1 (by omega) x) λm m1 m2 um=>q m (by omega) (by omega) um
  | false=>
   rw [if_neg J0];refine an _ _ _ (h.lt (by omega)) (h.lt (by omega)) ?_
   dsimp only;rw [o.tot _ _ (h.lt (by omega)) (h.lt (by omega)) (h.ne (by omega) (by omega) (by omega)) x,if_pos rfl]
   exact q b (JX _) (by omega) u
theorem BG (o:Od n c) (h:Pm n p) (an:CO n c cmp s) {Q:Nat×KW Nat->KL->Prop} {b:Nat} (b1:1<=b) (bn:b<=n) (d:Dn c p b) (q:∀ m p',Pm n p'->1<=m->m<=n->Up c p' m->Q (m,p') s):(kas_tail3 b n p).kasWp cmp Q s:=by
 unfold kas_tail3;rw [KasT.kasWp_bind];exact wd o h.rev an (n - b) b b1 (by omega) (d.rev h bn) λm m1 m2 um _=>q m _ h.rev (by omega) (by omega) um
theorem BD (o:Od n c) (h:Pm n p) (an:CO n c cmp s) {Q:Nat×KW Nat->KL->Prop} {b:Nat} (bn:b+1<=n) (d:Dn c p (b+1)) (q:∀ m p',Pm n p'->1<=m->m<=n->Up c p' m->Q (m,p') s):(kas_descPart b n p).kasWp cmp Q s:=by
 unfold kas_descPart;rw [KasT.kasWp_bind];refine wy o h an _ (b+1) (by omega) (by omega) d λm m1 m2 dm=>?_
 show KasT.kasWp cmp (if 0 > 0 then _ else kas_tail3 m n p) Q s
 rw [if_neg (by omega)]
 exact BG o h an (by omega) (by omega) dm q
theorem AT (o:Od n c) (h:Pm n p) (an:CO n c cmp s) {Q:Nat×KW Nat->KL->Prop} (n1:1<=n) (q:∀ m p',Pm n p'->1<=m->m<=n->Up c p' m->Q (m,p') s):(kas_count n p).kasWp cmp Q s:=by
 unfold kas_count;rw [KasT.kasWp_bind];refine wd o h an (n - 1) 1 (by omega) (by omega) Up.one λm m1 m2 um e=>?_
 by_cases x:m=n
 ·rw [if_pos (by rw [x]; exact beq_self_eq_true n)]
  exact q m p h m1 (by omega) um
 ·rw [if_neg (by simpa using x)]
  by_cases y:m > 1
  ·rw [if_pos y];refine an _ _ _ (h.lt (by omega)) (h.lt (by omega)) ?_
   dsimp only;rw [um 0 (m - 1) (by omega) (by omega),if_pos rfl]
   exact q m p h m1 (by omega) um
  ·rw [if_neg y];have e1:m=1:=by omega
   subst e1;have z:c (pl p 1) (pl p (1 - 1))=true:=e.resolve_left (by omega)
   exact BD o h an (by omega) (Dn.more o h (JX 1) (by omega) (λi j h1 h2=>by omega) z) q
theorem pE (o:Od n c) (h:Pm n p) (an:CO n c cmp s) {Q:Nat->KL->Prop} {k:Nat} (kn:k < n) (u:Up c p k):∀ (f l r:Nat),l<=r->r<=k->r - l<=f->(∀ i,i < l->c (pl p i) (pl p k)=true)->(∀ i,r<=i->i < k->c (pl p k) (pl p i)=true)->
  (∀ l,l<=k->(∀ i,i < l->c (pl p i) (pl p k)=true)->(∀ i,l<=i->i < k->c (pl p k) (pl p i)=true)->Q l s)->(kas_place p k f l r).kasWp cmp Q s
 | 0,l,r,h1,h2,h3,a,b,q=>q l (by omega) a λi i1 i2=>b i (by omega) i2
 | f+1,l,r,h1,h2,h3,a,b,q=>by
  show KasT.kasWp cmp (if l ≥ r then KasT.ret l else _) Q s
  by_cases x:l ≥ r
  ·rw [if_pos x];exact q l (by omega) a λi i1 i2=>b i (by omega) i2
  ·rw [if_neg x];have hm:(l+r) / 2 < r:=by omega
   have hl:l<=(l+r) / 2:=by omega
   generalize (l+r) / 2=m at*
   refine an _ _ _ (h.lt kn) (h.lt (by omega)) ?_
   show KasT.kasWp cmp (if c (pl p k) (pl p m)=true then _ else _) Q s
   cases y:c (pl p k) (pl p m) with
   | true=>
    rw [if_pos rfl];refine pE o h an kn u f l m hl (by omega) (by omega) a (λi i1 i2=>?_) q
    by_cases z:i=m
    ·rw [z]; exact y
    ·exact o.tr _ _ _ (h.lt kn) (h.lt (by omega)) (h.lt (by omega)) y (u m i (by omega) i2)
   | false=>
    rw [if_neg J0];have y':=o.tot _ _ (h.lt kn) (h.lt (i:=m) (by omega)) (h.ne kn (by omega) (by omega)) y
    refine pE o h an kn u f (m+1) r (by omega) h2 (by omega) (λi i1=>?_) b q
    by_cases z:i=m
    ·rw [z]; exact y'
    ·exact o.tr _ _ _ (h.lt (by omega)) (h.lt (by omega)) (h.lt kn) (u i m (by omega) (by omega)) y'
theorem z_ (h:Pm n p) {k l i:Nat} (kn:k < n) (lk:l<=k):pl (bubble p k (k - l)) i=if i=l then pl p k else if l < i/\i<=k then pl p (i - 1) else pl p i:=by
 have e:=getElem?_bubble (xs:=p) (src:=k) (by rw [h.sz]; exact kn) (k - l) (by omega) i
 rw [show k - (k - l)=l by omega] at e
 unfold pl;rw [Array.getD_eq_getD_getElem?,e]
 split
 ·rw [Array.getD_eq_getD_getElem?]
 ·split
  ·rw [Array.getD_eq_getD_getElem?]
  ·rw [Array.getD_eq_getD_getElem?]
theorem yz (o:Od n c) (an:CO n c cmp s) {Q:KW Nat->KL->Prop} (q:∀ p',Pm n p'->Up c p' n->Q p' s):∀ (f:Nat) (p:KW Nat) (k:Nat),Pm n p->Up c p k->k+f=n->(kas_bin f p k).kasWp cmp Q s
 | 0,p,k,h,u,e=>q p h (by rw [<- e]; exact u)
 | f+1,p,k,h,u,e=>by
  show KasT.kasWp cmp ((kas_place p k k 0 k).bind λl=>kas_bin f (bubble p k (k - l)) (k+1)) Q s
  rw [KasT.kasWp_bind];refine pE o h an (by omega) u k 0 k (Kz _) (JX _) (by omega) (λi hi=>by omega) (λi h1 h2=>by omega) λl lk a b=>?_
  refine yz o an q f _ (k+1) h.bub (λi j ij jk=>?_) (by omega)
  rw [z_ h (by omega) lk,z_ h (by omega) lk]
  by_cases i1:i=l
  ·rw [if_pos i1,if_neg (by omega),if_pos (by omega)]
   exact b _ (by omega) (by omega)
  ·rw [if_neg i1]
   by_cases i2:l < i/\i<=k
   ·rw [if_pos i2,if_neg (by omega),if_pos (by omega)]
    exact u _ _ (by omega) (by omega)
   ·rw [if_neg i2]
    by_cases j1:j=l
    ·rw [if_pos j1];exact a i (by omega)
    ·rw [if_neg j1]
     by_cases j2:l < j/\j<=k
     ·rw [if_pos j2];exact u _ _ (by omega) (by omega)
     ·rw [if_neg j2];exact u _ _ ij (by omega)
theorem Bq (o:Od n c) (an:CO n c cmp s) {Q:KW Nat->KL->Prop} (n1:1<=n) (q:∀ p',Pm n p'->Up c p' n->Q p' s):(kas_sort n).kasWp cmp Q s:=by
 have h:Pm n (List.toArray (List.range n)):=⟨by simp,by simp⟩
 unfold kas_sort;rw [KasT.kasWp_bind];refine AT o h an n1 λm p' h' m1 mn u=>?_
 show KasT.kasWp cmp (if m < n then kas_bin (n - max m 1) p' (max m 1) else KasT.ret p') Q s
 by_cases x:m < n
 ·rw [if_pos x,show max m 1=m by omega]
  exact yz o an q (n - m) p' m h' u (by omega)
 ·rw [if_neg x];have:m=n:=by omega
  exact q p' h' (by rw [<- this]; exact u)
end
theorem xS (a:KN):Builtin.«list.sort» ⟨[.ref a],[]⟩=Builtin.«list.sort» ⟨[.ref a],[(Str.ofString "reverse",.bool false)]⟩:=by
 rw [list_sort_plain,list_sort_rev]
 rfl
def lx (x y:Int×Int):KY:=decide (x.1 < y.1) || (decide (x.1=y.1) && decide (x.2 < y.2))
theorem lx_iff {x y:Int×Int}:lx x y=true↔x.1 < y.1\/(x.1=y.1/\x.2 < y.2):=by
 unfold lx;rw [Bool.or_eq_true,Ko,KF,KF,KF]
def lU (h:KT) (v:KM) (k:Int×Int):Prop:=∃ b o t u m,v=.ref b/\h.get? b=some o/\o.cls=.type "tuple"/\o.data=.seq #[.int k.1 t,.int k.2 u] m
abbrev kf (h:KT):List KM->List (Int×Int)->Prop:=Paired (lU h)
section
variable {prog:KQ} {w:KS} {A:KR} {E:KM->KL->Prop} {s:KL}
theorem Ca {v v':KM} {k k':Int×Int} {Q:KY->KL->Prop} (h1:lU s.heap v k) (h2:lU s.heap v' k') (q:Q (lx k k') s):wpAny (model prog w) A (keyLt' (tuples' true) v v') Q E s:=by
 obtain⟨b,o,t,u,m,rfl,e1,c1,d1⟩:=h1;obtain⟨b',o',t',u',m',rfl,e2,c2,d2⟩:=h2;refine kat_lt e1 d1 e2 d2 (kat_cons (wpAny_eqBool_int (kat_go (λx=>?_) λx=>?_)))
 ·have x1:k.1=k'.1:=by simpa using x
  refine kat_yes (kat_cons (wpAny_eqBool_int (kat_go (λy=>?_) λy=>?_)))
  ·have y1:k.2=k'.2:=by simpa using y
   refine kat_yes (kat_nil ?_);have e:lx k k'=false:=by
    rw [Bool.eq_false_iff,ne_eq,lx_iff];omega
   rw [e] at q;exact q
  ·have y1:k.2≠k'.2:=by simpa using y
   refine kat_no ?_
   show wpAny _ _ (oneLt' false _ _) _ _ _
   refine kat_one _ _ (lt_int ?_)
   show Q _ s
   have e:lx k k'=decide (k.2 < k'.2):=by
    rw [Bool.eq_iff_iff,lx_iff,KF];omega
   rw [<- e];exact q
 ·have x1:k.1≠k'.1:=by simpa using x
  refine kat_no ?_
  show wpAny _ _ (oneLt' true _ _) _ _ _
  refine oneLt_int ?_;have e:lx k k'=decide (k.1 < k'.1):=by
   rw [Bool.eq_iff_iff,lx_iff,KF];omega
  rw [<- e];exact q
theorem kf.firsts {h:KT}:∀ {vs:List KM} {ks:List (Int×Int)},kf h vs ks->∃ fs:List KM,KatTups h vs fs/\fs.length=vs.length/\∀ v∈fs,∃ i t,v=.int i t
 | _,_,.nil=>⟨[],KatTups.nil,rfl,λ_ h=>nomatch h⟩
 | _,_,.cons r t=>by
  obtain⟨b,o,t1,u,m,rfl,e,c,d⟩:=r;obtain⟨fs,a1,a2,a3⟩:=kf.firsts t;refine⟨_::fs,KatTups.cons e c d rfl a1,by rw [J9,J9,a2],λv hv=>?_⟩
  rcases J2.mp hv with rfl | hv
  ·exact⟨_,_,rfl⟩
  ·exact a3 v hv
theorem pA {vs:List KM} {ks:List (Int×Int)} {Q:SortKind->KL->Prop} (t:kf s.heap vs ks) (h:0 < vs.length) (q:Q (tuples' true) s):wpAny (model prog w) A (keyKind' vs.toArray) Q E s:=by
 obtain⟨fs,a1,a2,a3⟩:=t.firsts;refine kat_kind (T:=.type "int") a1 (by omega) (λv hv=>?_) rfl q
 obtain⟨i,t,rfl⟩:=a3 v hv;exact Looks.of_pure rfl
theorem kf.at {h:KT} {vs:List KM} {ks:List (Int×Int)} (t:kf h vs ks) {i:Nat} (hi:i < vs.length):lU h (vs.getD i .none) (ks.getD i (0,0)):=by
 induction t generalizing i with
 | nil=>simp at hi
 | cons r t ih=>
  cases i with
  | zero=>exact r
  | succ i=>exact ih (by simpa using hi)
theorem GA {ks:List (Int×Int)} (nd:ks.Nodup):Od ks.length λi j=>lx (ks.getD i (0,0)) (ks.getD j (0,0)) where
 tr i j k hi hj hk a b:=by
  rw [lx_iff] at*
  omega
 asy i j hi hj a:=by
  rw [Bool.eq_false_iff,ne_eq];rw [lx_iff] at*
  omega
 tot i j hi hj ij a:=by
  rw [Bool.eq_false_iff,ne_eq] at a;rw [lx_iff] at*
  have ne:ks.getD i (0,0)≠ks.getD j (0,0):=λe=>by
   rw [List.getD_eq_getElem?_getD,List.getD_eq_getElem?_getD,Kg hi,Kg hj] at e;exact ij ((List.getElem_inj nd).mp e)
  by_cases z:(ks.getD i (0,0)).1=(ks.getD j (0,0)).1
  ·have:(ks.getD i (0,0)).2≠(ks.getD j (0,0)).2:=λy=>ne (Prod.ext z y)
   omega
  ·omega
theorem kf.pick {h:KT} {vs:List KM} {ks:List (Int×Int)} (t:kf h vs ks):∀ (l:List Nat),(∀ i∈l,i < vs.length)->kf h (l.map λi=>vs.getD i .none) (l.map λi=>ks.getD i (0,0))
 | [],_=>.nil
 | i::l,hl=>.cons (t.at (hl i J4)) (t.pick l λj hj=>hl j (J5 _ hj))
theorem vZ {α:Type} (d:α) (ks:List α):(List.range ks.length).map (λi=>ks.getD i d)=ks:=by
 apply List.ext_getElem?;intro i;rw [Ki]
 by_cases h:i < ks.length
 ·rw [List.getElem?_range h,Kg h];simp [h]
 ·rw [List.getElem?_eq_none (by simpa using h),List.getElem?_eq_none (by omega)]
  rfl
theorem yn {vs:List KM} {ks:List (Int×Int)} {Q:SortSt->KL->Prop} (t:kf s.heap vs ks) (nd:ks.Nodup) (h2:2<=vs.length) (h64:vs.length < 64)
  (q:∀ st' out ks',(arrOf st').map (·.2)=List.toArray out->failedOf st'=none->kf s.heap out ks'->ks'.Perm ks->ks'.Pairwise (λa b=>lx a b=true)->out.length=vs.length->(∀ v∈out,v∈vs)->Q st' s):
  wpAny (model prog w) A ((sortRuns').run (SortSt.mk' (tuples' true) (vs.toArray.zip vs.toArray) #[] 7 none)) (λr s'=>Q r.2 s') E s:=by
 have hl:ks.length=vs.length:=t.length.symm;refine kat_run (G:=λp s'=>s'=s/\Pm vs.length p/\Up (λi j=>lx (ks.getD i (0,0)) (ks.getD j (0,0))) p vs.length) rfl h2 h64 (λp st' s' hs har hf ⟨e,pm,up⟩=>?_) (Bq (n:=vs.length) (c:=λi j=>lx (ks.getD i (0,0)) (ks.getD j (0,0))) (by rw [<- hl]; exact GA nd) (λi j C hi hj hC=>?_) (by omega) λp' a b=>⟨rfl,a,b⟩)
 ·subst e;have lt:∀ i∈p.toList,i < vs.length:=λi hi=>List.mem_range.mp (pm.pm.mem_iff.mp hi)
  refine q st' (p.toList.map λi=>vs.getD i .none) (p.toList.map λi=>ks.getD i (0,0)) (kat_snds rfl har) hf (t.pick _ lt) ?_ ?_ (by rw [JZ,KG,hs]) (λv hv=>?_)
  ·have e:=(pm.pm.map λi=>ks.getD i (0,0))
   rw [<- hl,vZ] at e;exact e
  ·rw [List.pairwise_map];rw [List.pairwise_iff_getElem];intro i j hi hj ij;have hi':i < p.size:=by simpa using hi
   have hj':j < p.size:=by simpa using hj
   have:=up i j ij (by rw [<- hs]; exact hj')
   have e1:=uN hi';have e2:=uN hj';rw [getElem?_pos p i hi'] at e1;rw [getElem?_pos p j hj'] at e2;rw [Array.getElem_toList,Array.getElem_toList,Kj e1,Kj e2];exact this
  ·obtain⟨i,hi,rfl⟩:=JY.mp hv;have:=lt i hi;rw [List.getD_eq_getElem?_getD,Kg this];exact List.getElem_mem this
 ·exact Ca (t.at hi) (t.at hj) hC
end
theorem kf.mono {h h':KT} (k:∀ b o,o.cls=.type "tuple"->h.get? b=some o->h'.get? b=some o) {vs:List KM} {ks:List (Int×Int)} (t:kf h vs ks):kf h' vs ks:=L2.Paired.mapP t λv x ⟨b,o,t,u,m,e,g,c,d⟩=>⟨b,o,t,u,m,e,k b o c g,c,d⟩
theorem kf.rev {h:KT}:∀ {vs:List KM} {ks:List (Int×Int)},kf h vs ks->kf h vs.reverse ks.reverse:=by
 have app:∀ {vs us:List KM} {ks js:List (Int×Int)},kf h vs ks->kf h us js->kf h (vs++us) (ks++js):=λa b=>by
  induction a with
  | nil=>exact b
  | cons r t ih=>exact .cons r ih
 intro vs ks t
 induction t with
 | nil=>exact .nil
 | cons r t ih=>
  rw [List.reverse_cons,List.reverse_cons];exact app ih (.cons r .nil)
def zA (b:KY) (ks:List (Int×Int)):Prop:=if b=true then ks.Pairwise (λx y=>lx y x=true) else ks.Pairwise (λx y=>lx x y=true)
def way (b:KY) {α:Type} (l:List α):List α:=if b=true then l.reverse else l
theorem BI (b:KY) (vs:List KM):(if b=true then(vs.toArray.zip vs.toArray).reverse else vs.toArray.zip vs.toArray)=(way b vs).toArray.zip (way b vs).toArray:=by
 cases b
 ·rfl
 ·have e:∀ l:List KM,(l.zip l).reverse=l.reverse.zip l.reverse:=λl=>by
   have z:∀ l:List KM,l.zip l=l.map λx=>(x,x):=λl=>by
    induction l with
    | nil=>rfl
    | cons x r ih=>rw [List.zip_cons_cons,ih]; rfl
   rw [z,z,List.map_reverse]
  show(vs.toArray.zip vs.toArray).reverse=vs.reverse.toArray.zip vs.reverse.toArray
  rw [List.zip_toArray,List.zip_toArray,List.reverse_toArray,e]
theorem rX {h:KT} {b:KY} {vs:List KM} {ks:List (Int×Int)} (t:kf h vs ks):kf h (way b vs) (way b ks):=by cases b; exact t; exact t.rev
theorem ki {α:Type} (b:KY) (l:List α):(way b l).length=l.length:=by cases b; rfl; exact List.length_reverse
theorem eM {α:Type} (b:KY) (l:List α):(way b l).Perm l:=by cases b; exact List.Perm.refl _; exact List.reverse_perm l
theorem BV {b:KY} {ks:List (Int×Int)} (h:ks.Pairwise (λx y=>lx x y=true)):zA b (way b ks):=by
 cases b
 ·exact h
 ·show(ks.reverse).Pairwise _
  rw [List.pairwise_reverse];exact h
theorem xx (b:KY) (out:List KM):(if b=true then(List.toArray out).reverse else List.toArray out)=List.toArray (way b out):=by
 cases b
 ·rfl
 ·exact List.reverse_toArray
section
variable {prog:KQ} {w:KS} {A:KR} {E:KM->KL->Prop} {s:KL}
theorem xD {a:KN} {vs:List KM} {ks:List (Int×Int)} {n:Nat} {b:KY} {P:PySem.Fin->KL->Prop} (ho:s.heap.get? a=some (seqObj "list" vs.toArray n)) (t:kf s.heap vs ks) (nd:ks.Nodup) (h64:vs.length < 64)
  (h:∀ out ks',kf s.heap out ks'->ks'.Perm ks->zA b ks'->(∀ v∈out,v∈vs)->P (.done (.ret .none)) {s with heap:=sortedHeap s.heap a vs out.toArray}):
  wpAny (model prog w) A (Builtin.«list.sort» ⟨[.ref a],[(Str.ofString "reverse",.bool b)]⟩) P E s:=by
 have la:a < s.heap.objs.size:=JW ho;have small:vs.length<=sizeLine:=by rw [sizeLine_eq]; omega
 have sb:=Heap.SameBut.update s.heap a (Obj.mapSeq λ_=>(#[]:KW KM))
 obtain⟨ep,g1⟩:∃ ep,(s.heap.update a (Obj.mapSeq λ_=>(#[]:KW KM))).get? a=some (seqObj "list" #[] ep):=⟨_,get?_update_seq ho λ_=>#[]⟩
 have t6:kf (((s.heap.update a (Obj.mapSeq λ_=>(#[]:KW KM))).push (seqObj "tuple" vs.toArray 0)).push (seqObj "list" #[] 0)) vs ks:=t.mono λc o hc g=>by
  have ne:c≠a:=λe=>by
   rw [e,ho] at g;cases g;exact absurd hc (by simp)
  exact pp _ (pp _ ((sb.2 c ne).trans g))
 have g6:(((s.heap.update a (Obj.mapSeq λ_=>(#[]:KW KM))).push (seqObj "tuple" vs.toArray 0)).push (seqObj "list" #[] 0)).get? a=some (seqObj "list" #[] ep):=pp _ (pp _ g1)
 have back:∀ {out:List KM} {ks':List (Int×Int)},kf (((s.heap.update a (Obj.mapSeq λ_=>(#[]:KW KM))).push (seqObj "tuple" vs.toArray 0)).push (seqObj "list" #[] 0)) out ks'->(∀ v∈out,v∈vs)->kf s.heap out ks':=λ{out ks'} q sub=>by
  induction q with
  | nil=>exact .nil
  | cons r q ih=>
   rename_i v k l1 l2
   refine .cons ?_ (ih λv hv=>sub v (J5 _ hv))
   obtain⟨c,o,t1,u1,m1,rfl,e1,c1,d1⟩:=r;have hm:=sub _ J4;have old:∃ o',s.heap.get? c=some o'/\o'.cls=.type "tuple":=by
    clear sub ih q h nd h64 small sb g1 t6 g6 e1 c1 d1 ho la
    induction t with
    | nil=>cases hm
    | cons r t ih=>
     rcases J2.mp hm with e | e
     ·obtain⟨c',o',_,_,_,e',g',c2,_⟩:=r;cases e.trans e';exact⟨o',g',c2⟩
     ·exact ih e
   obtain⟨o',g',c'⟩:=old;have ne:c≠a:=λe=>by
    rw [e,ho] at g';cases g';exact absurd c' (by simp)
   have:=pp (seqObj "list" #[] 0) (pp (seqObj "tuple" vs.toArray 0) ((sb.2 c ne).trans g'))
   rw [this] at e1;cases e1;exact⟨c,o,t1,u1,m1,rfl,g',c1,d1⟩
 rw [list_sort_rev];refine gt (listItems_at ho rfl (gt (listUpdate_at ho rfl (gt (seqEpoch_at g1 rfl (gt (wpAny_newTuple (gt (wpAny_newList (Kf ?_) (Kz _))) small)))) (by rw [J1]; exact small) (Kz _))))
 show wpAny (model prog w) A _ P E {s with heap:=((s.heap.update a (Obj.mapSeq λ_=>(#[]:KW KM))).push (seqObj "tuple" vs.toArray 0)).push (seqObj "list" #[] 0)}
 dsimp only;have lz:vs.toArray.size=vs.length:=J1;rw [BI b vs];have done:∀ out ks',kf s.heap out ks'->ks'.Perm ks->ks'.Pairwise (λx y=>lx x y=true)->(∀ v∈out,v∈vs)->P (.done (.ret .none)) {s with heap:=sortedHeap s.heap a vs (if b=true then(List.toArray out).reverse else List.toArray out)}:=λout ks' q1 q2 q3 q4=>by
  rw [xx];exact h _ _ (rX q1) ((eM b ks').trans q2) (BV q3) λv hv=>q4 v ((eM b out).mem_iff.mp hv)
 have few:∀ out:List KM,out.length=vs.length->(if b=true then(List.toArray out).reverse else List.toArray out).size<=sizeLine+1:=λout e=>by
  rw [xx,J1,ki,e];omega
 by_cases h2:vs.length < 2
 ·have h2':vs.toArray.size < 2:=by rw [lz]; exact h2
  simp only [if_pos h2'];have z:((way b vs).toArray.zip (way b vs).toArray).map (·.2)=List.toArray (way b vs):=by
   simp only [List.zip_toArray,List.map_toArray]
   congr 1
   exact List.map_snd_zip (JX _)
  have fin:=done (way b vs) (way b ks) (rX t) (eM b ks) (by
   have l2:(way b ks).length < 2:=by rw [ki,<- t.length]; exact h2
   match way b ks,l2 with
   | [],_=>exact List.Pairwise.nil
   | [x],_=>exact List.pairwise_singleton _ _
   | _::_::_,l2=>exact absurd l2 (by simp)) λv hv=>(eM b vs).mem_iff.mp hv
  have fw:=few (way b vs) (ki b vs);rw [<- z] at fin fw
  cases b
  ·refine gt (JU ?_);rw [StateT.run_pure];refine gt (JU (gt (seqEpoch_at g6 rfl (gt (listUpdate_at g6 rfl ?_ (Kz _) fw)))));simp only [bne_self_eq_false,Bool.false_eq_true,if_false];exact JU fin
  ·refine gt (wpAny_rule (gt (JU ?_)));rw [StateT.run_pure];refine gt (JU (gt (seqEpoch_at g6 rfl (gt (listUpdate_at g6 rfl ?_ (Kz _) fw)))));simp only [bne_self_eq_false,Bool.false_eq_true,if_false];exact JU fin
 ·have h2':¬ vs.toArray.size < 2:=by rw [lz]; exact h2
  simp only [if_neg h2'];have nd':(way b ks).Nodup:=(eM b ks).nodup_iff.mpr nd;have w2:2<=(way b vs).length:=by rw [ki]; omega
  have w64:(way b vs).length < 64:=by rw [ki]; exact h64
  have go:=λE'=>yn (prog:=prog) (w:=w) (A:=A) (E:=E') (s:={s with heap:=((s.heap.update a (Obj.mapSeq λ_=>(#[]:KW KM))).push (seqObj "tuple" vs.toArray 0)).push (seqObj "list" #[] 0)}) (vs:=way b vs) (ks:=way b ks)
   (Q:=λst' s'=>∃ out ks',(arrOf st').map (·.2)=List.toArray out/\failedOf st'=none/\kf s.heap out ks'/\ks'.Perm ks/\ks'.Pairwise (λx y=>lx x y=true)/\out.length=vs.length/\(∀ v∈out,v∈vs)/\s'={s with heap:=((s.heap.update a (Obj.mapSeq λ_=>(#[]:KW KM))).push (seqObj "tuple" vs.toArray 0)).push (seqObj "list" #[] 0)}) (rX t6) nd' w2 w64 (λst' out ks' q1 q2 q3 q4 q5 q6 q7=>⟨out,ks',q1,q2,back q3 (λv hv=>(eM b vs).mem_iff.mp (q7 v hv)),q4.trans (eM b ks),q5,by rw [q6,ki],(λv hv=>(eM b vs).mem_iff.mp (q7 v hv)),rfl⟩)
  cases b
  ·refine gt (pA t6 (by omega) (gt (Km (go _) ?_ λ_ _ e=>e)))
   rintro⟨⟨⟩,st'⟩ s' ⟨out,ks',q1,q2,q3,q4,q5,q6,q7,rfl⟩;refine gt (seqEpoch_at g6 rfl (gt (listUpdate_at g6 rfl ?_ (Kz _) (by rw [q1]; exact few out q6))))
   rw [q1,q2];simp only [bne_self_eq_false,Bool.false_eq_true,if_false];exact JU (done out ks' q3 q4 q5 q7)
  ·refine gt (wpAny_rule (gt (pA t6 (by omega) (gt (Km (go _) ?_ λ_ _ e=>e)))))
   rintro⟨⟨⟩,st'⟩ s' ⟨out,ks',q1,q2,q3,q4,q5,q6,q7,rfl⟩;refine gt (seqEpoch_at g6 rfl (gt (listUpdate_at g6 rfl ?_ (Kz _) (by rw [q1]; exact few out q6))))
   rw [q1,q2];simp only [bne_self_eq_false,Bool.false_eq_true,if_false];exact JU (done out ks' q3 q4 q5 q7)
end
end ZS
namespace PySem
theorem uI {prog:KQ} {w:KS} {A:KR} {E:KM->KL->Prop} {s:KL} {T:KZ} {r d:KN} {n:Nat} {P:Nat->KM->Prop} {OK:KT->Prop} {Q:List KM->KL->Prop} (K:PySem.W.KdlSrc prog w T r d n P OK) (hh:A.handled=none) (hok:OK s.heap) (hz:n<=sizeLine)
  (h:∀ h' tk acc,(∀ b o,s.heap.get? b=some o->h'.get? b=some o)->s.heap.objs.size < h'.objs.size->ItemsOf P acc n->Q acc.toList {s with heap:=h',toks:=tk}):wpAny (model prog w) A (collect (.ref r)) Q E s:=by
 obtain⟨l1,l2⟩:=K.there _ hok;unfold collect;have code:∀ {R:Result->KL->Prop},(∀ h' tk acc c',(∀ b o,s.heap.get? b=some o->h'.get? b=some o)->h'.get? s.heap.objs.size=some {cls:=.type "list",dict:=none,data:=.seq acc c',slots:=#[]}->ItemsOf P acc n->R (.ok (.ret (.ref s.heap.objs.size))) {s with heap:=h',toks:=tk})->codeAny (model prog w) A (.builtin "proto.collect" ⟨[.ref r],[]⟩) R s:=λ{R} hR=>by
  refine Kk F.entry_proto_collect ?_;rw [Kd F.plain_proto_collect _];refine gt (Kh (JU ⟨plainId_quiet F.plain_list_iadd _,Kk F.entry_list_iadd ?_⟩));rw [Kd F.plain_list_iadd _];have g:(s.heap.push {cls:=.type "list",data:=.seq ([]:List KM).toArray}).get? s.heap.objs.size=some {cls:=.type "list",data:=.seq #[] 0}:=JV _ rfl
  exact PySem.W.kdl_extend (R:=R) (s:={s with heap:=s.heap.push {cls:=.type "list",data:=.seq ([]:List KM).toArray}}) K hh (K.keep _ _ hok λb _ o e=>pp _ e) s.heap.objs.size (Nat.ne_of_gt l1) (Nat.ne_of_gt l2) _ 0 g (λh' tk acc c' kk gn itm=>hR h' tk acc c' (λb o e=>kk b o (J3 (JW e)) (pp _ e)) gn itm) hz
 refine gt (wpAny_runValue (code λh' tk acc c' kk gn itm=>?_))
 show wpAny _ A (load s.heap.objs.size >>= _) _ _ _
 exact gt (wpAny_load gn (JU (h h' tk acc kk (JW gn) itm)))
end PySem
namespace L2
open PySem PySem.Spec PyProof.Rows ZS
theorem Ec {P:KQ} {w:KS} {a:KN} {es:KW K0} {ep:Nat}:PySem.W.KdlSrc P w "dict" a a es.size (λi v=>∃ e,es[i]?=some e/\v=qI.of e .k) (λh=>(a == sysModules)=false/\h.get? a=some (DL.nP es ep)) where
 type:=λs ok=>⟨_,ok.2,rfl⟩
 there:=λh ok=>⟨JW ok.2,JW ok.2⟩
 keep:=λh h' ok k=>⟨ok.1,k a (.inl rfl) _ ok.2⟩
 notList:=by decide
 notTuple:=by decide
 hint:=λA E s Q ok q=>PySem.W.kdl_hint_dict ⟨_,ok.2,rfl⟩ q
 iter:=λA s hh ok=>⟨vo "dict_keyiterator" a 0 es.size ep,_,λE Q q=>qY ok.1 ok.2 q,z8 .k hh s.heap.objs.size a (J3 (JW ok.2)) es ep,⟨JV _ rfl,pp _ ok.2⟩⟩
section
variable {prog:KQ} {w:KS} {A:KR} {E:KM->KL->Prop} {s:KL}
theorem uJ {a:KN} {ys:List (List Int×KN×KM)} {ks:List (Int×Int)} {ep:Nat} {b kw:KY} {Q:KM->KL->Prop} (hk:kw=false->b=false) (hh:A.handled=none) (h0:(a == sysModules)=false) (g:s.heap.get? a=some (DL.nP (ys.map DL.eT).toArray ep)) (t:kf s.heap (ys.map λy=>.ref y.2.1) ks) (nd:ks.Nodup) (h64:ys.length < 64)
  (q:∀ h' tk l out ks' e,s.heap.objs.size<=l->(∀ c o,s.heap.get? c=some o->h'.get? c=some o)->h'.get? l=some (seqObj "list" (List.toArray out) e)->kf s.heap out ks'->ks'.Perm ks->zA b ks'->(∀ v∈out,v∈ys.map λy=>Value.ref y.2.1)->Q (.ref l) {s with heap:=h',toks:=tk}):
  wpAny (model prog w) A (call (.builtin "sorted") [.ref a] (if kw=true then [(Str.ofString "reverse",.bool b)] else [])) Q E s:=by
 have sz:(ys.map DL.eT).toArray.size=ys.length:=by simp
 have small:ys.length<=sizeLine:=by rw [sizeLine_eq]; omega
 have coll:∀ {R:List KM->KL->Prop},(∀ h' tk,(∀ c o,s.heap.get? c=some o->h'.get? c=some o)->s.heap.objs.size < h'.objs.size->R (ys.map λy=>.ref y.2.1) {s with heap:=h',toks:=tk})->wpAny (model prog w) A.in1 (collect (.ref a)) R E s:=λ{R} hR=>by
  refine uI (Ec (a:=a) (es:=(ys.map DL.eT).toArray) (ep:=ep)) hh ⟨h0,g⟩ (by rw [sz]; exact small) λh' tk acc kk l1 itm=>?_
  have ev:acc.toList=ys.map λy=>Value.ref y.2.1:=by
   obtain⟨l1,l2⟩:=itm;apply List.ext_getElem?;intro i;rw [Array.getElem?_toList,Ki];cases q1:acc[i]? with
   | none=>
    have:acc.size<=i:=by simpa using q1
    rw [l1,sz] at this;rw [List.getElem?_eq_none this]
    rfl
   | some v=>
    obtain⟨e,he,rfl⟩:=l2 i v q1;simp only [List.getElem?_toArray,Ki] at he;obtain⟨y,hy,rfl⟩:=Option.map_eq_some_iff.mp he;rw [hy]
    rfl
  rw [ev];exact hR h' tk kk l1
 have go:∀ (h1:KT) (tk:Nat) (kk:∀ c o,s.heap.get? c=some o->h1.get? c=some o) (l1:s.heap.objs.size < h1.objs.size) {P:PySem.Fin->KL->Prop},(∀ (h':KT) (l:KN) (out:List KM) (ks':List (Int×Int)) (e:Nat),s.heap.objs.size<=l->l=h1.objs.size->(∀ c o,s.heap.get? c=some o->h'.get? c=some o)->h'.get? l=some (seqObj "list" (List.toArray out) e)->kf s.heap out ks'->ks'.Perm ks->zA b ks'->(∀ v∈out,v∈ys.map λy=>Value.ref y.2.1)->P (.done (.ret .none)) {s with heap:=h',toks:=tk})->
   wpAny (model prog w) A.in1.in1 (Builtin.«list.sort» ⟨[.ref h1.objs.size],[(Str.ofString "reverse",.bool b)]⟩) P E {s with heap:=h1.push (seqObj "list" (ys.map λy=>Value.ref y.2.1).toArray 0),toks:=tk}:=λh1 tk kk l1 {P} hP=>by
  have gl:(h1.push (seqObj "list" (ys.map λy=>Value.ref y.2.1).toArray 0)).get? h1.objs.size=some (seqObj "list" (ys.map λy=>Value.ref y.2.1).toArray 0):=JV _ rfl
  have kp:∀ c o,s.heap.get? c=some o->(h1.push (seqObj "list" (ys.map λy=>Value.ref y.2.1).toArray 0)).get? c=some o:=λc o e=>pp _ (kk c o e)
  refine xD (s:={s with heap:=h1.push (seqObj "list" (ys.map λy=>Value.ref y.2.1).toArray 0),toks:=tk}) gl (t.mono λc o _ e=>kp c o e) nd (by rw [JZ]; exact h64) λout ks' t' p' o' sub=>?_
  obtain⟨e',g'⟩:=sortedHeap_at (out:=List.toArray out) gl;refine hP _ _ out ks' e' (Nat.le_of_lt l1) rfl (λc o e=>?_) g' ?_ p' o' sub
  ·have lc:=JW (kk c o e);rw [sortedHeap_old (J3 lc) (by rw [size_push']; exact Nat.lt_succ_of_lt lc)]
   exact kp c o e
  ·clear p' o' g' hP
   induction t' with
   | nil=>exact .nil
   | cons r t' ih=>
    refine .cons ?_ (ih λv hv=>sub v (J5 _ hv))
    obtain⟨c,o,t1,u1,m1,rfl,e1,c1,d1⟩:=r;have hm:=sub _ J4;have old:∃ o',s.heap.get? c=some o':=by
     clear coll ih sub;generalize (ys.map λy=>Value.ref y.2.1)=vs at t hm
     clear e1 gl kp nd q
     induction t with
     | nil=>cases hm
     | cons r t ih=>
      rcases J2.mp hm with e | e
      ·obtain⟨c',o',_,_,_,e',g',_⟩:=r;cases e.trans e';exact⟨o',g'⟩
      ·exact ih e
    obtain⟨o',g'⟩:=old;have:=kp c o' g';rw [show (h1.push (seqObj "list" (ys.map λy=>Value.ref y.2.1).toArray 0)).get? c=some o from e1] at this
    cases this;exact⟨c,o,t1,u1,m1,rfl,g',c1,d1⟩
 cases kw with
 | false=>
  have:=hk rfl;subst this;refine Calls.call_function_entry kind_sorted plain_sorted entry_sorted (args_sorted1 _) ?_;unfold Builtin.«sorted»;refine gt (m:=checkCount "sorted" 1 1 _) (JU (gt (coll λh1 tk kk l1=>gt (wpAny_newList (gt (Kf (Ku slot_list_sort ⟨_,JV _ rfl,rfl⟩ entry_list_sort ?_ (args_list_sort _)))) (by rw [JZ]; exact small)))))
  show wpAny _ _ (Builtin.«list.sort» ⟨[.ref h1.objs.size],[]⟩) _ _ _
  rw [xS];exact go h1 tk kk l1 λh' l out ks' e l1 l2 k2 g2 t2 p2 o2 s2=>⟨_,rfl,JU ⟨_,rfl,by subst l2; exact q h' tk _ out ks' e l1 k2 g2 t2 p2 o2 s2⟩⟩
 | true=>
  refine call_function_entry_kw kind_sorted plain_sorted entry_sorted (args_sorted_rev _ _) ?_;unfold Builtin.«sorted»;refine gt (m:=checkCount "sorted" 1 1 _) (JU (gt (coll λh1 tk kk l1=>gt (wpAny_newList (gt (Kf (wpAny_call_entry_kw slot_list_sort ⟨_,JV _ rfl,rfl⟩ entry_list_sort ?_ (args_list_sort_rev _ _)))) (by rw [JZ]; exact small)))))
  exact go h1 tk kk l1 λh' l out ks' e l1 l2 k2 g2 t2 p2 o2 s2=>⟨_,rfl,JU ⟨_,rfl,by subst l2; exact q h' tk _ out ks' e l1 k2 g2 t2 p2 o2 s2⟩⟩
end
end L2
namespace DL
open PySem PySem.Spec PyProof.Rows L2 ZS
abbrev Av (k:Int×Int):D:=.tup [.int k.1,.int k.2]
def pR (b:KY):bE:=λds S k=>match ds with
 | [.ref a]=>∃ kvs ep ks,S a=some (.gen (.dT kvs ep))/\kvs.map (·.1)=ks.map (λk:Int×Int=>[k.1,k.2])/\ks.length < 64/\∀ ks',ks'.Perm ks->zA b ks'->∀ p,S p=none->k (.ref p) (put S p (.lst (ks'.map Av)))
 | _=>False
section
variable {X:Cx} {K2:List (KN×K1)} {σ:L2.St} {H:Hp} {s:KL}
theorem AR (I:aE X K2 σ H s):∀ {kvs:List (List Int×D)} {xs:List (List Int×KN×KM)} {ks:List (Int×Int)},li X.K H kvs xs->kvs.map (·.1)=ks.map (λk:Int×Int=>[k.1,k.2])->kf s.heap (xs.map λy=>.ref y.2.1) ks/\xs.map (·.1)=ks.map (λk:Int×Int=>[k.1,k.2])/\∀ v∈xs.map λy=>Value.ref y.2.1,∃ c k,v=.ref c/\lU s.heap v k/\gZ X.K H c [.int k.1,.int k.2]
 | _,_,[],.nil,_=>⟨.nil,rfl,λ_ h=>nomatch h⟩
 | _,_,_::_,.nil,e=>by cases e
 | _,_,[],.cons _ _,e=>by cases e
 | (n::kvs),(x::xs),k::ks,.cons r t,e=>by
  obtain⟨r1,r2,_⟩:=r;rw [J8,J8] at e;injection e with e1 e2
  obtain⟨a1,a2,a3⟩:=AR I t e2;rw [e1] at r2;have r2:gZ X.K H x.2.1 [.int k.1,.int k.2]:=r2;obtain⟨its,rv,⟨o,g,c,m,dd⟩,_⟩:=I.tuple r2;obtain⟨t1,t2,rfl⟩:∃ t1 t2,its=[.int k.1 t1,.int k.2 t2]:=by
   cases rv with
   | cons ra rb=>
    cases rb with
    | cons rb rc=>
     cases rc;obtain⟨t1,rfl⟩:=ra;obtain⟨t2,rfl⟩:=rb;exact⟨t1,t2,rfl⟩
  have pv:lU s.heap (.ref x.2.1) k:=⟨x.2.1,o,t1,t2,m,rfl,g,c,by simpa using dd⟩
  refine⟨.cons pv a1,?_,λv hv=>?_⟩
  ·rw [J8,J8,a2,<- r1,e1]
  ·rcases J2.mp hv with rfl | hv
   ·exact⟨x.2.1,k,rfl,pv,r2⟩
   ·exact a3 v hv
theorem xL {h:KT} {v:KM} {k k':Int×Int} (a:lU h v k) (b:lU h v k'):k=k':=by
 obtain⟨c,o,t,u,m,rfl,g,_,d⟩:=a;obtain⟨c',o',t',u',m',e,g',_,d'⟩:=b;cases e;rw [g] at g';cases g';rw [d] at d';injection d' with d1 d2
 have d1:=congrArg Array.toList d1;simp only [List.cons.injEq,and_true] at d1;obtain⟨x,y⟩:=d1;injection x with x1 x2
 injection y with y1 y2
 exact Prod.ext x1 y1
theorem yX:∀ {out:List KM} {ks:List (Int×Int)},kf s.heap out ks->(∀ v∈out,∃ c k,v=.ref c/\lU s.heap v k/\gZ X.K H c [.int k.1,.int k.2])->∃ vs:List V,aV vs out/\IsDs X.K H (ks.map Av) vs
 | _,_,.nil,_=>⟨[],.nil,IsDs.nil⟩
 | _,_,.cons r t,h=>by
  obtain⟨vs,a,b⟩:=yX t λv hv=>h v (J5 _ hv)
  obtain⟨c,k,rfl,p,q⟩:=h _ J4;have e:=xL r p;subst e;exact⟨.ref c::vs,.cons rfl a,IsDs.cons (bw.mpr ⟨c,_,rfl,q,IsDs.cons (isInt.mpr rfl) (IsDs.cons (isInt.mpr rfl) IsDs.nil)⟩) b⟩
theorem tL {b kw:KY} (hk:kw=false->b=false) (hc:X.calm=true) (I:aE X K2 σ H s) {ds:List D} {xs:List V} {us:List KM} {S:DH} {k:DK} {Q:VK} (i:IsDs X.K H ds xs) (rs:aV xs us) (hS:Hs X.K H S) (r:pR b ds S k) (n:∀ d' S' v H',k d' S'->Kp H H'->Hs X.K H' S'->bA X.K H' d' v->Q v H'):
  wpAny (model X.prog X.w) X.A (call (.builtin "sorted") us (if kw=true then [(Str.ofString "reverse",.bool b)] else [])) (EP X K2 σ Q) X.xe s:=by
 unfold pR at r
 split at r
 ·rename_i a
  obtain⟨kvs,ep,ks,z,ek,h64,w⟩:=r;obtain⟨v1,rfl,i1⟩:=cf i;have e1:=aR.mp i1;subst e1;obtain⟨u,rfl,rfl⟩:=rs.one;obtain⟨ys,e,rk⟩:oq X.K H a (.dT kvs ep):=hS a _ z;obtain⟨h0,hz,nd,g⟩:=dj I e;obtain⟨p1,p2,p3⟩:=AR I rk ek;have ndk:ks.Nodup:=by
   rw [p2] at nd;exact(List.pairwise_map.mp nd).imp λne q=>ne (by rw [q])
  have l64:ys.length < 64:=by
   have:=congrArg List.length p2;rw [JZ,JZ] at this;omega
  refine uJ hk (I.ok.hd hc) h0 g p1 ndk l64 λh' tk l out ks' e' hl kk gl t' pm od sub=>?_
  obtain⟨vs,rv,iv⟩:=yX t' λv hv=>p3 v (sub v hv)
  have hf:H l=none:=I.hok.fresh hl;have small:vs.length<=sizeLine:=by
   have a1:=iv.length;have a2:=pm.length_eq;rw [JZ] at a1;rw [sizeLine_eq];omega
  exact⟨.ref l,br H l (.lst vs),I.laid (t':=tk) kk hl ⟨small,out,e',rv,gl⟩,rfl,n _ _ _ _ (w ks' pm od l (hS.free hf)) (Kp.new hf) (hS.newL hf iv) (aR.mpr rfl)⟩
 ·exact r.elim
theorem BU (hc:X.calm=true):bP X (.builtin "sorted") (nX X.K (pR false)):=by
 intro K2 s σ H xs us Q I rs h;obtain⟨ds,S,k,i,hS,r,n⟩:=h;exact tL (b:=false) (kw:=false) (λ_=>rfl) hc I i rs hS r n
def Eh (t:DA):DE:=λL S k=>t L S λds S1=>pR true ds S1 k
theorem A6 {x:Str} {p pos kp:Pos} {e ed:KP} {t:DA} (hg:Gl X x) (hm:X.mg x=none) (hv:bootBuiltins x=some (.builtin "sorted")) (ha:AJ X [e] t) (hd:EJ X ed (dC (.bl true))) (hc:X.calm=true:=by rfl) (hn:x≠"__name__":=by decide) (hdb:(x == ("__debug__":Str))=false:=by decide)
  (he:backTo pos (starEach [e] X.env)=(false,eval e X.env)::backTo pos (starEach [] X.env):=by rfl) (hpl:(backTo pos (starEach [e] X.env)).any (·.1)=false:=by rfl):
  EJ X (.Call (.Name x p) [e] [⟨some "reverse",ed,kp⟩] pos) (Eh t):=
 ⟨PE.imp (xz (r:=λxs d H Q=>d=.bl true/\nX X.K (pR true) xs H Q) (λK2 s σ H xs us d u Q I r1 r2 h=>by
   obtain⟨rfl,ds,S,k,i,hS,r,n⟩:=h;cases (show u=Value.bool true from r2)
   exact tL (b:=true) (kw:=true) (λz=>by cases z) hc I i r1 hS r n) hg hm hv ha.h hd.h hn hdb he hpl) fun σ H Q ⟨L,S,k,hL,hS,h,n⟩=>qT.go hL hS h λds S1 vs H1 h1 k1 hL1 hS1 i1=>⟨L,S1,λd S2=>d=.bl true/\S2=S1,hL1,hS1,⟨rfl,rfl⟩,λd S2 v H2 ⟨e1,e2⟩ k2 hS2 i2=>by
  subst e1 e2;exact⟨aS.mp i2,ds,S2,k,i1.kp k2,hS2,h1,λd' S' v H' q k3 z1 z2=>n d' S' v H' q (k1.trans (k2.trans k3)) z1 z2⟩⟩⟩
end
end DL
namespace L2
open PySem PySem.Spec PyProof.Rows
theorem uD (l:KN) (xs:KW KM) (n:Nat) (dct:KO KN) (sl:KW (KO KM)) (t:Tok):
  Meets (Builtin.«enumerate.__new__» ⟨[.type "enumerate",.ref l],[("start",.int 1 t)]⟩) (λ_ R s=>s.heap.get? l=some ⟨.type "list",dct,.seq xs n,sl⟩/\
   R (.ok (.ret (.ref (Bh s.heap "list_iterator" l).objs.size))) {s with heap:=(Bh s.heap "list_iterator" l).push {cls:=.type "enumerate",data:=.fields #[.none,.bool false,.ref s.heap.objs.size,rawInt 1,.none,.none]}}):=
 .of_wp λprog w A R s h=>by
  obtain⟨hp,g,d,tk,os⟩:=s;obtain⟨hl,h⟩:=h;have hsub:=sub_enumerate;have hT:Heap.IsList (Shared.heap ⟨hp,g,d,tk,os⟩) l xs:=⟨_,hl,rfl,n,rfl⟩
  wp_walk using AutoSeq1.wpAny_loadPart' hl
  refine wpAny_stack_any λ_=>JU ?_
  split
  ·rename_i c _ _ _ _ _
   cases (c == Value.type "enumerate") <;> (wp_walk using AutoSeq1.wpAny_loadPart' hl,wpAny_pyIter_list hT; exact⟨_,rfl,h⟩)
  ·wp_walk using AutoSeq1.wpAny_loadPart' hl,wpAny_pyIter_list hT
   exact⟨_,rfl,h⟩
theorem A_ (self l v:KM) (hk:List (Str×KM)) (T:KZ) (hl:typeLookup (.type T) "__init__"=pure (some (.builtin "object.__init__"))) {newId:KZ} (hm:Bind.madeBy (.type T)=pure (some newId)) (hne:(some newId != some "object.__new__")=true):
  Meets (Builtin.«object.__init__» ⟨[self,l],[("start",v)]⟩) (λ_ R s=>s.TypeIs self T/\R (.ok (.ret .none)) s):=by
 refine Meets.of_wp λprog w A R s hs=>?_
 obtain⟨hT,hq⟩:=hs
 repeat (any_goals (first | assumption | wp_step))
 exact⟨_,rfl,hq⟩
section
variable {prog:KQ} {w:KS} {A:KR} {E:KM->KL->Prop} {s:KL}
theorem uO (self l v:KM):argsOk "object.__init__" ⟨[self,l],[("start",v)]⟩:=by unfold argsOk; kernel_rfl
theorem v4 {l:KN} {xs:KW KM} {n:Nat} {dct:KO KN} {sl:KW (KO KM)} {t:Tok} {Q:KM->KL->Prop} (hL:s.heap.get? l=some ⟨.type "list",dct,.seq xs n,sl⟩)
  (h:∀ h',IsEnum h' (s.heap.objs.size+1) s.heap.objs.size 1 .none->h'.IsListIter s.heap.objs.size l 0->(∀ c o,s.heap.get? c=some o->h'.get? c=some o)->Q (.ref (s.heap.objs.size+1)) {s with heap:=h'}):
  wpAny (model prog w) A (call (.type "enumerate") [.ref l] [("start",.int 1 t)]) Q E s:=by
 have ft:=F.called_enumerate;obtain⟨c,tl,hmro⟩:=ft.mro;have hmade:=ft.made;have hsub:=ft.sub;have h1:=ft.notType;have h2:=ft.canCreate;have hct:checkTypeCall "enumerate" ⟨[.ref l],[("start",.int 1 t)]⟩=pure ():=by kernel_rfl
 have hcn:checkBuiltinCall "enumerate.__new__" ⟨[.type "enumerate",.ref l],[("start",.int 1 t)]⟩=pure ():=by kernel_rfl
 refine wpAny_call (codeAny_of_tree ?_)
 show wpAny _ _ (callAny (.type "enumerate") _) _ _ _
 refine JU ⟨Code.quiet_builtin _ (by decide +kernel),Kk F.entry_type_call ?_⟩
 rw [Around.under_plain (weight_type_call_type "enumerate" [.ref l] [("start",.int 1 t)]) (units_type_call_type "enumerate" [.ref l] [("start",.int 1 t)])]
 repeat (any_goals (first | assumption | wp_step))
 have z1:(Bh s.heap "list_iterator" l).objs.size=s.heap.objs.size+1:=KB ..
 have g5:=JV (Bh s.heap "list_iterator" l) (o:={cls:=.type "enumerate",data:=.fields #[.none,.bool false,.ref s.heap.objs.size,rawInt 1,.none,.none]}) rfl
 have fin:wants (λobj s₁=>s₁.TypeIs obj "enumerate"/\Q obj s₁) E (.ok (.ret (.ref (Bh s.heap "list_iterator" l).objs.size))) {s with heap:=(Bh s.heap "list_iterator" l).push {cls:=.type "enumerate",data:=.fields #[.none,.bool false,.ref s.heap.objs.size,rawInt 1,.none,.none]}}:=by
  show _/\_
  rw [z1] at g5 ⊢;exact⟨⟨_,g5,rfl⟩,h _ g5 ⟨_,pp _ (JV _ rfl),rfl,rfl⟩ λc o x=>pp _ (pp _ x)⟩
 refine codeAny_mono (codeAny_call_builtin ft.plain F.entry_enumerate_new (wpAny_of_eq hcn (uD l xs n dct sl t prog w A.in1 _ s ⟨hL,fin⟩))) λr s₁ hr=>?_
 cases r with
 | error e=>exact hr
 | ok fl=>
  cases fl with
  | ret obj=>
   obtain⟨hT,hq⟩:=hr;have hli:=ft.init.lookup;have hbi:=ft.init.bind obj
   repeat (any_goals (first | assumption | wp_step))
   refine codeAny_mono (codeAny_call_builtin ft.init.plain F.entry_object_init (ft.init.check _ _ _ _ _ _ _ _ hT (uO obj _ _) (A_ obj (.ref l) (.int 1 t) [] "enumerate" ft.init.lookup ft.made (by decide) prog w A.in1 (wants (λr s₂=>r=.none/\Q obj s₂) E) s₁ ⟨hT,rfl,hq⟩))) λr₂ s₂ hr₂=>?_
   cases r₂ with
   | error e=>exact hr₂
   | ok fl₂=>
    cases fl₂ with
    | ret r=>
     obtain⟨rfl,hq⟩:=hr₂
     repeat (any_goals (first | assumption | wp_step))
    | _=>exact hr₂.elim
  | _=>exact hr.elim
end
theorem Au {P:KQ} {w:KS} {A:KR} {it:KN} {fp:List KN} {n:Nat} {R:Nat->KM->Prop} {St:Nat->KT->Prop} (D:Draws P w A it fp n R St):Draws P w A it fp (n+1) (λj x=>∃ i,j=i+1/\R i x) (λj h=>∃ i,j=i+1/\St i h) where
 live:=λj h ⟨i,_,st⟩=>D.live i h st
 frame:=λj h h' ⟨i,e,st⟩ q=>⟨i,e,D.frame i h h' st q⟩
 item:=λj s Q E hj ⟨i,e,st⟩ hQ=>D.item i s Q E (by omega) st λx h' tk p st' sb=>hQ x h' tk ⟨i,e,p⟩ ⟨i+1,by omega,st'⟩ sb
 done := fun s Q E ⟨i, e, st⟩ hE => D.done s Q E (by have : i = n := by omega
                                                     subst this; exact st) hE
def AI (K:PySem.W.Frag) (b:KY) (a:KN):It:=
 ⟨λi H => ∃ xs x, wu b K H a xs ∧ xs[i]? = some x,
  λi H v H'=>∃ T x,v=.ref T/\H T=none/\H'=br H T (.tup [.int ((i+1:Nat):Int),x])/\∀ xs,wu b K H a xs->xs[i]?=some x,
  λi H=>∃ xs,wu b K H a xs/\xs.length=i⟩
def JD (b:KY) (e it a:KN) (i:Nat) (h:KT):Prop:=(∃ old,IsEnum h e it ((i+1:Nat):Int) old)/\Hk b it a i h
theorem vV {P:KQ} {w:KS} {K:PySem.W.Frag} {es:List KP} {k:Nat} {pos:Pos} (b:KY) {e it a:KN} (h1:e≠it) (h2:e≠a) (h3:it≠a):
  qo P w K (.Tuple es k pos) (AI K b a) [e,it] e (JD b e it a) where
 mem:=by simp
 obj:=λi h st c hc=>by
  obtain⟨⟨old,he⟩,hi⟩:=st;have hc':c=e\/c=it:=by simpa using hc
  rcases hc' with rfl | rfl
  ·exact⟨_,he,λv q=>by cases q⟩
  ·exact(dL (P:=P) (w:=w) b c a).obj _ _ hi
 keep:=λi h h' st q=>by
  obtain⟨⟨old,he⟩,hi⟩:=st;exact⟨⟨old,q e (by simp) _ he⟩,(dL (P:=P) (w:=w) b it a).at_ _ _ _ hi λo x=>q it (by simp) o x⟩
 item:=by
  intro X hP hw hK hc i K2 s σ H E I hf st hg;subst hP hw hK;obtain⟨xs,x,q1,hx⟩:=hg;obtain⟨its,rv,p⟩:=I.sqB q1;obtain⟨u,hu,ru⟩:=rv.get hx;obtain⟨⟨old,he⟩,hi⟩:=st;have hn:H s.heap.objs.size=none:=I.hok.fresh (JX _);have helt:e < s.heap.objs.size:=JW he;have hilt:it < s.heap.objs.size:=by obtain⟨o,z,_⟩:=(dL (P:=X.prog) (w:=X.w) b it a).obj _ _ hi; exact JW z
  have hlt:i < its.toArray.size:=by
   have:=Kl.mp hu;obtain⟨z,_⟩:=this
   simpa using z
  refine wpAny_pyNext_enum_itemD (Au (sC b it a its.toArray (show X.A.in1.handled=none from I.ok.hd hc) h3)) he ⟨i,rfl,hi,p⟩ (Nat.succ_lt_succ hlt) h1 (by simp [h1,h2]) λx' h' tk ⟨i',ei,hx'⟩ ho hst hT hsz hk=>?_
  have ei:i=i':=by omega
  subst ei;obtain⟨i2,e2,hst',_⟩:=hst;have e2:i2=i+1:=by omega
  subst e2;have ex:x'=u:=by
   have z:its[i]?=some x':=by simpa using hx'
   rw [hu] at z;exact(Kj z).symm
  subst ex;have I1:aE X K2 σ (br H s.heap.objs.size (.tup [.int ((i+1:Nat):Int),x])) {s with heap:=h',toks:=tk+1}:=
   I.turnedNew (t':=tk+1) [e,it] (λc o hb y=>hk c o (λq=>hb (by simp [q])) (λq=>hb (by simp [q])) y) hf (JX _) ⟨Kb rfl,[.int ((i+1:Nat):Int) tk,x'],.cons ⟨tk,rfl⟩ (.cons ru .nil),⟨_,hT,rfl,_,rfl⟩⟩
  refine⟨_,rfl,wpAny_letOwnedTupleGo_enum (s:={s with heap:=h',toks:=tk+1}) ho λh2' g1 g2=>?_⟩
  refine⟨.ref s.heap.objs.size,br H s.heap.objs.size (.tup [.int ((i+1:Nat):Int),x]),?_,rfl,⟨_,x,rfl,hn,rfl,λxs' e1=>by rw [I.sqB_inj e1 q1]; exact hx⟩,⟨⟨x',by simpa using g1⟩,?_⟩,λc hb=>?_⟩
  ·refine I1.turnedL (t':=tk+1) [e] (λc o hb y=>g2.extBut _ _ (λq=>hb (by simp [q])) y) λc hb=>?_
   have z:c=e:=by simpa using hb
   subst z;obtain⟨f0,f1,f2,f3,f4,f5⟩:=hf c (by simp)
   exact⟨by rw [aN (J3 helt)]; exact f0,f1,f2,f3,f4,f5⟩
  ·exact(dL (P:=X.prog) (w:=X.w) b it a).at_ _ _ _ hst' λo z=>g2.extBut _ _ (Ne.symm h1) z
  ·have hc':c=e\/c=it:=by simpa using hb
   rw [aN (by rcases hc' with rfl | rfl; exact J3 helt; exact J3 hilt)]
   exact(hf c hb).1
 done:=by
  intro X hP hw hK hc i K2 s σ H E I hf st hg;subst hP hw hK;obtain⟨xs,q1,hx⟩:=hg;obtain⟨its,rv,p⟩:=I.sqB q1;obtain⟨⟨old,he⟩,hi⟩:=st;have l1:=rv.length;have ez:i=its.toArray.size:=by simp; omega
  subst ez;refine wpAny_pyNext_enum_endD (Au (sC b it a its.toArray (show X.A.in1.handled=none from I.ok.hd hc) h3)) he ⟨_,rfl,hi,p⟩ λh' kk=>⟨rfl,I.turnedL (t':=s.toks) [it] (λc o hb y=>kk c o (λq=>hb (by simp [q])) y) λc hb=>hf c ?_⟩
  have z:c=it:=by simpa using hb
  subst z;simp
 self:=λ_ _ _ _ _ st h=>by
  obtain⟨⟨old,he⟩,_⟩:=st;exact wpAny_pyIter_enum he h
def EN (K:PySem.W.Frag) (ta:TA) (td:TE):TI:=fun σ H R=>ta σ H λvs H1=>td σ H1 λd H2=>∃ a,d=.int 1/\vs=[.ref a]/\(∃ xs,wu true K H2 a xs)/\R (AI K true a) H2
theorem nC {M:Model} {A:KR} {E:KM->KL->Prop} {s:KL} {env:Env} {pos:Pos} {T:KZ} {e:KP} {a_:List KP} {kws:List Keyword} {Q:KM->KL->Prop}
  (h:wpAny M A (spliced (backTo pos (starEach (e::a_) env))) (λvs s₁=>wpAny M A (evalAll ((backToKw pos (keywordEach kws env)).map (·.2)))
   (λkvs s₂=>wpAny M A (call (.type T) vs (((backToKw pos (keywordEach kws env)).filterMap (·.1)).zip kvs)) Q E s₂) E s₁) E s)
  (he:backTo pos (starEach (e::a_) env)=(false,eval e env)::backTo pos (starEach a_ env):=by rfl)
  (hplain:(backTo pos (starEach (e::a_) env)).any (·.1)=false:=by rfl)
  (hall:(backToKw pos (keywordEach kws env)).all (·.1.isSome)=true:=by rfl)
  (hkw:(backToKw pos (keywordEach kws env)).any (·.1.isNone)=false:=by rfl):
  wpAny M A (callWith pos (.type T) [] (backTo pos (starEach (e::a_) env)) (backToKw pos (keywordEach kws env))) Q E s:=by
 unfold callWith;rw [he] at h hplain ⊢
 refine gt (Kf (evalArgs_kwB hall (Km h (λvs s₁ h₁=>Km h₁ (λkvs s₂ h₂=>gt (wpAny_standAt ?_)) λ_ _ x=>x) λ_ _ x=>x)))
 simp only [hplain,hkw,Bool.or_false];exact gt (JU (gt (Km h₂ (λr s₂ hr=>gt (Kf (wpAny_point (JU hr)))) λ_ _ x=>x)))
theorem zr {X:Cx} {a ed:KP} {ta:TA} {td:TE} {p pos tp kp:Pos} {es:List KP} {k:Nat} (hg:Gl X "enumerate") (hm:X.mg "enumerate"=none) (ha:PA X [a] ta) (hd:PE X ed td)
  (he:backTo pos (starEach [a] X.env)=(false,eval a X.env)::backTo pos (starEach [] X.env):=by rfl) (hpl:(backTo pos (starEach [a] X.env)).any (·.1)=false:=by rfl):
  PI X (.Tuple es k tp) (.Call (.Name "enumerate" p) [a] [⟨some "start",ed,kp⟩] pos) (EN X.K ta td):=by
 intro K2 s σ H R I h;refine wpAny_Call_Name_kw (iI I hg hm rH ?_);refine nC (bc (ha pos K2 s σ H _ I h) λus s1 ⟨vs,H1,I1,r1,q1⟩=>kws_cons (bc (hd K2 s1 σ H1 _ I1 q1) λu s2 ⟨d,H2,I2,r2,q2⟩=>kws_nil ?_)) he hpl
 obtain⟨a1,rfl,rfl,⟨xs,e1⟩,q⟩:=q2;obtain⟨t,rfl⟩:=r2;cases r1 with
 | cons r rr=>
  cases rr;cases r;obtain⟨its,rv,p1⟩:=I2.sqB e1;have al:=vH p1;obtain⟨⟨c,dct,dt,sl⟩,hl,hc,n,hdt⟩:=p1;obtain rfl:c=.type "list":=hc
  obtain rfl:dt=.seq its.toArray n:=hdt;refine v4 (t:=t) hl λh' c1 c2 c3=>?_
  refine wpAny_pyIter_enum (s:={s2 with heap:=h'}) c1 ?_
  have fr:∀ j,H2 (s2.heap.objs.size+j)=none:=λj=>I2.hok.fresh (Nat.le_add_right _ _)
  refine⟨_,[s2.heap.objs.size+1,s2.heap.objs.size],_,_,H2,rfl,I2.kept (t':=s2.toks) c3,vV true (Nat.succ_ne_self _) (Nat.ne_of_gt (Nat.lt_succ_of_lt al)) (Nat.ne_of_gt al),⟨⟨_,c1⟩,c2⟩,λc hb=>?_,q⟩
  have hb':c=s2.heap.objs.size+1\/c=s2.heap.objs.size:=by simpa using hb
  rcases hb' with rfl | rfl
  ·exact I2.fpOk (Nat.le_add_right _ _) (fr 1)
  ·exact I2.fpOk (JX _) (fr 0)
end L2
namespace DL
open PySem PySem.Spec PyProof.Rows L2
def Fc (ta:DA) (g:DG) (b:DS):DS:=λM L S=>ta L S λds S1=>match ds with
 | [.ref a]=>∃ xs,S1 a=some (.lst xs)/\fZ (λS=>S a=some (.lst xs)) g b M (jH 1 xs) L S1
 | _=>False
section
variable {X:Cx} {a ed:KP} {es:List KP} {kt:Nat} {tp p pos pos' kp:Pos} {gg:DG} {ta:DA} {g:DS} {body:List KU}
theorem zN {K:Fg} {H1:Hp} {xs:List D} {a:KN}:
  (∀ i d S2 H2,(jH 1 xs)[i]?=some d->Kp H1 H2->Hs K H2 S2->S2 a=some (.lst xs)->(AI K true a).go i H2/\∀ x H',(AI K true a).yld i H2 x H'->Kp H2 H'/\Hs K H' S2/\bA K H' d x)/\
  ∀ S2 H2,Kp H1 H2->Hs K H2 S2->S2 a=some (.lst xs)->(AI K true a).stop (jH 1 xs).length H2:=by
 refine⟨λi c S2 H2 e k2 hS2 o2=>?_,λS2 H2 k2 hS2 o2=>?_⟩
 ·obtain⟨ys,w1,u1⟩:=hS2.lst o2;obtain⟨d,f1,rfl⟩:=mH e;obtain⟨v1,g1,r1⟩:=u1.get f1;refine⟨⟨ys,v1,eH.of w1,g1⟩,?_⟩;rintro x H' ⟨T,x',rfl,hT,rfl,al⟩;have l1:=al ys (eH.of w1);rw [g1] at l1;cases l1;have kn:Kp H2 (br H2 T (.tup [.int ((i+1:Nat):Int),v1])):=Kp.new hT;exact⟨kn,hS2.new hT,bw.mpr ⟨T,[.int ((i+1:Nat):Int),v1],rfl,gZ.of bo,IsDs.cons (isInt.mpr (by rw [Nat.add_comm])) (IsDs.cons (r1.kp kn) IsDs.nil)⟩⟩
 ·obtain⟨ys,w1,u1⟩:=hS2.lst o2;refine⟨ys,eH.of w1,?_⟩;rw [<- u1.length,nG]
theorem vY (hp:PassesOwn (model X.prog X.w) X.A X.env X.xe) (hc:X.calm=true) (hgl:Gl X "enumerate") (hm:X.mg "enumerate"=none) (ha:AJ X [a] ta) (hd:EJ X ed (dC (.int 1))) (hg:GJ X (.Tuple es kt tp) gg) (hb:x9 X body g)
  (he:backTo pos' (starEach [a] X.env)=(false,eval a X.env)::backTo pos' (starEach [] X.env):=by rfl) (hpl:(backTo pos' (starEach [a] X.env)).any (·.1)=false:=by rfl) (hs:∀ x,foldedSetIterable (.Call (.Name "enumerate" p) [a] [⟨some "start",ed,kp⟩] pos') X.env x=pure x:=by intro _; rfl):
  SJ X (.For (.Tuple es kt tp) (.Call (.Name "enumerate" p) [a] [⟨some "start",ed,kp⟩] pos') body [] pos) (Fc ta gg g):=
 ⟨PS.imp (pG hp hc (zr hgl hm ha.h hd.h he hpl) hg.h hb.h hs) λN σ H ⟨L,S,M,hL,hS,h,r⟩=>qT.go hL hS h λds S1 vs H1 h1 k1 hL1 hS1 i1=>⟨L,S1,λd S2=>d=.int 1/\S2=S1,hL1,hS1,⟨rfl,rfl⟩,λd S2 v H2 ⟨e1,e2⟩ k2 hS2 i2=>by
  subst e1 e2
  split at h1
  ·rename_i a1
   obtain⟨v1,rfl,j1⟩:=cf (i1.kp k2);have e1:=aR.mp j1;subst e1;obtain⟨xs,z,h1⟩:=h1;obtain⟨ys,w1,_⟩:=hS2.lst z;obtain⟨z1,z2⟩:=zN (K:=X.K) (H1:=H2) (xs:=xs) (a:=a1);exact⟨a1,isInt.mp i2,rfl,⟨ys,eH.of w1⟩,qD (hL1.kp k2) hS2 h1 (r.kp (k1.trans k2)) z1 z2⟩
  ·exact h1.elim⟩⟩
end
end DL
namespace PySem
open Builtin Builtin.Str
namespace F
theorem lri_nolen:typeLookup (.type "list_reverseiterator") "__len__"=pure none:=by rw [typeLookup_type,builtinLookup_eq_fast]; kernel_rfl
theorem lri_hint:typeLookup (.type "list_reverseiterator") "__length_hint__"=pure (some (.builtin "list_reverseiterator.__length_hint__")):=by rw [typeLookup_type,builtinLookup_eq_fast]; kernel_rfl
theorem lri_sub:isSubtype (.type "list_reverseiterator") (.type "list_reverseiterator")=pure true:=by rw [isSubtype_type]; kernel_rfl
end F
section
variable {prog:KQ} {w:KS} {A:KR} {E:KM->KL->Prop} {s:KL}
theorem Bp {I:KN} {Q:KY->KL->Prop} (hT:s.TypeIs (.ref I) "list_reverseiterator") (q:Q false s):wpAny (model prog w) A (Builtin.List.listLengthHint (.ref I)) Q E s:=by
 unfold Builtin.List.listLengthHint;refine gt (wpAny_specialOf hT F.lri_nolen ?_)
 show wpAny _ A (specialOf (Value.ref I) (Str.ofString "__length_hint__") >>= _) _ _ _
 refine gt (wpAny_specialOf hT F.lri_hint ?_);have e:splitId "list_reverseiterator.__length_hint__"=some ("list_reverseiterator","__length_hint__"):=by decide +kernel
 generalize hid:("list_reverseiterator.__length_hint__":KZ)=id0 at e ⊢
 wp_delta
 rw [e];subst hid;exact gt (wpAny_isInstance (b:=true) hT F.lri_sub (JU q))
theorem tP {I l:KN} {items:KW KM} {Q:List KM->KL->Prop} (hh:A.handled=none) (hne:l≠I) (hit:s.heap.IsRevIter I l ((items.size:Int) - 1)) (hl:s.heap.IsList l items) (hz:items.size<=sizeLine)
  (h:∀ h' tk,(∀ b o,b≠I->s.heap.get? b=some o->h'.get? b=some o)->Q items.toList.reverse {s with heap:=h',toks:=tk}):wpAny (model prog w) A (collect (.ref I)) Q E s:=by
 have lI:I < s.heap.objs.size:=by obtain⟨o,ho,_⟩:=hit; exact JW ho
 have ll:l < s.heap.objs.size:=by obtain⟨o,ho,_⟩:=hl; exact JW ho
 have W:=(Walks.listRev (prog:=prog) (w:=w) (A:=A.in1) hh I l hne items).toS;have st0:0<=items.size/\s.heap.IsRevIter I l ((items.size:Int) - 1 - ((0:Nat):Int))/\s.heap.IsList l items:=⟨Kz _,by simpa using hit,hl⟩
 have kp:∀ b o,s.heap.get? b=some o->(s.heap.push {cls:=.type "list",data:=.seq ([]:List KM).toArray}).get? b=some o:=λb o e=>pp _ e
 have st1:0<=items.size/\(s.heap.push {cls:=.type "list",data:=.seq ([]:List KM).toArray}).IsRevIter I l ((items.size:Int) - 1 - ((0:Nat):Int))/\(s.heap.push {cls:=.type "list",data:=.seq ([]:List KM).toArray}).IsList l items:=⟨Kz _,st0.2.1.at λo e=>kp I o e,hl.at λo e=>kp l o e⟩
 have hT:Shared.TypeIs {s with heap:=s.heap.push {cls:=.type "list",data:=.seq ([]:List KM).toArray}} (.ref I) "list_reverseiterator":=Heap.IsRevIter.typeIs (s:={s with heap:=s.heap.push {cls:=.type "list",data:=.seq ([]:List KM).toArray}}) st1.2.1
 have same:Builtin.List.listSameRef (.ref s.heap.objs.size) (.ref I)=false:=by
  have:s.heap.objs.size≠I:=Nat.ne_of_gt lI;simp [Builtin.List.listSameRef,this]
 unfold collect;refine gt (wpAny_runValue (Kk F.entry_proto_collect ?_));rw [Kd F.plain_proto_collect _];refine gt (Kh (JU ⟨plainId_quiet F.plain_list_iadd _,Kk F.entry_list_iadd ?_⟩));rw [Kd F.plain_list_iadd _]
 show wpAny _ A.in1 (Builtin.List.listExtendWith (.ref s.heap.objs.size) (.ref I) (.ref s.heap.objs.size)) _ _ _
 unfold Builtin.List.listExtendWith;refine gt (wpAny_typeOf hT ?_);rw [if_neg (by rw [same]; decide)]
 refine gt (W.self 0 _ _ _ st1 (gt (Kf (Bp hT ?_))));rw [if_neg (by decide)]
 refine JU ⟨plainId_quiet F.plain_extend_loop _,codeAny_extend_loopS W hz _ (by simp only [J2,Ka,or_false,not_or]; exact⟨Nat.ne_of_gt lI,Nat.ne_of_gt ll⟩) _ items.size 0 _ _ _ rfl (Kz _) st1 (JV _ rfl) (ItemsOf.nil _) λs' acc' c' hm hS' hacc=>?_⟩
 show wpAny _ A (load s.heap.objs.size >>= _) _ _ s'
 refine gt (wpAny_load hS' (JU ?_));have ev:acc'.toList=items.toList.reverse:=by
  obtain⟨l1,l2⟩:=hacc;apply List.ext_getElem?;intro i;rw [Array.getElem?_toList];cases q1:acc'[i]? with
  | none=>
   have:acc'.size<=i:=by simpa using q1
   rw [List.getElem?_eq_none (by rw [List.length_reverse,KG]; omega)]
  | some v=>
   have hi:i < items.size:=by
    obtain⟨z,_⟩:=Array.getElem?_eq_some_iff.mp q1;omega
   have:=l2 i v q1;rw [List.getElem?_reverse (by rw [KG]; exact hi),Array.getElem?_toList,KG,this]
 rw [ev];obtain⟨hh',gg,dd,tt,oo⟩:=s';obtain⟨m1,m2,m3,m4,m5⟩:=hm;simp only at m2 m3 m4
 subst m2 m3 m4;exact h hh' tt λb o hb e=>m1 b o (by simp only [J2,Ka,or_false,not_or]; exact⟨J3 (JW e),hb⟩) (kp b o e)
theorem yw {x:Str} {t:Tok} {I l:KN} {ls:List (Str×Tok)} {Q:KM->KL->Prop} (hh:A.handled=none) (hne:l≠I) (hit:s.heap.IsRevIter I l (((strValues ls).toArray.size:Int) - 1)) (hl:s.heap.IsList l (strValues ls).toArray) (hz:ls.length<=sizeLine) (hj:JoinOk x (ls.map (·.1)).reverse=true)
  (h:∀ h' tk t',(∀ b o,b≠I->s.heap.get? b=some o->h'.get? b=some o)->Q (.str (Txt.join x (ls.map (·.1)).reverse) t') {s with heap:=h',toks:=tk}):
  wpAny (model prog w) A (call (.builtin "str.join") [.str x t,.ref I]) Q E s:=by
 refine wpAny_call (codeAny_call_builtin F.slot_str_join.plain F.entry_str_join (F.slot_str_join.check _ _ _ _ _ _ _ _ (typeIs_str _ _ _) (F.args_str_join_2 _ _) ?_));rw [join_tree_other];refine gt (wpAny_typeOf hit.typeIs ?_)
 show wpAny _ A.in1 ((pyIter (.ref I)).tryCatch _ >>= λit=>collect it >>= λitems=>joinTail x items) _ _ s
 refine gt (wpAny_tryCatch (wpAny_pyIter_revIter hit (gt (tP hh hne hit hl (by simpa [strValues] using hz) λh' tk kk=>?_))))
 have er:(strValues ls).toArray.toList.reverse=strValues ls.reverse:=by
  simp [strValues]
 rw [er];have hj':JoinOk x (ls.reverse.map (·.1))=true:=by rw [List.map_reverse]; exact hj
 have g:∀ m:List (Str×Tok),tooLong ((m.map (·.1)).toArray.foldl (·+·.length+x.length) 0)=false->Gives (joinTail x (strValues m)) (joinMade x m):=λm hm=>by
  have g0:=gives_joinTail x m hm
  match m,hm,g0 with
  | [],_,g0=>exact g0
  | [_],_,g0=>exact g0
  | _::_::_,_,g0=>exact g0
 unfold JoinOk at hj';rw [Bool.not_eq_true'] at hj';refine g _ hj' prog w A (wants Q E) _ (post_join ls.reverse ⟨joinFit_length hj',λt' tk'=>?_⟩)
 rw [List.map_reverse];exact h h' tk' t' kk
end
end PySem
namespace L2
open PySem PySem.Spec PyProof.Rows
def Dx (to:TE) (t:TA):TE:=fun σ H Q=>to σ H λx H1=>∃ z,x=.str z/\t σ H1 λvs H2=>∃ (a:KN) (zs:List Str),vs=[.ref a]/\H2 a=some (.lst (zs.map V.str))/\JoinOk z zs.reverse=true/\Q (.str (Txt.join z zs.reverse)) H2
theorem AC {X:Cx} {o e:KP} {to:TE} {t:TA} {apos cpos p pos:Pos} (hc:X.calm=true) (hg:Gl X "reversed") (hm:X.mg "reversed"=none) (ho:PE X o to) (ha:PA X [e] t)
  (hbase:attributeBase o "join" X.env (eval o X.env)=eval o X.env:=by rfl)
  (hfew:((backTo cpos (starEach [.Call (.Name "reversed" p) [e] [] pos] X.env)).all (λx=>!x.1) && (backToKw cpos (keywordEach [] X.env)).all (λx=>x.1.isSome)
   && decide ([Expr.Call (.Name "reversed" p) [e] [] pos].length+([]:List Keyword).length+(if ([]:List Keyword).isEmpty then 0 else 1) < 30))=true:=by rfl)
  (hline:(apos.endLine == cpos.line)=true:=by rfl) (hs:backTo cpos (starEach [.Call (.Name "reversed" p) [e] [] pos] X.env)=[(false,eval (.Call (.Name "reversed" p) [e] [] pos) X.env)]:=by rfl) (hs1:starEach [e] X.env=[(false,eval e X.env)]:=by rfl):
  PE X (.Call (.Attribute o "join" apos) [.Call (.Name "reversed" p) [e] [] pos] [] cpos) (Dx to t):=by
 intro K2 s σ H Q I h;refine wpAny_Call_method_late hbase hfew hline hs (bc (ho K2 s σ H _ I h) λv s1 ⟨x,H1,I1,r1,z,ex,q1⟩=>?_)
 subst ex;obtain⟨t1,rfl⟩:=r1;refine⟨"str","str.join",F.plainAttrs_str,F.slot_str_join,F.type_str_join,typeIs_str _ _ _,(λ_ e=>nomatch e),?_⟩
 refine Calls.callWith_builtin rfl (Calls.evalArgs_plain (Calls.spliced_cons (Call_ (iI I1 hg hm Boot.reversed (PyProof.Rows.callWith_type1 (bc (ha pos K2 s1 σ H1 _ I1 q1) λus s2 ⟨vs,H2,I2,r2,q2⟩=>?_) (by rw [hs1]; rfl) rfl)))))
 obtain⟨a,zs,rfl,hH,hj,q⟩:=q2;obtain⟨u,rfl,rfl⟩:=r2.one;obtain⟨hz,its,m,rv,hl,g⟩:=I2.lstM hH;obtain⟨ls,rfl,e3⟩:=ph rv;subst e3;have gl:s2.heap.IsList a (strValues ls).toArray:=⟨_,g,rfl,_,rfl⟩;refine call_reversed_list gl ?_;refine Calls.spliced_nil ?_;have la:a < s2.heap.objs.size:=JW g;refine yw (s:={s2 with heap:=s2.heap.push (revObj a (((strValues ls).toArray.size:Int) - 1))}) (I2.ok.hd hc) (J3 la) ⟨_,JV _ rfl,rfl,rfl⟩ (gl.at λo e=>pp _ e) (by simpa using hz) hj λh' tk t' kk=>?_
 exact⟨.str _,H2,I2.kept (t':=tk) λb o e=>kk b o (J3 (JW e)) (pp _ e),⟨t',rfl⟩,q⟩
end L2
namespace DL
open PySem PySem.Spec PyProof.Rows L2
def EL (go:DE) (ga:DA):DE:=λL S k=>go L S λd S1=>match d with
 | .str x=>ga L S1 λds S2=>∃ (a:KN) (zs:List Str),ds=[.ref a]/\S2 a=some (.lst (zs.map D.str))/\JoinOk x zs.reverse=true/\k (.str (Txt.join x zs.reverse)) S2
 | _=>False
theorem yC {X:Cx} {o e:KP} {go:DE} {ga:DA} {apos cpos p pos:Pos} (hc:X.calm=true) (hg:Gl X "reversed") (hm:X.mg "reversed"=none) (ho:EJ X o go) (ha:AJ X [e] ga)
  (hbase:attributeBase o "join" X.env (eval o X.env)=eval o X.env:=by rfl)
  (hfew:((backTo cpos (starEach [.Call (.Name "reversed" p) [e] [] pos] X.env)).all (λx=>!x.1) && (backToKw cpos (keywordEach [] X.env)).all (λx=>x.1.isSome)
   && decide ([Expr.Call (.Name "reversed" p) [e] [] pos].length+([]:List Keyword).length+(if ([]:List Keyword).isEmpty then 0 else 1) < 30))=true:=by rfl)
  (hline:(apos.endLine == cpos.line)=true:=by rfl) (hs:backTo cpos (starEach [.Call (.Name "reversed" p) [e] [] pos] X.env)=[(false,eval (.Call (.Name "reversed" p) [e] [] pos) X.env)]:=by rfl) (hs1:starEach [e] X.env=[(false,eval e X.env)]:=by rfl):
  EJ X (.Call (.Attribute o "join" apos) [.Call (.Name "reversed" p) [e] [] pos] [] cpos) (EL go ga):=
 ⟨PE.imp (AC hc hg hm ho.h ha.h hbase hfew hline hs hs1) fun σ H Q ⟨L,S,k,hL,hS,h,n⟩=>up.go hL hS h λd S1 v H1 h1 k1 hL1 hS1 i1=>by
  cases d with
  | str z=>
   have q1:=a7.mp i1;subst q1;refine⟨z,rfl,qT.go hL1 hS1 h1 λds S2 vs H2 h2 k2 hL2 hS2 i2=>?_⟩
   obtain⟨a,zs,rfl,z1,hj,w⟩:=h2;obtain⟨v1,rfl,j1⟩:=cf i2;have e1:=aR.mp j1;subst e1;obtain⟨ys,hH,j⟩:=hS2.lst z1;have e2:=oM j;subst e2;exact⟨a,zs,rfl,hH,hj,n _ _ _ _ w (k1.trans k2) hS2 (a7.mpr rfl)⟩
  | _=>exact(show False from h1).elim⟩
end DL
namespace PySem
open Sem (wp)
open Builtin DL
section
variable {prog:KQ} {w:KS} {A:KR} {E:KM->KL->Prop}
theorem Gu (p q:KN) (a b c d:Int) (t1 t2 t3 t4:Tok) (n n':Nat) (dd dd':KO KN) (sl sl':KW (KO KM)):
  MeetsIn prog w (Builtin.«tuple.__ge__» ⟨[.ref p,.ref q],[]⟩) (λA R s=>A.units+1 < cLine/\s.heap.get? p=some ⟨.type "tuple",dd,.seq #[.int a t1,.int b t2] n,sl⟩/\s.heap.get? q=some ⟨.type "tuple",dd',.seq #[.int c t3,.int d t4] n',sl'⟩/\
   R (.ok (.ret (.bool !(decide (a < c) || (decide (a=c) && decide (b < d)))))) s):=
 .of_wp λA R s h=>by
  obtain⟨hp,g,dr,tk,os⟩:=s;obtain⟨hu,h1,h2,h⟩:=h;have f:=AutoSeq1.sub_tuple_tuple;have stp:∀ {x y:Int} {u v:Tok} {Q:KY->KL->Prop} {s:KL},Q (x == y) s->wpAny (model prog w) A.in1 (eqBool (.int x u) (.int y v)) Q (λe s'=>R (.error e) s') s:=λh=>wpAny_eqBool_int h
  have gtp:∀ {x y:Int} {u v:Tok} {Q:KM->KL->Prop} {s:KL},Q (.bool (decide (x ≥ y))) s->wpAny (model prog w) A.in1 (richCompare .GtE (.int x u) (.int y v)) Q (λe s'=>R (.error e) s') s:=λh=>PyProof.Rows.ge_int h
  by_cases e1:a=c
  ·subst e1
   by_cases e2:b=d
   ·subst e2
    repeat (any_goals (first | assumption | (with_reducible refine stp ?_) | (with_reducible refine gtp ?_) | wp_step))
    refine⟨_,rfl,?_⟩;simp only [Int.lt_irrefl,decide_false,Bool.and_false,Bool.or_false] at h;exact h
   ·have e3:(b == d)=false:=by simpa using e2
    repeat (any_goals (first | assumption | (with_reducible refine stp ?_) | (with_reducible refine gtp ?_) | wp_step))
    refine⟨_,rfl,?_⟩;have e4:(!(decide (a < a) || (decide (a=a) && decide (b < d))))=decide (b ≥ d):=by
     rw [Bool.eq_iff_iff];simp
    rw [e4] at h;exact h
  ·have e3:(a == c)=false:=by simpa using e1
   repeat (any_goals (first | assumption | (with_reducible refine stp ?_) | (with_reducible refine gtp ?_) | wp_step))
   refine⟨_,rfl,?_⟩;have e4:(!(decide (a < c) || (decide (a=c) && decide (b < d))))=decide (a ≥ c):=by
    rw [Bool.eq_iff_iff];simp [e1]
   rw [e4] at h;exact h
end
end PySem
namespace DL
open PySem PySem.Spec PyProof.Rows L2
def He:D2:=λd e S k=>match d,e with
 | .tup [.int a,.int b],.tup [.int c,.int f]=>k (.bl !(ZS.lx (a,b) (c,f))) S
 | d,e=>Jf d e S k
theorem uw {X:Cx} {K2:List (KN×K1)} {σ:L2.St} {H:Hp} {s:KL} (I:aE X K2 σ H s) {a b:Int} {v:V} (i:bA X.K H (.tup [.int a,.int b]) v):∃ p dd t1 t2 n sl,v=.ref p/\s.heap.get? p=some ⟨.type "tuple",dd,.seq #[.int a t1,.int b t2] n,sl⟩:=by
 obtain⟨p,vs,rfl,q,j⟩:=bw.mp i;obtain⟨x,y,rfl,j1,j2⟩:=kB j;rw [isInt.mp j1,isInt.mp j2] at q;obtain⟨its,rv,⟨o,g,c,m,dd⟩,_⟩:=I.tuple q;cases rv with
 | cons ra rb=>
  cases rb with
  | cons rb rc=>
   cases rc;obtain⟨t1,rfl⟩:=ra;obtain⟨t2,rfl⟩:=rb;obtain⟨oc,od,odt,osl⟩:=o;obtain rfl:oc=.type "tuple":=c
   obtain rfl:odt=.seq [Value.int a t1,Value.int b t2].toArray m:=dd;exact⟨p,od,t1,t2,m,osl,rfl,g⟩
theorem Hf {X:Cx} {n:Nat} (hr:cv n X.A):cS X (compareOp .GtE) (fm X.K He):=by
 intro K2 s σ H x y v u Q I rx ry h;obtain⟨d,e,S,k,i1,i2,hS,r,nn⟩:=h;have hu:=hr.units;unfold He at r
 split at r
 ·rename_i a b c f
  obtain⟨p,dd,t1,t2,m,sl,rfl,g1⟩:=uw I i1;obtain⟨q,dd',t3,t4,m',sl',rfl,g2⟩:=uw I i2;cases rx;cases ry;have T1:s.TypeIs (.ref p) "tuple":=⟨_,g1,rfl⟩
  exact wpAny_richCompare_same_room (op:=.GtE) T1 ⟨_,g2,rfl⟩ F.slot_tuple_ge (call_meetsIn F.slot_tuple_ge T1 F.entry_tuple_ge (F.args_tuple_ge_2 _ _) (Gu p q a b c f t1 t2 t3 t4 m m' dd dd' sl sl') ⟨by show X.A.units+1 < cLine; omega,g1,g2,(by intro z; cases z),.bl _,H,I,rfl,eJ nn hS r (aS.mpr rfl)⟩) (by omega)
 ·exact yM K2 s σ H x y v u Q I rx ry ⟨d,e,S,k,i1,i2,hS,r,nn⟩
section
variable {X:Cx} {K2:List (KN×K1)} {σ:L2.St} {H:Hp} {s:KL}
def JI (S:DH) (x y:D):Prop:=∃ a c xs ys,x=.ref a/\y=.ref c/\a≠c/\S a=some (.lst xs)/\S c=some (.lst ys)/\xs.length=ys.length/\∀ (i:Nat) x y,xs[i]?=some x->ys[i]?=some y->g7 7 x y=some true
def EK (S:DH) (x y:D):Prop:=g7 7 x y=some true\/JH S x y\/JI S x y
theorem yt (I:aE X K2 σ H s) {S:DH} {a c:KN} {ds es:List D} (hS:Hs X.K H S) (h1:S a=some (.lst ds)) (h2:S c=some (.lst es)) (hl:ds.length=es.length) (A:KR) (hu:A.units+12 < cLine) (h:∀ (i:Nat) x y,ds[i]?=some x->es[i]?=some y->g7 7 x y=some true):
  SeqAt.RcAt A s (.ref a) (.ref c) true:=by
 obtain⟨xs,q1,j1⟩:=hS.lst h1;obtain⟨ys,q2,j2⟩:=hS.lst h2;obtain⟨us,r1,p1,_⟩:=I.list (eH.of q1);obtain⟨ws,r2,p2,_⟩:=I.list (eH.of q2);have l1:=j1.length;have l2:=j2.length;have l3:=r1.length;have l4:=r2.length;have hsz:us.toArray.size=ws.toArray.size:=by simp only [J1]; omega
 have he:∀ j (h1:j < us.toArray.size) (h2:j < ws.toArray.size),SeqAt.EqAt A.in1 s us.toArray[j] ws.toArray[j] ((λ_=>true) j):=λj h1 h2=>by
  simp only [J1] at h1 h2
  obtain⟨d,e,x,y,q1,q2,d1,d2,rx,ry⟩:=lC j1 j2 r1 r2 h1 h2;have:=(kO I 7 A.in1 d e x y _ _ true (by show A.units+1+7 < cLine; omega) (h j d e q1 q2) d1 d2 rx ry).1
  simpa using this
 have e:(List.range us.toArray.size).all (λ_=>true)=true:=by simp
 have z:=SeqAt.RcAt.lists p1.isList p2.isList hsz (by omega) he
 rw [e] at z;exact z
theorem zW (I:aE X K2 σ H s) {S:DH} {a c:KN} {ds es:List D} (hS:Hs X.K H S) (h1:S a=some (.lst ds)) (h2:S c=some (.lst es)) (hl:ds.length=es.length) (A:KR) (hu:A.units+14 < cLine) (h:∀ (i:Nat) x y,ds[i]?=some x->es[i]?=some y->EK S x y):
  SeqAt.RcNeAt A s (.ref a) (.ref c) false:=by
 obtain⟨xs,q1,j1⟩:=hS.lst h1;obtain⟨ys,q2,j2⟩:=hS.lst h2;obtain⟨us,r1,p1,_⟩:=I.list (eH.of q1);obtain⟨ws,r2,p2,_⟩:=I.list (eH.of q2);have l1:=j1.length;have l2:=j2.length;have l3:=r1.length;have l4:=r2.length;have hsz:us.toArray.size=ws.toArray.size:=by simp only [J1]; omega
 have hA:A.in1.units=A.units+1:=rfl;have he:∀ j (h1:j < us.toArray.size) (h2:j < ws.toArray.size),SeqAt.EqAt A.in1 s us.toArray[j] ws.toArray[j] ((λ_=>true) j):=λj h1 h2=>by
  simp only [J1] at h1 h2
  obtain⟨d,e,x,y,q1,q2,d1,d2,rx,ry⟩:=lC j1 j2 r1 r2 h1 h2;rcases h j d e q1 q2 with hh | ⟨a',c',kvs,ep,kvs',ep',rfl,rfl,ne,z1,z2,z3⟩ | ⟨a',c',xs',ys',rfl,rfl,ne,z1,z2,z3,z4⟩
  ·have:=(kO I 7 A.in1 d e x y _ _ true (by omega) hh d1 d2 rx ry).1
   simpa using this
  ·have e1:=aR.mp d1;have e2:=aR.mp d2;subst e1 e2;have rx:us[j]=.ref a':=rx;have ry:ws[j]=.ref c':=ry;have:=SeqAt.EqAt.of_refs ne (Ga (A:=A.in1) I hS (by omega) z1 z2 z3)
   simpa [rx,ry] using this
  ·have e1:=aR.mp d1;have e2:=aR.mp d2;subst e1 e2;have rx:us[j]=.ref a':=rx;have ry:ws[j]=.ref c':=ry;have:=SeqAt.EqAt.of_refs ne (yt I hS z1 z2 z3 A.in1 (by omega) z4)
   simpa [rx,ry] using this
 have e:(List.range us.toArray.size).all (λ_=>true)=true:=by simp
 have z:=SeqAt.RcNeAt.lists p1.isList p2.isList hsz (by omega) he
 rw [e] at z;exact z
end
def GV:D2:=λd e S k=>match d,e with
 | .ref a,.ref c=>(∃ xs ys,S a=some (.lst xs)/\S c=some (.lst ys)/\xs.length=ys.length/\(∀ (i:Nat) x y,xs[i]?=some x->ys[i]?=some y->EK S x y)/\k (.bl false) S)\/B7 (.ref a) (.ref c) S k
 | d,e=>B7 d e S k
theorem Ax {X:Cx} {n:Nat} (hr:cv n X.A):cS X (compareOp .NotEq) (fm X.K GV):=by
 intro K2 s σ H x y v u Q I rx ry h;obtain⟨d,e,S,k,i1,i2,hS,r,m⟩:=h;unfold GV at r
 split at r
 ·rcases r with r | r
  ·obtain⟨xs,ys,h1,h2,h3,h4,w⟩:=r;have e1:=aR.mp i1;have e2:=aR.mp i2;subst e1 e2;cases rx;cases ry;exact(zW I hS h1 h2 h3 X.A (by have:=hr.un; omega) h4) X.prog X.w X.xe _ ⟨.bl false,H,I,rfl,eJ m hS w (aS.mpr rfl)⟩
  ·exact CJ hr K2 s σ H x y v u Q I rx ry ⟨_,_,S,k,i1,i2,hS,r,m⟩
 ·exact CJ hr K2 s σ H x y v u Q I rx ry ⟨_,_,S,k,i1,i2,hS,r,m⟩
def CM:bE:=λds S k=>match ds with
 | [.str x]=>k (.str x) S
 | ds=>FC ds S k
theorem pU {X:Cx}:bP X (.type "str") (nX X.K CM):=by
 intro K2 s σ H xs us Q I rs h;obtain⟨ds,S,k,i,hS,r,n⟩:=h;unfold CM at r
 split at r
 ·obtain⟨x,rfl,i1⟩:=cf i;have e1:=a7.mp i1;subst e1;obtain⟨u,rfl,t,rfl⟩:=rs.one;exact P.str_of_str ⟨.str _,H,I,⟨t,rfl⟩,eJ n hS r (a7.mpr rfl)⟩
 ·exact G6 K2 s σ H xs us Q I rs ⟨_,S,k,i,hS,r,n⟩
end DL
namespace L2
open PySem PySem.Spec PyProof.Rows
def FH (lo c:Int) (n:Nat):It:=⟨λi _=>i < n,λi H x H'=>H'=H/\x=.int (lo+i*c),λi _=>n<=i⟩
theorem zR {P:KQ} {w:KS} {K:PySem.W.Frag} {tg:KP} (it:KN) (lo c:Int) (n:Nat):qo P w K tg (FH lo c n) [it] it (λi h=>IsRangeIter h it (lo+(i:Nat)*c) ((n:Int) - (i:Nat)) c) where
 mem:=by simp
 obj:=λi h st b hb=>by
  have e:b=it:=by simpa using hb
  subst e;exact⟨_,st,λv z=>by
   have z':Data.fields _=Data.cell v:=z;cases z'⟩
 keep:=λi h h' st k=>k it (by simp) _ st
 item:=by
  intro X hP hw hK hc i K2 s σ H E I hf st hg;subst hP hw hK;obtain⟨f0,f1,f2,f3,f4,f5⟩:=hf it (by simp)
  have W:=Walks.range (prog:=X.prog) (w:=X.w) (I.ok.hd hc) it lo c n;refine W.item i s _ _ hg st λv h' tk hv st' kk=>?_
  obtain⟨t,rfl⟩:=hv;have I1:aE X K2 σ H {s with heap:=h',toks:=tk}:=I.turned (λb o hb e=>kk b o (by simpa using hb) e) f0 f1 f3 f4 f5
  exact⟨_,rfl,o8 (s:={s with heap:=h',toks:=tk}) (n:="range_iterator") st' rfl rfl (by decide) ⟨.int (lo+i*c),H,I1,⟨t,rfl⟩,⟨rfl,rfl⟩,st',λb hb=>(hf b hb).1⟩⟩
 done:=by
  intro X hP hw hK hc i K2 s σ H E I hf st hg;subst hP hw hK;obtain⟨f0,f1,f2,f3,f4,f5⟩:=hf it (by simp)
  exact wpAny_pyNext_range_end (I.ok.hd hc) st (by have:n<=i:=hg; omega) λh' eb=>⟨rfl,I.turned (t':=s.toks) (λb o hb e=>eb b o hb e) f0 f1 f3 f4 f5⟩
 self:=λ_ _ _ _ _ st h=>wpAny_pyIter_rangeiter st h
def uQ (a b c:Int):Nat:=(Builtin.Range.rangeSize a b c).toNat
theorem v_ {a b c:Int} (hc:0 < c):Builtin.Range.rangeSize a b c=((uQ a b c:Nat):Int)/\(a<=b->(uQ a b c:Int)<=b - a)/\(b<=a->uQ a b c=0):=by
 unfold uQ Builtin.Range.rangeSize;simp only [show (c > 0) from hc,if_true]
 split
 ·rename_i h
  have h1:0<=(b - a - 1) / c:=Int.ediv_nonneg (by omega) (by omega)
  have h2:(b - a - 1) / c<=b - a - 1:=Int.ediv_le_self _ (by omega)
  refine⟨?_,λ_=>?_,λ_=>?_⟩ <;> omega
 ·exact⟨by simp,λ_=>by simp; omega,λ_=>by simp⟩
theorem xF {a b c:Int} (hc:0 < c) (hc':c < 2 ^ 30) (ha:-(2 ^ 60)<=a) (ha':a < 2 ^ 60) (hb:-(2 ^ 60)<=b) (hb':b < 2 ^ 60):Builtin.Range.small a b c=true:=by
 obtain⟨q1,q2,q3⟩:=v_ (a:=a) (b:=b) hc;have q4:(uQ a b c:Int) < 2 ^ 61:=by
  rcases Int.le_total a b with h | h
  ·have:=q2 h; omega
  ·rw [q3 h]; omega
 unfold Builtin.Range.small;rw [q1];simp only [Builtin.Range.rangeFitsLong,Ko,Bool.or_eq_true,KF,beq_iff_eq,show(c > 0) from hc,if_true]
 exact⟨⟨⟨⟨⟨by omega,by omega⟩,by omega,by omega⟩,by omega,by omega⟩,by omega,by omega⟩,.inr ⟨by omega,by omega⟩⟩
section
variable {X:Cx} {tg:KP}
theorem yg {K2:List (KN×K1)} {σ:St} {H:Hp} {s:KL} {R:It->Hp->Prop} {E:KM->KL->Prop} {lo hi c:Int} {t u v:Tok} {tk:Nat} (I:aE X K2 σ H s) (hc:0 < c) (hc':c < 2 ^ 30) (h1:-(2 ^ 60)<=lo) (h2:lo < 2 ^ 60) (h3:-(2 ^ 60)<=hi) (h4:hi < 2 ^ 60)
  (q:R (FH lo c (uQ lo hi c)) H):wpAny (model X.prog X.w) X.A (pyIter (.ref s.heap.objs.size)) (Ii X K2 σ tg R) E {s with heap:=s.heap.push {cls:=.type "range",data:=.fields #[.int lo t,.int hi u,.int c v]},toks:=tk}:=by
 refine wpAny_pyIter_range (IsRange.new ..) (xF hc hc' h1 h2 h3 h4) ?_;have I1:aE X K2 σ H {s with heap:=s.heap.push {cls:=.type "range",data:=.fields #[.int lo t,.int hi u,.int c v]},toks:=tk}:=I.kept λb o e=>pp _ e
 refine⟨(s.heap.push {cls:=.type "range",data:=.fields #[.int lo t,.int hi u,.int c v]}).objs.size,[(s.heap.push {cls:=.type "range",data:=.fields #[.int lo t,.int hi u,.int c v]}).objs.size],_,_,H,rfl,
  I1.kept (t':=tk) λb o e=>pp _ e,zR _ lo c (uQ lo hi c),?_,λb hb=>?_,q⟩
 ·have e1:lo+((0:Nat):Int)*c=lo:=by simp
  have e2:((uQ lo hi c:Nat):Int) - ((0:Nat):Int)=Builtin.Range.rangeSize lo hi c:=by rw [(v_ hc).1]; simp
  show IsRangeIter _ _ (lo+((0:Nat):Int)*c) (((uQ lo hi c:Nat):Int) - ((0:Nat):Int)) c
  rw [e1,e2];exact JV _ rfl
 ·have e:b=(s.heap.push {cls:=.type "range",data:=.fields #[.int lo t,.int hi u,.int c v]}).objs.size:=by simpa using hb
  subst e;exact I1.fpOk (JX _) (I1.hok.fresh (JX _))
def E_ (ta:TA):TI:=fun σ H R=>ta σ H λvs H1=>∃ i j c:Int,vs=[.int i,.int j,.int c]/\(0 < c/\c < 2 ^ 30/\-(2 ^ 60)<=i/\i < 2 ^ 60/\-(2 ^ 60)<=j/\j < 2 ^ 60)/\R (FH i c (uQ i j c)) H1
theorem vw {a b c:KP} {ta:TA} {p pos:Pos} (hg:Gl X "range") (hm:X.mg "range"=none) (ha:PA X [a,b,c] ta) (hs:starEach [a,b,c] X.env=[(false,eval a X.env),(false,eval b X.env),(false,eval c X.env)]:=by rfl) (hs2:starEach [b,c] X.env=[(false,eval b X.env),(false,eval c X.env)]:=by rfl):
  PI X tg (.Call (.Name "range" p) [a,b,c] [] pos) (E_ ta):=by
 intro K2 s σ H R I h;refine Call_ (iI I hg hm boot_range (PyProof.Rows.callWith_type1 (bc (ha pos K2 s σ H _ I h) λus s1 ⟨vs,H1,I1,r1,q1⟩=>?_) (by rw [hs,hs2]) (by rw [hs2]; rfl)))
 obtain⟨i,j,c,e,⟨c1,c2,q1,q2,q3,q4⟩,q⟩:=q1;subst e;cases r1 with
 | cons r rr=>
  cases rr with
  | cons r' rr=>
   cases rr with
   | cons r'' rr=>
    cases rr;obtain⟨t,rfl⟩:=r;obtain⟨t',rfl⟩:=r';obtain⟨t'',rfl⟩:=r'';exact call_range_3 (by omega) (yg I1 c1 c2 q1 q2 q3 q4 q) (.inl (PyProof.noPylong_small (by omega)))
end
end L2
namespace DL
open PySem PySem.Spec PyProof.Rows L2
def jT (i j c:Int):List D:=(List.range (uQ i j c)).map λk:Nat=>.int (i+(k:Int)*c)
theorem ym {K:Fg} {H:Hp} {i j c:Int}:(∀ n d (S1:DH) H1,(jT i j c)[n]?=some d->Kp H H1->Hs K H1 S1->(λ_=>True:DH->Prop) S1->(FH i c (uQ i j c)).go n H1/\∀ x H',(FH i c (uQ i j c)).yld n H1 x H'->H'=H1/\bA K H1 d x)/\
  ∀ (S1:DH) H1,Kp H H1->Hs K H1 S1->(λ_=>True:DH->Prop) S1->(FH i c (uQ i j c)).stop (jT i j c).length H1:=by
 refine⟨λn d S1 H1 e _ _ _=>?_,λ_ _ _ _ _=>?_⟩
 ·unfold jT at e;rw [Ki] at e;cases q:(List.range (uQ i j c))[n]? with
  | none=>rw [q] at e; cases e
  | some z=>
   rw [q] at e;cases e;obtain⟨hz1,hz2⟩:=Kl.mp q;rw [List.length_range] at hz1;rw [List.getElem_range] at hz2;subst hz2;exact⟨hz1,λx H' y=>⟨y.1,by rw [y.2]; exact isInt.mpr rfl⟩⟩
 ·show uQ i j c<=(jT i j c).length
  unfold jT;rw [JZ,List.length_range];exact JX _
theorem vX {i j c:Int} (hc:0 < c) (h:j<=i):jT i j c=[]:=by
 unfold jT;rw [(v_ hc).2.2 h]
 rfl
def BM (ta:DA) (g:DG) (b:DS):DS:=λM L S=>ta L S λds S1=>match ds with
 | [.int i,.int j,.int c]=>(0 < c/\c < 2 ^ 30/\-(2 ^ 60)<=i/\i < 2 ^ 60/\-(2 ^ 60)<=j/\j < 2 ^ 60)/\fZ (λ_=>True) g b M (jT i j c) L S1
 | _=>False
section
variable {X:Cx} {a b c tg:KP} {p pos pos':Pos} {body:List KU} {ta:DA} {gg:DG} {g:DS}
theorem tU (hp:PassesOwn (model X.prog X.w) X.A X.env X.xe) (hc:X.calm=true) (hgl:Gl X "range") (hm:X.mg "range"=none) (ha:AJ X [a,b,c] ta) (hg:GJ X tg gg) (hb:x9 X body g)
  (hs1:starEach [a,b,c] X.env=[(false,eval a X.env),(false,eval b X.env),(false,eval c X.env)]:=by rfl) (hs2:starEach [b,c] X.env=[(false,eval b X.env),(false,eval c X.env)]:=by rfl) (hs:∀ x,foldedSetIterable (.Call (.Name "range" p) [a,b,c] [] pos') X.env x=pure x:=by intro _; rfl):
  SJ X (.For tg (.Call (.Name "range" p) [a,b,c] [] pos') body [] pos) (BM ta gg g):=
 ⟨PS.imp (pG hp hc (vw hgl hm ha.h hs1 hs2) hg.h hb.h hs) λN σ H ⟨L,S,M,hL,hS,h,r⟩=>qT.go hL hS h λds S1 vs H1 h1 k1 hL1 hS1 i1=>by
  split at h1
  ·obtain⟨v1,r1,rfl,j1,i2⟩:=bD.mp i1;obtain⟨v2,v3,rfl,j2,j3⟩:=kB i2;have e1:=isInt.mp j1;have e2:=isInt.mp j2;have e3:=isInt.mp j3;subst e1;subst e2;subst e3;obtain⟨hh,h1⟩:=h1;obtain⟨z1,z2⟩:=ym (K:=X.K) (H:=H1);exact⟨_,_,_,rfl,hh,ml hL1 hS1 h1 (r.kp k1) z1 z2⟩
  ·exact h1.elim⟩
end
end DL
namespace My
abbrev FN (K:PySem.W.Frag) (n:PySem.Str) (st:PySem.Stmt) (f:PySem.Addr) (fd:PySem.FuncData):=L2.xP K n n st f fd
variable {P:KQ} {w:KS} {K:Fg} {mg:Str->KO KM} {base:KT} {f:KN} {fd:FuncData}
open PySem PySem.Spec PyProof.Rows L2 DL HM
set_option maxHeartbeats 4000000
def cH (i : Nat) : KU := PySem.Challenge.pw_hingedraw_k91_texts_written_and_read.main.body.getD i (.Pass ⟨0, 0, 0, 0⟩)
abbrev eh:KU:=cH 9
abbrev s_:KU:=cH 10
abbrev v7:KU:=cH 11
abbrev sZ:KU:=cH 12
abbrev uV:KU:=cH 13
abbrev gh:KU:=cH 14
abbrev jh:KU:=cH 15
abbrev cB:KU:=cH 16
abbrev nA:KU:=cH 17
abbrev kI:KU:=cH 19
abbrev lg:KU:=cH 6
abbrev gL:KU:=cH 7
abbrev j4:KU:=cH 20
abbrev j8:KU:=cH 21
abbrev dG:KU:=cH 23
abbrev nV:KU:=cH 6
abbrev jI:KU:=cH 7
abbrev dU:KU:=cH 8
abbrev k_:KU:=cH 28
abbrev cU:KU:=cH 31
abbrev oQ:KU:=cH 32
abbrev k9:KU:=cH 33
abbrev mT:KU:=cH 34
abbrev ny:KU:=cH 35
abbrev mw:KU:=cH 36
abbrev iH:KU:=cH 37
abbrev iu:KU:=cH 43
abbrev eO:KU:=cH 44
abbrev gQ:KU:=cH 45
abbrev iV:KU:=cH 46
abbrev mN:KU:=cH 47
abbrev kL:KU:=cH 48
abbrev fS:KU:=cH 49
abbrev i8:KU:=cH 50
abbrev fL:KU:=cH 52
abbrev jm:KU:=cH 53
abbrev eR:KU:=cH 54
abbrev gO:KU:=cH 55
abbrev lf:KU:=cH 56
abbrev jd:KU:=cH 57
abbrev mU:KU:=cH 58
abbrev jK:KU:=cH 59
abbrev fP:KU:=cH 60
abbrev mL:KU:=cH 26
abbrev jC:KU:=cH 61
abbrev iZ:KU:=cH 62
abbrev iD:KU:=cH 63
abbrev io:KU:=cH 51
abbrev il:KU:=cH 64
abbrev fI:KU:=cH 66
abbrev ja:KU:=cH 67
abbrev j7:KU:=cH 68
abbrev fM:KU:=cH 69
abbrev iO:KU:=cH 70
abbrev iT:KU:=cH 73
abbrev eS:KU:=cH 74
abbrev gE:KU:=cH 81
abbrev i_:KU:=cH 85
abbrev iN:KU:=cH 86
abbrev iK:KU:=cH 78
abbrev jD:KU:=cH 79
abbrev de:KU:=cH 80
abbrev dD:KU:=cH 84
abbrev jL:KU:=cH 82
abbrev i5:KU:=cH 83
abbrev jc:KU:=cH 87
abbrev fK:KU:=cH 88
abbrev jO:KU:=cH 89
abbrev j_:KU:=cH 90
abbrev dP:KU:=cH 91
abbrev dh:KU:=cH 92
abbrev dI:KU:=cH 93
abbrev zP:KU:=cH 94
theorem mO:bootBuiltins "abs"=some (.builtin "abs"):=by decide +kernel
theorem aU:bootBuiltins "isinstance"=some (.builtin "isinstance"):=by decide +kernel
theorem wq:bootBuiltins "bool"=some (.type "bool"):=by decide +kernel
theorem lb:bootBuiltins "int"=some (.type "int"):=by decide +kernel
theorem bJ:bootBuiltins "len"=some (.builtin "len"):=by decide +kernel
theorem cw:bootBuiltins "tuple"=some (.type "tuple"):=by decide +kernel
theorem mK:bootBuiltins "str"=some (.type "str"):=by decide +kernel
theorem zz:bootBuiltins "range"=some (.type "range"):=by decide +kernel
theorem Dq:bootBuiltins "all"=some (.builtin "all"):=by decide +kernel
theorem qK:bootBuiltins "sorted"=some (.builtin "sorted"):=by decide +kernel
theorem xa:bootBuiltins "dict"=some (.type "dict"):=by decide +kernel
theorem Ag:bootBuiltins "max"=some (.builtin "max"):=by decide +kernel
theorem Dj:bootBuiltins "min"=some (.builtin "min"):=by decide +kernel
theorem By:bootBuiltins "list"=some (.type "list"):=by decide +kernel
theorem y4 {y:Int} {A B:Prop} (h1:y≠0->A) (h2:y=0->B):if (!decide (y=0))=true then A else B:=by
 by_cases h:y=0
 ·rw [if_neg (by simp [h])]; exact h2 h
 ·rw [if_pos (by simp [h])]; exact h1 h
theorem aF {p:Prop} [Decidable p] {A B:Prop} (h1:p->A) (h2:¬ p->B):if decide p=true then A else B:=by
 by_cases h:p
 ·rw [if_pos (by simp [h])]; exact h1 h
 ·rw [if_neg (by simp [h])]; exact h2 h
theorem hZ {p:Prop} [Decidable p] {A B:Prop} (h1:¬ p->A) (h2:p->B):if (!decide p)=true then A else B:=by
 by_cases h:p
 ·rw [if_neg (by simp [h])]; exact h2 h
 ·rw [if_pos (by simp [h])]; exact h1 h
theorem cz {c:KY} {A B:Prop} (h1:c=true->A) (h2:c=false->B):if c=true then A else B:=by
 cases c
 ·exact Ch (h2 rfl)
 ·exact wa (h1 rfl)
theorem iy {c:KY} {A B:Prop} (h1:c=false->A) (h2:c=true->B):if (!c)=true then A else B:=by
 cases c
 ·exact wa (h1 rfl)
 ·exact Ch (h2 rfl)
theorem oC {ds:List D} {i:Int} (h0:0<=i) (h1:i < (ds.length:Int)):∃ d,L2.atI ds i=some d/\d∈ds:=by
 obtain⟨n,rfl⟩:=Int.eq_ofNat_of_zero_le h0;have hn:n < ds.length:=by omega
 exact⟨ds[n],fk (by simp [hn]),List.getElem_mem hn⟩
theorem uG {ok:DH->Prop} {g:DG} {b:DS} {M:lZ} {P:D->Prop} (Iv:Lo->DH->Prop) (hok:∀ L S,Iv L S->ok S)
  (hs:∀ d L S N,P d->Iv L S->(∀ L' S',Iv L' S'->N L' S')->g d L S λL1 S1=>b {M with nx:=N,ct:=N,bk:=M.nx} L1 S1) (hd:∀ L S,Iv L S->M.nx L S):∀ r,(∀ d∈r,P d)->∀ L S,Iv L S->fZ ok g b M r L S
 | [],_,L,S,i=>⟨hok L S i,hd L S i⟩
 | d::r,hp,L,S,i=>⟨hok L S i,hs d L S _ (hp d J4) i λL' S' i'=>uG Iv hok hs hd r (λe he=>hp e (J5 _ he)) L' S' i'⟩
instance {n:Nat} {x:Int}:Decidable (Bt n x):=inferInstanceAs (Decidable (x.natAbs < 2 ^ n))
theorem few {ds:List D} (h:Nat.ble ds.length sizeLine=true:=by rfl):ds.length<=sizeLine:=Kb h
def n5 (S:DH) (a:KN):Prop:=∃ n b,S a=some (.lst [.int n,.bl b])/\(b=false->0<=n/\n < 2147483647)
def Dr (a:KN) (S S':DH):Prop:=n5 S' a/\∀ b o,b≠a->S b=some o->S' b=some o
theorem Dr.trans {a:KN} {S S1 S2:DH} (h1:Dr a S S1) (h2:Dr a S1 S2):Dr a S S2:=⟨h2.1,λb o n e=>h2.2 b o n (h1.2 b o n e)⟩
theorem n5.ne {a p:KN} {S:DH} (h:n5 S a) (hp:S p=none):p≠a:=by
 obtain⟨n,b,e,_⟩:=h;intro z;subst z;rw [e] at hp;cases hp
theorem n5.new {a p:KN} {S:DH} {o:DO} (h:n5 S a) (hp:S p=none):n5 (put S p o) a:=by
 have z:=h.ne hp;obtain⟨n,b,e,q⟩:=h;exact⟨n,b,by rw [cm (Ne.symm z)]; exact e,q⟩
theorem Dr.new {a p:KN} {S:DH} {o:DO} (h:n5 S a) (hp:S p=none):Dr a S (put S p o):=
 ⟨h.new hp,λb u n e=>by rw [cm (ve e hp)]; exact e⟩
theorem x8 {x:Int} (h1:0<=x) (h2:x < 2147483648):Bt 31 x:=by
 unfold Bt;omega
def N (u a b:Rat):D:=.tup [fr a,fr (ss b*u)]
structure Fd (u:Rat):Prop where
 pos:0 < u
 no:Ap u
 sz:Sz 7 u
structure Sm (n:Nat) (a b:Rat):Prop where
 a:Sz n a
 b:Sz n b
theorem Hq {q:Rat}:D.tup [.int (if q.num < 0 then -q.num else q.num),.int (q.den:Int)]=fr (ab q):=by
 show _=D.tup [.int (ab q).num,.int ((ab q).den:Int)]
 rw [E8,Ew]
theorem AW {n:Nat} {t b:Int} (h:b≠0) (hb:Bt n b):Bt n ((Int.gcd t b:Nat):Int):=by
 refine hb.le ?_;have h1:Int.gcd t b ∣ b.natAbs:=by
  have:=Int.gcd_dvd_right t b;exact(by have:=Int.natAbs_dvd_natAbs.mpr this; simpa using this)
 have:=Nat.le_of_dvd (by omega) h1
 omega
def bM:bE:=λds S k=>match ds with
 | [.int a,.int b]=>k (.int ((Int.gcd a b:Nat):Int)) S
 | _=>False
theorem cC:ao ["one","other","rest"] ["one","other"] (aj eh):=cG
theorem lK (Fn:FN K "common_divisor" eh f fd) (eW:mg "abs"=none):
  aQ P w K mg base b8 1 f fd ["one","other"] (ca K bM):=by
 refine Fn.okJ cC (λds S k h=>?_) (λcdv A outer s H E hr=>⟨_,(ag (iR PassesOwn.never (au kN (af 1) ae (ar _)) (ag (am (i:=2) cC.nd (aB ky (af 0) (af 1))) (ag (am (i:=0) cC.nd (af 1)) (ah (am (i:=1) cC.nd (af 2)))))) (ah (ai (aA qL rfl eW mO (aH 0 ac))))),λds S k h=>?_⟩)
 ·unfold bM at h
  split at h
  ·rfl
  ·exact h.elim
 ·unfold bM at h
  split at h
  ·rename_i a b
   refine⟨λm L S'=>S'=S/\∃ x y r,L=[some (.int x),some (.int y),r]/\m=y.natAbs/\Int.gcd x y=Int.gcd a b,⟨_,rfl,a,b,_,rfl,rfl,rfl⟩,?_⟩
   rintro m L S' ⟨rfl,x,y,r,rfl,rfl,e⟩;refine y4 (λhy=>⟨λL' S''=>∃ m',m' < y.natAbs/\S''=S'/\∃ x y r,L'=[some (.int x),some (.int y),r]/\m'=y.natAbs/\Int.gcd x y=Int.gcd a b,λ_ _ z=>z,hy,?_⟩) (λhy=>?_)
   ·exact⟨_,wA x y hy,rfl,y,x.fmod y,_,rfl,rfl,(uA x y).trans e⟩
   ·subst hy;have e2:=uF x;rw [e] at e2
    show k (.int (if x < 0 then -x else x)) S'
    rw [<- e2];exact h
  ·exact h.elim
def iE:bE:=λds S k=>match ds with
 | [.int t,.int b]=>b≠0/\Bt 8000 b/\k (fr (Rat.divInt t b)) S
 | _=>False
theorem pb {S:DH} {k:DK} {t b:Int} {q:Rat} (e:Rat.divInt t b=q) (h0:b≠0) (hb:Bt 8000 b) (h:k (fr q) S):iE [.int t,.int b] S k:=by subst e; exact⟨h0,hb,h⟩
theorem oW:ao ["top","bottom","shared"] ["top","bottom"] (aj s_):=cG
theorem AG (Fn:FN K "ratio" s_ f fd) (aZ:bf P w K mg base "common_divisor" 1 bM):
  aQ P w K mg base b8 2 f fd ["top","bottom"] (ca K iE):=by
 refine Fn.okJ oW (λds S k h=>?_) (λcdv A outer s H E hr=>⟨_,(ag (ay (au dX (af 1) ae (ar _)) (ah be) az) (ag (am (i:=2) oW.nd (dq aZ hr (aH 0 (aH 1 ac)))) (ag (ay (au tR (af 1) ae (ar _)) (ah (am (i:=2) oW.nd (q_ qM (af 2)))) az) (ah (ai (aC (aa (aB jr (af 0) (af 2)) (aa (aB jr (af 1) (af 2)) ac)))))))),λds S k h=>?_⟩)
 ·unfold iE at h
  split at h
  ·rfl
  ·exact h.elim
 ·unfold iE at h
  split at h
  ·rename_i t b
   obtain⟨h0,hb,q⟩:=h;have hg:=AW (t:=t) h0 hb;have hs:=Ba (t:=t) h0;have e1:=se (t:=t) h0;have e2:=sB (t:=t) h0;have qq:k (.tup [.int (t.fdiv (yq t b)),.int (b.fdiv (yq t b))]) S:=by rw [e1,e2]; exact q
   unfold yq at qq hs
   refine aF (λz=>absurd z h0) (λ_=>aF (λhl=>?_) (λhl=>?_))
   ·rw [if_pos hl] at qq hs
    exact⟨BW hs hg.neg,BW hs hg.neg,few,qq⟩
   ·rw [if_neg hl] at qq hs
    exact⟨BW hs hg,BW hs hg,few,qq⟩
  ·exact h.elim
def yT:bE:=λds S k=>∃ p q:Rat,ds=[fr p,fr q]/\Sz 4000 p/\Sz 4000 q/\k (fr (p+q)) S
theorem Cd:ao ["one","other"] ["one","other"] (aj v7):=cG
theorem BL (Fn:FN K "plus" v7 f fd) (e_:bf P w K mg base "ratio" 2 iE):
  aQ P w K mg base b8 3 f fd ["one","other"] (ca K yT):=by
 refine Fn.okJ Cd (λds S k h=>?_) (λcdv A outer s H E hr=>⟨_,(ah (ai (dq e_ hr (aa (aB bv (aB dZ (dz 0) (dz 1)) (aB dZ (dz 1) (dz 0))) (aa (aB dZ (dz 0) (dz 1)) ac))))),λds S k h=>?_⟩)
 ·obtain⟨_,_,rfl,_⟩:=h
  rfl
 ·obtain⟨p,q,rfl,hp,hq,w⟩:=h;exact⟨uR hp.num hq.den,uR hq.num hp.den,uR hp.den hq.den,pb (Fo p q) (fN p q) ((hp.den.mul hq.den).mono (by decide)) w⟩
def w9:bE:=λds S k=>∃ p q:Rat,ds=[fr p,fr q]/\Sz 4000 p/\Sz 4000 q/\k (fr (p*q)) S
theorem zw:ao ["one","other"] ["one","other"] (aj sZ):=cG
theorem yA (Fn:FN K "times" sZ f fd) (e_:bf P w K mg base "ratio" 2 iE):
  aQ P w K mg base b8 3 f fd ["one","other"] (ca K w9):=by
 refine Fn.okJ zw (λds S k h=>?_) (λcdv A outer s H E hr=>⟨_,(ah (ai (dq e_ hr (aa (aB dZ (dz 0) (dz 1)) (aa (aB dZ (dz 0) (dz 1)) ac))))),λds S k h=>?_⟩)
 ·obtain⟨_,_,rfl,_⟩:=h
  rfl
 ·obtain⟨p,q,rfl,hp,hq,w⟩:=h;exact⟨uR hp.num hq.num,uR hp.den hq.den,pb (wb p q) (fN p q) ((hp.den.mul hq.den).mono (by decide)) w⟩
def Aw:bE:=λds S k=>∃ p q:Rat,ds=[fr p,fr q]/\q≠0/\Sz 4000 p/\Sz 4000 q/\k (fr (p / q)) S
theorem CD:ao ["one","other"] ["one","other"] (aj uV):=cG
theorem Cj (Fn:FN K "over" uV f fd) (e_:bf P w K mg base "ratio" 2 iE):
  aQ P w K mg base b8 3 f fd ["one","other"] (ca K Aw):=by
 refine Fn.okJ CD (λds S k h=>?_) (λcdv A outer s H E hr=>⟨_,(ah (ai (dq e_ hr (aa (aB dZ (dz 0) (dz 1)) (aa (aB dZ (dz 0) (dz 1)) ac))))),λds S k h=>?_⟩)
 ·obtain⟨_,_,rfl,_⟩:=h
  rfl
 ·obtain⟨p,q,rfl,h0,hp,hq,w⟩:=h;exact⟨uR hp.num hq.den,uR hp.den hq.num,pb (AZ p q) (Int.mul_ne_zero (sx p) (iB h0)) ((hp.den.mul hq.num).mono (by decide)) w⟩
def fG:bE:=λds S k=>∃ q:Rat,ds=[fr q]/\k (fr (ab q)) S
theorem oi:ao ["one"] ["one"] (aj gh):=cG
theorem oa (Fn:FN K "without_sign" gh f fd) (eW:mg "abs"=none):
  aQ P w K mg base b8 1 f fd ["one"] (ca K fG):=by
 refine Fn.okJ oi (λds S k h=>?_) (λcdv A outer s H E hr=>⟨_,(ah (ai (aC (aa (aA qL rfl eW mO (aa (dz 0) ac)) (aa (dz 0) ac))))),λds S k h=>?_⟩)
 ·obtain⟨_,rfl,_⟩:=h
  rfl
 ·obtain⟨q,rfl,w⟩:=h;rw [<- Hq] at w;exact⟨few,w⟩
set_option maxHeartbeats 4000000
def mj:bE:=λds S k=>∃ n:Int,ds=[.int n]/\0<=n/\Bt 4000 n/\k (.int (jo n)) S
theorem cZ:ao ["number","guess","better"] ["number"] (aj jh):=cG
theorem qm (Fn:FN K "whole_root" jh f fd):
  aQ P w K mg base b8 1 f fd ["number"] (ca K mj):=by
 refine Fn.okJ cZ (λds S k h=>?_) (λcdv A outer s H E hr=>⟨_,(ag (ay (au dX (af 0) ae (ar _)) (ah (ai ae)) az) (ag (am (i:=1) cZ.nd (aB Hx ae (aB jr (aB bv (Co (af 0)) ae) ae))) (ag (am (i:=2) cZ.nd (aB jr (aB bv (af 1) (aB jr (af 0) (af 1))) ae)) (ag (iR PassesOwn.never (au tR (af 2) (af 1) (ar _)) (ag (am (i:=1) cZ.nd (af 2)) (ah (am (i:=2) cZ.nd (aB jr (aB bv (af 1) (aB jr (af 0) (af 1))) ae))))) (ah (ai (af 1))))))),λds S k h=>?_⟩)
 ·obtain⟨_,rfl,_⟩:=h
  rfl
 ·obtain⟨n,rfl,h0,hb,q⟩:=h;refine aF (λe=>?_) (λe=>?_)
  ·subst e;rw [Aj] at q;exact q
  ·have hbits:Builtin.Int.intBits n<=4000:=intBits_le_iff.mpr hb;have h1:1<=n:=by omega
   have hn:n.natAbs < 2 ^ Builtin.Int.intBits n:=intBits_le_iff.mp (JX _);have G:=Gd.first h1 hn hbits;have hc:yf 1 ((((Builtin.Int.intBits n:Nat):Int)+1).fdiv 2):=by
    have e2:=qO (((Builtin.Int.intBits n:Nat):Int)+1) (b:=2) (by decide)
    exact⟨by rw [e2]; omega,by rw [e2]; omega,by decide⟩
   have two:∀ x:Int,re x 2:=λx=>⟨by decide,by decide +kernel⟩
   have dv:∀ g:Int,Gd n g->re n g:=λg G=>BW (by have:=G.pos; omega) G.bt
   refine⟨two _,hc,dv _ G,two _,λm L S'=>S'=S/\∃ g,L=[some (.int n),some (.int g),some (.int ((g+n.fdiv g).fdiv 2))]/\m=g.toNat/\Gd n g,⟨_,rfl,_,rfl,rfl,G⟩,?_⟩
   rintro m L S' ⟨rfl,g,rfl,rfl,G⟩;refine aF (λhl=>⟨λL' S''=>∃ m',m' < g.toNat/\S''=S'/\∃ g,L'=[some (.int n),some (.int g),some (.int ((g+n.fdiv g).fdiv 2))]/\m'=g.toNat/\Gd n g,λ_ _ z=>z,dv _ (G.next h1 hl),two _,?_⟩) (λhl=>?_)
   ·have G2:=G.next h1 hl;exact⟨_,by have:=G2.pos; have:=G.pos; omega,rfl,_,rfl,rfl,G2⟩
   ·rw [<- G.last h1 hl] at q;exact q
def C9 (n:Int):D:=if jo n*jo n=n then .int (jo n) else .non
def dY:bE:=λds S k=>∃ n:Int,ds=[.int n]/\0<=n/\Bt 4000 n/\k (C9 n) S
theorem dB:ao ["number","root"] ["number"] (aj cB):=cG
theorem iA (Fn:FN K "square_root_or_none" cB f fd) (iX:bf P w K mg base "whole_root" 1 mj):
  aQ P w K mg base b8 2 f fd ["number"] (ca K dY):=by
 refine Fn.okJ dB (λds S k h=>?_) (λcdv A outer s H E hr=>⟨_,(ag (am (i:=1) dB.nd (dq iX hr (aH 0 ac))) (ah (ai (pH (au dX (aB dZ (af 1) (af 1)) (af 0) (ar _)) (af 1) ii)))),λds S k h=>?_⟩)
 ·obtain⟨_,rfl,_⟩:=h
  rfl
 ·obtain⟨n,rfl,h0,hb,q⟩:=h;have b2:=EH h0 hb;refine⟨n,rfl,h0,hb,uR b2 b2,aF (λe=>?_) (λe=>?_)⟩
  ·rw [C9,if_pos e] at q;exact q
  ·rw [C9,if_neg e] at q;exact q
def mQ:bE:=λds S k=>∃ q:Rat,ds=[fr q]/\0<=q/\Sz 4000 q/\(∀ r,0<=r->r*r=q->k (fr r) S)/\(Ap q->k .non S)
theorem k6:ao ["one","top","bottom"] ["one"] (aj nA):=cG
theorem vQ (Fn:FN K "root_in" nA f fd) (bR:bf P w K mg base "square_root_or_none" 2 dY):
  aQ P w K mg base b8 3 f fd ["one"] (ca K mQ):=by
 refine Fn.okJ k6 (λds S k h=>?_) (λcdv A outer s H E hr=>⟨_,(ag (am (i:=1) k6.nd (dq bR hr (aa (dz 0) ac))) (ag (ay (au DF (af 1) ii (ar _)) (ah (ai ii)) az) (ag (am (i:=2) k6.nd (dq bR hr (aa (dz 0) ac))) (ag (ay (au DF (af 2) ii (ar _)) (ah (ai ii)) az) (ah (ai (aC (aH 1 (aH 2 ac))))))))),λds S k h=>?_⟩)
 ·obtain⟨_,rfl,_⟩:=h
  rfl
 ·obtain⟨q,rfl,h0,hs,h1,h2⟩:=h;have n0:=vv h0
  by_cases e:jo q.num*jo q.num=q.num
  ·by_cases e2:jo (q.den:Int)*jo (q.den:Int)=(q.den:Int)
   ·obtain⟨r,r0,rr⟩:=vI h0 e e2;obtain⟨e3,e4⟩:=vz r0 rr;have w:=h1 r r0 rr;refine⟨q.num,rfl,n0,hs.num,?_⟩;rw [show C9 q.num=.int (jo q.num) from if_pos e]
    refine⟨(q.den:Int),rfl,by omega,hs.den,?_⟩
    rw [show C9 (q.den:Int)=.int (jo (q.den:Int)) from if_pos e2,e3,e4]
    exact⟨few,w⟩
   ·refine⟨q.num,rfl,n0,hs.num,?_⟩;rw [show C9 q.num=.int (jo q.num) from if_pos e]
    refine⟨(q.den:Int),rfl,by omega,hs.den,?_⟩
    rw [show C9 (q.den:Int)=.non from if_neg e2]
    refine h2 λr rr=>e2 ?_
    have:=congrArg (λz:Rat=>(z.den:Int)) rr
    simp only [vg,Int.natCast_mul] at this;exact yD this
  ·refine⟨q.num,rfl,n0,hs.num,?_⟩;rw [show C9 q.num=.non from if_neg e]
   refine h2 λr rr=>e ?_
   have:=congrArg Rat.num rr;rw [u9] at this;exact yD this
def fE:bE:=λds S k=>∃ x q,ds=[.tup [x,fr q]]/\k (.bl (decide (q=0))) S
theorem uH:ao ["one"] ["one"] (aj kI):=cG
theorem tI (Fn:FN K "is_plain" kI f fd):
  aQ P w K mg base b8 1 f fd ["one"] (ca K fE):=by
 refine Fn.okJ uH (λds S k h=>?_) (λcdv A outer s H E hr=>⟨_,(ah (ai (b_ dX (aD pd (dz 0) ae Zf) ae (ar _)))),λds S k h=>?_⟩)
 ·obtain⟨_,_,rfl,_⟩:=h
  rfl
 ·obtain⟨x,q,rfl,w⟩:=h;have e:decide (q.num=0)=decide (q=0):=by
   by_cases h0:q=0
   ·subst h0; rfl
   ·rw [Ky h0,Ky (iB h0)]
  rw [<- e] at w;exact w
set_option maxHeartbeats 4000000
def bs (u b d:Rat):Rat:=pick b d*pick b d*u
set_option maxHeartbeats 4000000
def iG:bE:=λds S k=>match ds with
 | [.int _]=>k (.bl true) S
 | _=>False
theorem tz:ao ["thing"] ["thing"] (aj lg):=cG
theorem ur (Fn:FN K "is_whole" lg f fd) (aw:mg "isinstance"=none) (nE:mg "bool"=none) (eI:mg "int"=none):
  aQ P w K mg base b8 1 f fd ["thing"] (ca K iG):=by
 refine Fn.okJ tz (λds S k h=>?_) (λcdv A outer s H E hr=>⟨_,(ah (ai (dW (aA eP rfl aw aU (aH 0 (aa (ic (n:=.int) rfl eI lb) ac))) (dR (Ar (aA eP rfl aw aU (aH 0 (aa (ic (n:=.bool) rfl nE wq) ac)))))))),λds S k h=>?_⟩)
 ·unfold iG at h
  split at h
  ·rfl
  ·exact h.elim
 ·unfold iG at h
  split at h
  ·exact⟨_,rfl,_,rfl,h⟩
  ·exact h.elim
def gJ:bE:=λds S k=>∃ q:Rat,ds=[fr q]/\k (.bl true) S
theorem pM:ao ["thing"] ["thing"] (aj gL):=cG
theorem oR (Fn:FN K "is_fraction" gL f fd) (im:bf P w K mg base "is_whole" 1 iG) (aZ:bf P w K mg base "common_divisor" 1 bM) (aM:mg "len"=none) (aw:mg "isinstance"=none) (aK:mg "tuple"=none):
  aQ P w K mg base b8 2 f fd ["thing"] (ca K gJ):=by
 refine Fn.okJ pM (λds S k h=>?_) (λcdv A outer s H E hr=>⟨_,(ag (ay (WJ.pt (ce (aY (aL (aA eP rfl aw aU (aH 0 (aa (ic (n:=.tup) rfl aK cw) ac))))) (bI (au kN (aA cM rfl aM bJ (aH 0 ac)) ae (ar _))))) (ah (ai cr)) az) (ag (ay (WJ.pt (ce (aY (aL (dq im hr (aa (dz 0) ac)))) (bI (aY (aL (dq im hr (aa (dz 0) ac))))))) (ah (ai cr)) az) (ah (ai (dW (b_ yM (dz 0) ae (ar _)) (dR (b_ dX (dq aZ hr (aa (dz 0) (aa (dz 0) ac))) ae (ar _)))))))),λds S k h=>?_⟩)
 ·obtain⟨_,rfl,_⟩:=h
  rfl
 ·obtain⟨q,rfl,w⟩:=h;have hd:=q.den_nz;refine⟨_,rfl,aF (λ_=>?_) (λz=>absurd (show (1:Int)<=(q.den:Int) by omega) z)⟩
  have e:decide ((((Int.gcd q.num (q.den:Int)):Nat):Int)=1)=true:=by rw [BE]; rfl
  rw [<- e] at w;exact w
def nR:bE:=λds S k=>∃ u a b:Rat,ds=[N u a b]/\Fd u/\Sm 300 a b/\k (.bl true) S
theorem sQ:ao ["thing"] ["thing"] (aj j4):=cG
theorem sJ (Fn:FN K "is_number" j4 f fd) (b5:bf P w K mg base "is_fraction" 2 gJ) (fA:bf P w K mg base "root_in" 3 mQ) (bQ:bf P w K mg base "without_sign" 1 fG) (bz:bf P w K mg base "is_plain" 1 fE) (aM:mg "len"=none) (aw:mg "isinstance"=none) (aK:mg "tuple"=none):
  aQ P w K mg base b8 4 f fd ["thing"] (ca K nR):=by
 refine Fn.okJ sQ (λds S k h=>?_) (λcdv A outer s H E hr=>⟨_,(ag (ay (WJ.pt (ce (aY (aL (aA eP rfl aw aU (aH 0 (aa (ic (n:=.tup) rfl aK cw) ac))))) (bI (au kN (aA cM rfl aM bJ (aH 0 ac)) ae (ar _))))) (ah (ai cr)) az) (ag (ay (WJ.pt (ce (aY (aL (dq b5 hr (aa (dz 0) ac)))) (bI (aY (aL (dq b5 hr (aa (dz 0) ac))))))) (ah (ai cr)) az) (ah (ai (CV (dq bz hr (aH 0 ac)) (dR (b_ DF (dq fA hr (aa (dq bQ hr (aa (dz 0) ac)) ac)) ii (ar _)))))))),λds S k h=>?_⟩)
 ·obtain⟨_,_,_,rfl,_⟩:=h
  rfl
 ·obtain⟨u,a,b,rfl,hu,h1,w⟩:=h;have ed:ab (ss b*u)=b*b*u:=zd hu.pos;refine⟨_,rfl,a,rfl,_,rfl,fr a,ss b*u,rfl,aF (λ_=>w) (λe=>?_)⟩
  have b0:b≠0:=λz=>e ((wG hu.pos).mpr z)
  refine⟨_,rfl,_,rfl,AU _,((h1.b.ss.mul hu.sz).ab).mono (by decide),λr r0 rr=>?_,λno=>w⟩
  rw [ed] at rr;exact absurd (show (r / b)*(r / b)=u by grind) (hu.no _)
set_option maxHeartbeats 4000000
def bh (S S':DH):Prop:=∀ b o,S b=some o->S' b=some o
theorem bh.refl (S:DH):bh S S:=λ_ _ h=>h
theorem bh.trans {S S1 S2:DH} (a:bh S S1) (b:bh S1 S2):bh S S2:=λc o h=>b c o (a c o h)
theorem bh.new {S:DH} {p:KN} {o:DO} (h:S p=none):bh S (put S p o):=λb u e=>by
 unfold put
 split
 ·rename_i z; subst z; rw [h] at e; cases e
 ·exact e
theorem bh.put {S S1:DH} {p:KN} {o:DO} (e:bh S S1) (h:S p=none):bh S (put S1 p o):=λb u z=>by
 unfold DL.put
 split
 ·rename_i y; subst y; rw [h] at z; cases z
 ·exact e b u z
theorem bh.none {S S1:DH} {p:KN} (e:bh S S1) (h:S1 p=none):S p=none:=by
 cases q:S p with
 | none=>rfl
 | some o=>rw [e p o q] at h; cases h
abbrev Q:=Rat×Rat
def qs (x y:Q):Q:=(x.1 - y.1,x.2 - y.2)
abbrev Sq (n:Nat) (x:Q):Prop:=Sm n x.1 x.2
def Pq (u:Rat) (x y:Q):D:=.tup [N u x.1 x.2,N u y.1 y.2]
def nW:bE:=λds S k=>∃ u a b c d:Rat,ds=[N u a b,N u c d]/\0 < u/\Sz 7 u/\Sz 300 b/\Sz 300 d/\k (.bl true) S
theorem sV:ao ["one","other"] ["one","other"] (aj j8):=cG
theorem sj (Fn:FN K "one_field" j8 f fd) (bz:bf P w K mg base "is_plain" 1 fE) (fA:bf P w K mg base "root_in" 3 mQ) (wc:bf P w K mg base "over" 3 Aw) (bQ:bf P w K mg base "without_sign" 1 fG):
  aQ P w K mg base b8 4 f fd ["one","other"] (ca K nW):=by
 refine Fn.okJ sV (λds S k h=>?_) (λcdv A outer s H E hr=>⟨_,(ag (ay (WJ.pt (ce (aL (dq bz hr (aH 0 ac))) (bI (aL (dq bz hr (aH 1 ac)))))) (ah (ai cr)) az) (ah (ai (b_ w_ (dq fA hr (aa (dq wc hr (aa (dq bQ hr (aa (dz 0) ac)) (aa (dq bQ hr (aa (dz 1) ac)) ac))) ac)) ii (ar _))))),λds S k h=>?_⟩)
 ·obtain⟨_,_,_,_,_,rfl,_⟩:=h
  rfl
 ·obtain⟨u,a,b,c,d,rfl,u0,hu,hb,hd,w⟩:=h;refine⟨fr a,ss b*u,rfl,aF (λ_=>w) (λe=>⟨fr c,ss d*u,rfl,aF (λ_=>w) (λe2=>?_)⟩)⟩
  have d0:d≠0:=λz=>e2 ((wG u0).mpr z)
  have eb:ab (ss b*u)=b*b*u:=zd u0;have ed:ab (ss d*u)=d*d*u:=zd u0;have s1:Sz 607 (ab (ss b*u)):=(hb.ss.mul hu).ab;have s2:Sz 607 (ab (ss d*u)):=(hd.ss.mul hu).ab;have ne:ab (ss d*u)≠0:=by rw [ed]; grind
  refine⟨_,rfl,_,rfl,_,_,rfl,ne,s1.mono (by decide),s2.mono (by decide),_,rfl,yS (AU _) (AU _),(s1.div s2 ne).mono (by decide),λr r0 rr=>w,λno=>?_⟩
  rw [eb,ed] at no;exact absurd (zE u0 d0) (no _)
def W (x y:Rat):D:=.tup [fr x,fr y]
def gu:bE:=λds S k=>∃ x y z v:Rat,ds=[W x y,W z v]/\Sz 900 x/\Sz 900 y/\Sz 900 z/\Sz 900 v/\k (fr (x*z+y*v)) S
theorem k8:ao ["one","other"] ["one","other"] (aj dG):=cG
theorem kU (Fn:FN K "product_of_ways" dG f fd) (wl:bf P w K mg base "plus" 3 yT) (oA:bf P w K mg base "times" 3 w9):
  aQ P w K mg base b8 4 f fd ["one","other"] (ca K gu):=by
 refine Fn.okJ k8 (λds S k h=>?_) (λcdv A outer s H E hr=>⟨_,(ah (ai (dq wl hr (aa (dq oA hr (aa (dz 0) (aa (dz 1) ac))) (aa (dq oA hr (aa (dz 0) (aa (dz 1) ac))) ac))))),λds S k h=>?_⟩)
 ·obtain⟨_,_,_,_,rfl,_⟩:=h
  rfl
 ·obtain⟨x,y,z,v,rfl,hx,hy,hz,hv,w⟩:=h;exact⟨x,z,rfl,hx.mono (by decide),hz.mono (by decide),y,v,rfl,hy.mono (by decide),hv.mono (by decide),_,_,rfl,(hx.mul hz).mono (by decide),(hy.mul hv).mono (by decide),w⟩
set_option maxHeartbeats 4000000
def pV:D->KY
 | .int _=>true
 | _=>false
def cx:D->KY
 | .tup [.int a,.int b]=>decide (1<=b) && decide (((Int.gcd a b:Nat):Int)=1)
 | _=>false
def en:D->KY
 | .tup [.int a,.int b]=>cx (.tup [.int a,.int b]) && decide (0 < a)
 | _=>false
def bZ (n:Nat):D->KY
 | .int i=>decide (0<=i) && decide (i < (n:Int))
 | _=>false
def uK:D->D->KY
 | .int a,.int b=>!decide (a=b)
 | _,_=>false
def xw:D->KY
 | .int v=>decide (0<=v) && decide (v<=1)
 | _=>false
def vi:D->KY
 | .tup (.str w::_)=>w == "fix"
 | _=>false
def oY (as:List D):D->KY
 | .int i=>match as[i.toNat]? with
  | some x=>vi x
  | none=>false
 | _=>false
def B5:List D->KY
 | [x,y]=>cx x && cx y
 | _=>false
def sE (as:List D):List D->KY
 | [c,l]=>bZ as.length c && (oY as c && en l)
 | _=>false
def w5 (n:Nat):List D->KY
 | [i,j,s,t,v]=>(bZ n i && bZ n j && uK i j) && (en s && en t && xw v)
 | _=>false
def wO (n:Nat):List D->KY
 | [i,j,a,l]=>(bZ n i && bZ n j && uK i j) && (cx a && cx l)
 | _=>false
def lQ (as:List D):D->KY
 | .tup (.str w::r)=>if (w == "fix")=true then B5 r else if (w == "crank")=true then sE as r else if (w == "pair")=true then w5 as.length r else(w == "like") && wO as.length r
 | _=>false
def c8 (all:List D):Nat->List D->KY
 | _,[]=>true
 | k,d::r=>lQ (all.take k) d && c8 all (k+1) r
def xf:D->KY
 | .tup ds=>decide (1<=(ds.length:Int)) && decide ((ds.length:Int)<=7) && c8 ds 0 ds
 | _=>false
def yo (S:DH) (d:D):Prop:=∃ t,FM S d=some t
def El (S:DH) (d:D):Prop:=yo S d/\(∀ ds,d=.tup ds->∀ x∈ds,yo S x)/\∀ a,d=.ref a->∃ ds,S a=some (.lst ds)
def St (S:DH) (d:D):Prop:=yo S d/\∀ ds,d=.tup ds->∀ x∈ds,El S x
def Th (S:DH) (d:D):Prop:=yo S d/\∀ ds,d=.tup ds->∀ x∈ds,St S x
theorem AM {S:DH} {d:D} {t:Ty} (h:FM S d=some t):pV d=(match t with | .int=>true | _=>false):=by
 cases d with
 | ref a=>
  have h:HE (S a)=some t:=h;cases z:S a with
  | none=>rw [z] at h; cases h
  | some o=>rw [z] at h; cases o <;> cases h <;> rfl
 | _=>cases h <;> rfl
theorem kc {d:D} (h:pV d=true):∃ i,d=.int i:=by
 cases d with
 | int i=>exact⟨i,rfl⟩
 | _=>exact absurd (show false=true from h) J0
theorem sK {S:DH} {d:D} {t:Ty} (h:FM S d=some t) (n:∀ ds,d≠.tup ds):pZ t .tup=false:=by
 cases d with
 | ref a=>
  have h:HE (S a)=some t:=h;cases z:S a with
  | none=>rw [z] at h; cases h
  | some o=>rw [z] at h; cases o <;> cases h <;> rfl
 | tup ds=>exact absurd rfl (n ds)
 | _=>cases h <;> rfl
theorem vj (d:D):(∃ ds,d=.tup ds)\/∀ ds,d≠.tup ds:=by
 cases d with
 | tup ds=>exact .inl ⟨ds,rfl⟩
 | _=>exact .inr λds h=>by cases h
theorem E6 {ds:List D} (h:(ds.length:Int)=2):∃ x y,ds=[x,y]:=by
 match ds,h with
 | [x,y],_=>exact⟨x,y,rfl⟩
 | [],h=>cases h
 | [_],h=>exact absurd h (by simp)
 | _::_::_::r,h=>simp only [J9] at h; omega
theorem F8 {ds:List D} (h:(ds.length:Int)=5):∃ a b c d e,ds=[a,b,c,d,e]:=by
 match ds,h with
 | [a,b,c,d,e],_=>exact⟨a,b,c,d,e,rfl⟩
 | [],h=>simp at h
 | [_],h=>simp at h
 | [_,_],h=>simp at h
 | [_,_,_],h=>simp at h
 | [_,_,_,_],h=>simp at h
 | _::_::_::_::_::_::r,h=>simp only [J9] at h; omega
theorem AL {ds:List D} (h:¬ (ds.length:Int)=2):cx (.tup ds)=false:=by
 match ds,h with
 | [],_=>rfl
 | [x],_=>cases x <;> rfl
 | [_,_],h=>exact absurd rfl h
 | x::y::_::r,_=>cases x <;> first | rfl | (cases y <;> rfl)
theorem B4 {a b:Int}:cx (.tup [.int a,.int b])=(decide (1<=b) && decide (((Int.gcd a b:Nat):Int)=1)):=rfl
theorem y3 {d:D} (n:∀ ds,d≠.tup ds):cx d=false:=by
 cases d with
 | tup ds=>exact absurd rfl (n ds)
 | _=>rfl
theorem Bo {x y:D} (h:pV x=false):cx (.tup [x,y])=false:=by
 cases x with
 | int i=>cases h
 | _=>rfl
theorem Cu {x y:D} (h:pV y=false):cx (.tup [x,y])=false:=by
 cases x with
 | int i=>
  cases y with
  | int j=>cases h
  | _=>rfl
 | _=>rfl
theorem BZ {d:D} (h:cx d=true):∃ a b,d=.tup [.int a,.int b]:=by
 unfold cx at h
 split at h
 ·exact⟨_,_,rfl⟩
 ·cases h
theorem u_ {d:D} (h:cx d=false):en d=false:=by
 unfold en
 split
 ·rw [h]; rfl
 ·rfl
theorem Cp {r:List D} (h:¬ (r.length:Int)=2):B5 r=false:=by
 match r,h with
 | [],_=>rfl
 | [_],_=>rfl
 | [_,_],h=>exact absurd rfl h
 | _::_::_::_,_=>rfl
theorem xy {as r:List D} (h:¬ (r.length:Int)=2):sE as r=false:=by
 match r,h with
 | [],_=>rfl
 | [_],_=>rfl
 | [_,_],h=>exact absurd rfl h
 | _::_::_::_,_=>rfl
theorem AQ {n:Nat} {r:List D} (h:¬ (r.length:Int)=4):wO n r=false:=by
 match r,h with
 | [],_=>rfl
 | [_],_=>rfl
 | [_,_],_=>rfl
 | [_,_,_],_=>rfl
 | [_,_,_,_],h=>exact absurd rfl h
 | _::_::_::_::_::_,_=>rfl
theorem yG {n:Nat} {r:List D} (h:¬ (r.length:Int)=5):w5 n r=false:=by
 match r,h with
 | [],_=>rfl
 | [_],_=>rfl
 | [_,_],_=>rfl
 | [_,_,_],_=>rfl
 | [_,_,_,_],_=>rfl
 | [_,_,_,_,_],h=>exact absurd rfl h
 | _::_::_::_::_::_::_,_=>rfl
def eG:bE:=λds S k=>∃ d,ds=[d]/\yo S d/\k (.bl (pV d)) S
theorem sD:ao ["thing"] ["thing"] (aj nV):=cG
theorem sY (Fn:FN K "is_whole" nV f fd) (aw:mg "isinstance"=none) (nE:mg "bool"=none) (eI:mg "int"=none):
  aQ P w K mg base b8 1 f fd ["thing"] (ca K eG):=by
 refine Fn.okJ sD (λds S k h=>?_) (λcdv A outer s H E hr=>⟨_,(ah (ai (dW (aA eP rfl aw aU (aH 0 (aa (ic (n:=.int) rfl eI lb) ac))) (dR (Ar (aA eP rfl aw aU (aH 0 (aa (ic (n:=.bool) rfl nE wq) ac)))))))),λds S k h=>?_⟩)
 ·obtain⟨_,rfl,_⟩:=h
  rfl
 ·obtain⟨d,rfl,⟨t,ht⟩,q⟩:=h;rw [AM ht] at q;refine⟨t,ht,?_⟩;cases t <;> first | exact q | exact⟨_,ht,q⟩
def dF:bE:=λds S k=>∃ d,ds=[d]/\yo S d/\(∀ ds,d=.tup ds->∀ x∈ds,yo S x)/\k (.bl (cx d)) S
theorem ou:ao ["thing"] ["thing"] (aj jI):=cG
theorem om (Fn:FN K "is_fraction" jI f fd) (bg:bf P w K mg base "is_whole" 1 eG) (aZ:bf P w K mg base "common_divisor" 1 bM) (aM:mg "len"=none) (aw:mg "isinstance"=none) (aK:mg "tuple"=none):
  aQ P w K mg base b8 2 f fd ["thing"] (ca K dF):=by
 refine Fn.okJ ou (λds S k h=>?_) (λcdv A outer s H E hr=>⟨_,(ag (ay (WJ.pt (ce (aY (aL (aA eP rfl aw aU (aH 0 (aa (ic (n:=.tup) rfl aK cw) ac))))) (bI (au kN (aA cM rfl aM bJ (aH 0 ac)) ae (ar _))))) (ah (ai cr)) az) (ag (ay (WJ.pt (ce (aY (aL (dq bg hr (aa (dz 0) ac)))) (bI (aY (aL (dq bg hr (aa (dz 0) ac))))))) (ah (ai cr)) az) (ah (ai (dW (b_ yM (dz 0) ae (ar _)) (dR (b_ dX (dq aZ hr (aa (dz 0) (aa (dz 0) ac))) ae (ar _)))))))),λds S k h=>?_⟩)
 ·obtain⟨_,rfl,_⟩:=h
  rfl
 ·obtain⟨d,rfl,⟨t,ht⟩,ha,q⟩:=h;refine⟨t,ht,?_⟩;rcases vj d with ⟨ds,rfl⟩ | n
  ·cases ht;refine hZ (λhl=>?_) (λhl=>?_)
   ·rw [AL hl] at q;exact q
   ·obtain⟨x,y,rfl⟩:=E6 hl;refine⟨x,rfl,ha _ rfl x (by simp),iy (λh1=>?_) (λh1=>⟨y,rfl,ha _ rfl y (by simp),iy (λh2=>?_) (λh2=>?_)⟩)⟩
    ·rw [Bo h1] at q;exact q
    ·rw [Cu h2] at q;exact q
    ·obtain⟨a,rfl⟩:=kc h1;obtain⟨b,rfl⟩:=kc h2;rw [B4] at q;refine aF (λh3=>?_) (λh3=>?_)
     ·rw [decide_eq_true h3,Bool.true_and] at q;exact q
     ·rw [Ky h3,Bool.false_and] at q;exact q
  ·rw [sK ht n];rw [y3 n] at q;exact q
def dQ:bE:=λds S k=>∃ d,ds=[d]/\yo S d/\(∀ ds,d=.tup ds->∀ x∈ds,yo S x)/\k (.bl (en d)) S
theorem kK:ao ["thing"] ["thing"] (aj dU):=cG
theorem kJ (Fn:FN K "is_above_nought" dU f fd) (aX:bf P w K mg base "is_fraction" 2 dF):
  aQ P w K mg base b8 3 f fd ["thing"] (ca K dQ):=by
 refine Fn.okJ kK (λds S k h=>?_) (λcdv A outer s H E hr=>⟨_,(ah (ai (dW (dq aX hr (aH 0 ac)) (dR (b_ tZ (dz 0) ae (ar _)))))),λds S k h=>?_⟩)
 ·obtain⟨_,rfl,_⟩:=h
  rfl
 ·obtain⟨d,rfl,ht,ha,q⟩:=h;refine⟨d,rfl,ht,ha,cz (λh=>?_) (λh=>?_)⟩
  ·obtain⟨a,b,rfl⟩:=BZ h;have q:k (.bl (cx (.tup [.int a,.int b]) && decide (0 < a))) S:=q;rw [h,Bool.true_and] at q;exact q
  ·rw [u_ h] at q;exact q
def kY:bE:=λds S k=>∃ (d:D) (n:Nat),ds=[d,.int (n:Nat)]/\yo S d/\k (.bl (bZ n d)) S
theorem tO:ao ["thing","many"] ["thing","many"] (aj k_):=cG
theorem uh (Fn:FN K "is_joint" k_ f fd) (bg:bf P w K mg base "is_whole" 1 eG):
  aQ P w K mg base b8 2 f fd ["thing","many"] (ca K kY):=by
 refine Fn.okJ tO (λds S k h=>?_) (λcdv A outer s H E hr=>⟨_,(ah (ai (dW (dq bg hr (aH 0 ac)) (dR (uE zf tR ae (af 0) (af 1)))))),λds S k h=>?_⟩)
 ·obtain⟨_,_,rfl,_⟩:=h
  rfl
 ·obtain⟨d,n,rfl,ht,q⟩:=h;refine⟨d,rfl,ht,cz (λh=>?_) (λh=>?_)⟩
  ·obtain⟨i,rfl⟩:=kc h;have q:k (.bl (decide (0<=i) && decide (i < (n:Int)))) S:=q;refine aF (λh0=>?_) (λh0=>?_)
   ·rw [decide_eq_true h0,Bool.true_and] at q;exact q
   ·rw [Ky h0,Bool.false_and] at q;exact q
  ·have e:bZ n d=false:=by cases d <;> first | rfl | cases h
   rw [e] at q;exact q
theorem mI {n:Nat} {d:D} (h:bZ n d=true):∃ i:Nat,d=.int (i:Nat)/\i < n:=by
 cases d with
 | int i=>
  have h:(decide (0<=i) && decide (i < (n:Int)))=true:=h;rw [Ko] at h;obtain⟨j,rfl⟩:=Int.eq_ofNat_of_zero_le (of_decide_eq_true h.1);exact⟨j,rfl,by have:=of_decide_eq_true h.2; omega⟩
 | _=>cases h
def cT:bE:=λds S k=>∃ (d e:D) (n:Nat),ds=[d,e,.int (n:Nat)]/\yo S d/\yo S e/\k (.bl (bZ n d && bZ n e && uK d e)) S
theorem jZ:ao ["one","other","many"] ["one","other","many"] (aj cU):=cG
theorem jQ (Fn:FN K "are_unlike_joints" cU f fd) (df:bf P w K mg base "is_joint" 2 kY):
  aQ P w K mg base b8 3 f fd ["one","other","many"] (ca K cT):=by
 refine Fn.okJ jZ (λds S k h=>?_) (λcdv A outer s H E hr=>⟨_,(ah (ai (dW (dq df hr (aH 0 (aH 2 ac))) (dW (dq df hr (aH 1 (aH 2 ac))) (dR (b_ kN (af 0) (af 1) (ar _))))))),λds S k h=>?_⟩)
 ·obtain⟨_,_,_,rfl,_⟩:=h
  rfl
 ·obtain⟨d,e,n,rfl,hd,he,q⟩:=h;refine⟨d,n,rfl,hd,cz (λh1=>⟨e,n,rfl,he,cz (λh2=>?_) (λh2=>?_)⟩) (λh1=>?_)⟩
  ·rw [h1,h2] at q;obtain⟨i,rfl,_⟩:=mI h1;obtain⟨j,rfl,_⟩:=mI h2;exact q
  ·rw [h1,h2] at q;exact q
  ·rw [h1] at q;exact q
def oO (x:D):Prop:=∃ (w:Str) (r:List D),x=.tup (.str w::r)
def ud:bE:=λds S k=>∃ (w:D) (r:List D),ds=[.tup (w::r)]/\(∀ x∈w::r,El S x)/\k (.bl (B5 r)) S
theorem xU:ao ["step"] ["step"] (aj oQ):=cG
theorem x6 (Fn:FN K "is_fix" oQ f fd) (aX:bf P w K mg base "is_fraction" 2 dF) (aM:mg "len"=none):
  aQ P w K mg base b8 3 f fd ["step"] (ca K ud):=by
 refine Fn.okJ xU (λds S k h=>?_) (λcdv A outer s H E hr=>⟨_,(ah (ai (dW (b_ dX (aA cM rfl aM bJ (aH 0 ac)) ae (ar _)) (dW (dq aX hr (aa (dz 0) ac)) (dR (dq aX hr (aa (dz 0) ac))))))),λds S k h=>?_⟩)
 ·obtain⟨_,_,rfl,_⟩:=h
  rfl
 ·obtain⟨w,r,rfl,hE,q⟩:=h;refine aF (λhl=>?_) (λhl=>?_)
  ·obtain⟨x,y,rfl⟩:=E6 (ds:=r) (by simp only [J9] at hl; omega)
   have hx:=hE x (by simp)
   have hy:=hE y (by simp)
   have q:k (.bl (cx x && cx y)) S:=q;refine⟨x,rfl,hx.1,hx.2.1,cz (λh=>⟨y,rfl,hy.1,hy.2.1,?_⟩) (λh=>?_)⟩
   ·rw [h] at q; exact q
   ·rw [h] at q; exact q
  ·rw [Cp (by simp only [J9] at hl; omega)] at q
   exact q
set_option maxHeartbeats 4000000
theorem FE (w:D):(∃ u,w=.str u)\/∀ u,w≠.str u:=by
 cases w with
 | str u=>exact .inl ⟨u,rfl⟩
 | _=>exact .inr λu h=>by cases h
theorem yP {as r:List D} {w:D} (n:∀ u,w≠.str u):lQ as (.tup (w::r))=false:=by
 cases w with
 | str u=>exact absurd rfl (n u)
 | _=>rfl
theorem yv {as:List D} {i:Nat} {u:Str} {rr:List D} (hi:i < as.length) (e:as[i]=.tup (.str u::rr)):oY as (.int (i:Nat))=(u == "fix"):=by
 show(match as[((i:Nat):Int).toNat]? with | some x=>vi x | none=>false)=_
 rw [KE,Kg hi,e]
 rfl
def oV:bE:=λds S k=>∃ (w:D) (r as:List D),ds=[.tup (w::r),.tup as]/\(∀ x∈w::r,El S x)/\(∀ x∈as,oO x)/\k (.bl (sE as r)) S
theorem t7:ao ["step","ahead"] ["step","ahead"] (aj k9):=cG
theorem t_ (Fn:FN K "is_crank" k9 f fd) (df:bf P w K mg base "is_joint" 2 kY) (bj:bf P w K mg base "is_above_nought" 3 dQ) (aM:mg "len"=none):
  aQ P w K mg base b8 4 f fd ["step","ahead"] (ca K oV):=by
 refine Fn.okJ t7 (λds S k h=>?_) (λcdv A outer s H E hr=>⟨_,(ag (ay (WJ.pt (ce (au kN (aA cM rfl aM bJ (aH 0 ac)) ae (ar _)) (bI (aY (aL (dq df hr (aa (aD cy (af 0) ae Zf) (aa (aA cM rfl aM bJ (aH 1 ac)) ac)))))))) (ah (ai cr)) az) (ah (ai (dW (b_ (tX hr) (aD cy (aD cy (af 1) (aD cy (af 0) ae Zf) Zf) ae Zf) aG (ar _)) (dR (dq bj hr (aa (aD cy (af 0) ae Zf) ac))))))),λds S k h=>?_⟩)
 ·obtain⟨_,_,_,rfl,_⟩:=h
  rfl
 ·obtain⟨w,r,as,rfl,hE,hR,q⟩:=h;refine hZ (λhl=>wa ?_) (λhl=>?_)
  ·rw [xy (by simp only [J9] at hl; omega)] at q
   exact q
  ·obtain⟨c,l,rfl⟩:=E6 (ds:=r) (by simp only [J9] at hl; omega)
   have hc:=hE c (by simp)
   have hll:=hE l (by simp)
   have q:k (.bl (bZ as.length c && (oY as c && en l))) S:=q;refine⟨c,rfl,c,as.length,rfl,hc.1,iy (λh=>?_) (λh=>?_)⟩
   ·rw [h,Bool.false_and] at q;exact q
   ·rw [h,Bool.true_and] at q;obtain⟨i,rfl,hi⟩:=mI h;obtain⟨u,rr,e⟩:=hR _ (List.getElem_mem hi);rw [yv hi e] at q;refine⟨_,rfl,.tup (.str u::rr),L2.fk (by rw [Kg hi,e]),.str u,bq,cz (λh2=>⟨l,rfl,l,rfl,hll.1,hll.2.1,?_⟩) (λh2=>?_)⟩
    ·rw [h2,Bool.true_and] at q; exact q
    ·rw [h2,Bool.false_and] at q; exact q
def qW:bE:=λds S k=>∃ (w:D) (r as:List D),ds=[.tup (w::r),.tup as]/\(∀ x∈w::r,El S x)/\k (.bl (w5 as.length r)) S
theorem vq:ao ["step","ahead"] ["step","ahead"] (aj mT):=cG
theorem va (Fn:FN K "is_pair" mT f fd) (bp:bf P w K mg base "are_unlike_joints" 3 cT) (bj:bf P w K mg base "is_above_nought" 3 dQ) (bg:bf P w K mg base "is_whole" 1 eG) (aM:mg "len"=none):
  aQ P w K mg base b8 4 f fd ["step","ahead"] (ca K qW):=by
 refine Fn.okJ vq (λds S k h=>?_) (λcdv A outer s H E hr=>⟨_,(ag (ay (WJ.pt (ce (au kN (aA cM rfl aM bJ (aH 0 ac)) ae (ar _)) (bI (aY (aL (dq bp hr (aa (aD cy (af 0) ae Zf) (aa (aD cy (af 0) ae Zf) (aa (aA cM rfl aM bJ (aH 1 ac)) ac))))))))) (ah (ai cr)) az) (ag (ay (WJ.pt (ce (aY (aL (dq bj hr (aa (aD cy (af 0) ae Zf) ac)))) (bI (aY (aL (dq bj hr (aa (aD cy (af 0) ae Zf) ac))))))) (ah (ai cr)) az) (ah (ai (dW (dq bg hr (aa (aD cy (af 0) ae Zf) ac)) (dR (uE zf zf ae (aD cy (af 0) ae Zf) ae))))))),λds S k h=>?_⟩)
 ·obtain⟨_,_,_,rfl,_⟩:=h
  rfl
 ·obtain⟨w,r,as,rfl,hE,q⟩:=h;refine hZ (λhl=>wa ?_) (λhl=>?_)
  ·rw [yG (by simp only [J9] at hl; omega)] at q
   exact q
  ·obtain⟨i,j,s',t,v,rfl⟩:=F8 (ds:=r) (by simp only [J9] at hl; omega)
   have hi:=hE i (by simp)
   have hj:=hE j (by simp)
   have hs:=hE s' (by simp)
   have ht:=hE t (by simp)
   have hv:=hE v (by simp)
   have q:k (.bl ((bZ as.length i && bZ as.length j && uK i j) && (en s' && en t && xw v))) S:=q;refine⟨i,rfl,j,rfl,i,j,as.length,rfl,hi.1,hj.1,iy (λh=>?_) (λh=>?_)⟩
   ·rw [h,Bool.false_and] at q;exact q
   rw [h,Bool.true_and] at q;refine⟨s',rfl,s',rfl,hs.1,hs.2.1,iy (λh1=>wa ?_) (λh1=>⟨t,rfl,t,rfl,ht.1,ht.2.1,iy (λh2=>?_) (λh2=>?_)⟩)⟩
   ·rw [h1] at q; exact q
   ·rw [h1,h2] at q; exact q
   ·rw [h1,h2] at q;refine⟨v,rfl,v,rfl,hv.1,cz (λh3=>?_) (λh3=>?_)⟩
    ·obtain⟨n,rfl⟩:=kc h3;have q:k (.bl (decide (0<=n) && decide (n<=1))) S:=q;refine⟨_,rfl,aF (λh0=>?_) (λh0=>?_)⟩
     ·rw [decide_eq_true h0,Bool.true_and] at q;exact q
     ·rw [Ky h0,Bool.false_and] at q;exact q
    ·have e:xw v=false:=by cases v <;> first | rfl | cases h3
     rw [e] at q;exact q
def rz:bE:=λds S k=>∃ (w:D) (r as:List D),ds=[.tup (w::r),.tup as]/\(∀ x∈w::r,El S x)/\k (.bl (wO as.length r)) S
theorem vD:ao ["step","ahead"] ["step","ahead"] (aj ny):=cG
theorem v5 (Fn:FN K "is_like" ny f fd) (bp:bf P w K mg base "are_unlike_joints" 3 cT) (aX:bf P w K mg base "is_fraction" 2 dF) (aM:mg "len"=none):
  aQ P w K mg base b8 4 f fd ["step","ahead"] (ca K rz):=by
 refine Fn.okJ vD (λds S k h=>?_) (λcdv A outer s H E hr=>⟨_,(ag (ay (WJ.pt (ce (au kN (aA cM rfl aM bJ (aH 0 ac)) ae (ar _)) (bI (aY (aL (dq bp hr (aa (aD cy (af 0) ae Zf) (aa (aD cy (af 0) ae Zf) (aa (aA cM rfl aM bJ (aH 1 ac)) ac))))))))) (ah (ai cr)) az) (ah (ai (dW (dq aX hr (aa (aD cy (af 0) ae Zf) ac)) (dR (dq aX hr (aa (aD cy (af 0) ae Zf) ac))))))),λds S k h=>?_⟩)
 ·obtain⟨_,_,_,rfl,_⟩:=h
  rfl
 ·obtain⟨w,r,as,rfl,hE,q⟩:=h;refine hZ (λhl=>wa ?_) (λhl=>?_)
  ·rw [AQ (by simp only [J9] at hl; omega)] at q
   exact q
  ·obtain⟨_,i,j,s',t,e⟩:=F8 hl;cases e;have hi:=hE i (by simp)
   have hj:=hE j (by simp)
   have hs:=hE s' (by simp)
   have ht:=hE t (by simp)
   have q:k (.bl ((bZ as.length i && bZ as.length j && uK i j) && (cx s' && cx t))) S:=q;refine⟨i,rfl,j,rfl,i,j,as.length,rfl,hi.1,hj.1,iy (λh=>?_) (λh=>?_)⟩
   ·rw [h,Bool.false_and] at q;exact q
   rw [h,Bool.true_and] at q;refine⟨s',rfl,s',rfl,hs.1,hs.2.1,cz (λh1=>⟨t,rfl,t,rfl,ht.1,ht.2.1,?_⟩) (λh1=>?_)⟩
   ·rw [h1] at q; exact q
   ·rw [h1] at q; exact q
def rK:bE:=λds S k=>∃ (d:D) (as:List D),ds=[d,.tup as]/\St S d/\(∀ x∈as,oO x)/\k (.bl (lQ as d)) S
theorem we:ao ["step","ahead"] ["step","ahead"] (aj mw):=cG
theorem vA (Fn:FN K "is_step" mw f fd) (oT:bf P w K mg base "is_fix" 3 ud) (lh:bf P w K mg base "is_crank" 4 oV) (nh:bf P w K mg base "is_pair" 4 qW) (mC:bf P w K mg base "is_like" 4 rz) (aM:mg "len"=none) (aw:mg "isinstance"=none) (aK:mg "tuple"=none):
  aQ P w K mg base b8 5 f fd ["step","ahead"] (ca K rK):=by
 refine Fn.okJ we (λds S k h=>?_) (λcdv A outer s H E hr=>⟨_,(ag (ay (WJ.pt (ce (aY (aL (aA eP rfl aw aU (aH 0 (aa (ic (n:=.tup) rfl aK cw) ac))))) (bI (au dX (aA cM rfl aM bJ (aH 0 ac)) ae (ar _))))) (ah (ai cr)) az) (ag (ay (au (tX hr) (aD cy (af 0) ae Zf) aG (ar _)) (ah (ai (dq oT hr (aH 0 ac)))) az) (ag (ay (au (tX hr) (aD cy (af 0) ae Zf) aG (ar _)) (ah (ai (dq lh hr (aH 0 (aH 1 ac))))) az) (ag (ay (au (tX hr) (aD cy (af 0) ae Zf) aG (ar _)) (ah (ai (dq nh hr (aH 0 (aH 1 ac))))) az) (ah (ai (dW (b_ (tX hr) (aD cy (af 0) ae Zf) aG (ar _)) (dR (dq mC hr (aH 0 (aH 1 ac))))))))))),λds S k h=>?_⟩)
 ·obtain⟨_,_,rfl,_⟩:=h
  rfl
 ·obtain⟨d,as,rfl,⟨⟨t,ht⟩,hE⟩,hR,q⟩:=h;refine⟨t,ht,?_⟩;rcases vj d with ⟨ds,rfl⟩ | n
  ·cases ht;have hE:=hE _ rfl;cases ds with
   | nil=>exact q
   | cons w r=>
    have hw:=hE w J4;rcases FE w with ⟨u,rfl⟩ | nu
    ·have q:k (.bl (if (u == "fix")=true then B5 r else if (u == "crank")=true then sE as r else if (u == "pair")=true then w5 as.length r else(u == "like") && wO as.length r)) S:=q
     refine⟨_,bq,cz (λh1=>?_) (λh1=>⟨_,bq,cz (λh2=>?_) (λh2=>⟨_,bq,cz (λh3=>?_) (λh3=>⟨_,bq,cz (λh4=>?_) (λh4=>?_)⟩)⟩)⟩)⟩
     ·rw [if_pos h1] at q;exact⟨_,r,rfl,hE,q⟩
     ·rw [if_neg (by rw [h1]; exact J0),if_pos h2] at q
      exact⟨_,r,as,rfl,hE,hR,q⟩
     ·rw [if_neg (by rw [h1]; exact J0),if_neg (by rw [h2]; exact J0),if_pos h3] at q
      exact⟨_,r,as,rfl,hE,q⟩
     ·rw [if_neg (by rw [h1]; exact J0),if_neg (by rw [h2]; exact J0),if_neg (by rw [h3]; exact J0),h4,Bool.true_and] at q
      exact⟨_,r,as,rfl,hE,q⟩
     ·rw [if_neg (by rw [h1]; exact J0),if_neg (by rw [h2]; exact J0),if_neg (by rw [h3]; exact J0),h4,Bool.false_and] at q
      exact q
    ·rw [yP nu] at q;obtain⟨⟨t,ht⟩,_,hr'⟩:=hw;cases w with
     | str u=>exact absurd rfl (nu u)
     | ref a=>exact⟨_,bq,hr' a rfl,_,bq,hr' a rfl,_,bq,hr' a rfl,_,bq,hr' a rfl,q⟩
     | rl ds=>cases ht
     | ty c=>cases ht
     | _=>exact⟨_,bq,_,bq,_,bq,_,bq,q⟩
  ·rw [sK ht n];have e:lQ as d=false:=by
    cases d with
    | tup ds=>exact absurd rfl (n ds)
    | _=>rfl
   rw [e] at q;exact q
theorem v9 {as:List D} {d:D} (h:lQ as d=true):oO d:=by
 unfold lQ at h
 split at h
 ·exact⟨_,_,rfl⟩
 ·cases h
theorem uY {ms r:List D} {s:D} {j:Nat} (h:ms.drop j=s::r):ms[j]?=some s/\ms.drop (j+1)=r:=by
 have h0:(ms.drop j)[0]?=some s:=by rw [h]; rfl
 rw [List.getElem?_drop,Nat.add_zero] at h0;refine⟨h0,?_⟩;have h1:=congrArg (List.drop 1) h;rw [List.drop_drop] at h1;exact h1
theorem Do {ds:List D} {j:Nat} (h:j<=ds.length):DL.jt ds none (some (j:Nat))=ds.take j:=by
 unfold DL.jt;have h1:HT.cI ds.length 0 none=0:=rfl;have h2:HT.cI ds.length ds.length (some ((j:Nat):Int))=j:=by unfold HT.cI; simp; rw [if_neg (by omega),Nat.min_eq_left h]
 rw [h1,h2];simp
theorem uS {ds:List D} {j:Nat} {s:D} (h:∀ x∈ds.take j,oO x) (g:ds[j]?=some s) (hs:oO s):∀ x∈ds.take (j+1),oO x:=λx hx=>by
 obtain⟨hj,e⟩:=Kl.mp g;rw [List.take_succ_eq_append_getElem hj] at hx;rcases List.mem_append.mp hx with h1 | h1
 ·exact h x h1
 ·simp only [J2,Ka,or_false] at h1;rw [h1,e]; exact hs
def lW:bE:=λds S k=>∃ d:D,ds=[d]/\Th S d/\k (.bl (xf d)) S
theorem gU:ao ["thing","number","step"] ["thing"] (aj iH):=cG
theorem qw (Fn:FN K "is_machine" iH f fd) (mJ:bf P w K mg base "is_step" 5 rK) (aM:mg "len"=none) (aw:mg "isinstance"=none) (aK:mg "tuple"=none) (du:mg "enumerate"=none) (jj:vd mg "MOST_STEPS" 7):
  aQ P w K mg base b8 6 f fd ["thing"] (ca K lW):=by
 refine Fn.okJ gU (λds S k h=>?_) (λcdv A outer s H E hr=>⟨_,(ag (ay (WJ.pt (ce (aY (aL (aA eP rfl aw aU (aH 0 (aa (ic (n:=.tup) rfl aK cw) ac))))) (bI (aY (xJ zf zf ae (aA cM rfl aM bJ (aH 0 ac)) (pO jj rfl)))))) (ah (ai cr)) az) (ag (vF PassesOwn.never rfl rfl du (aH 0 ac) (r_ (n:=2) rfl (fz (aO (i:=1) gU.nd) (fz (aO (i:=2) gU.nd) pj))) (ah (ay (aY (aL (dq mJ hr (aH 2 (aa (wC (af 0) eL (c7 (af 1))) ac))))) (ah (ai cr)) az))) (ah (ai cr)))),λds S k h=>?_⟩)
 ·obtain⟨_,rfl,_⟩:=h
  rfl
 ·obtain⟨d,rfl,⟨⟨t,ht⟩,hE⟩,q⟩:=h;refine⟨t,ht,?_⟩;rcases vj d with ⟨ds,rfl⟩ | n
  ·cases ht;have hE:=hE _ rfl;have q:k (.bl (decide (1<=(ds.length:Int)) && decide ((ds.length:Int)<=7) && c8 ds 0 ds)) S:=q;refine aF (λh1=>?_) (λh1=>?_)
   ·rw [decide_eq_true h1,Bool.true_and] at q;refine hZ (λh2=>?_) (λh2=>?_)
    ·rw [Ky h2,Bool.false_and] at q;exact q
    ·rw [decide_eq_true h2,Bool.true_and] at q;refine⟨(ds,none),rfl,?_⟩;refine fo (λr L S'=>∃ (j:Nat) (rs:List D) (l1 l2:KO D),L=[some (.tup ds),l1,l2]/\S'=S/\r=jH j rs/\ds.drop j=rs/\(∀ x∈ds.take j,oO x)/\c8 ds 0 ds=c8 ds j rs) (λ_ _ _ _=>trivial) ?_ ?_ _ _ _ ⟨0,ds,none,none,rfl,rfl,rfl,rfl,(λ_ z=>by cases z),rfl⟩
     ·rintro d r L S1 N1 ⟨j,rs,l1,l2,rfl,rfl,er,hd,hR,hm⟩ hN;cases rs with
      | nil=>cases er
      | cons s rs=>
       cases er;obtain⟨g0,g1⟩:=uY hd;have hj:j < ds.length:=(Kl.mp g0).1;have hm:c8 ds 0 ds=(lQ (ds.take j) s && c8 ds (j+1) rs):=hm;refine⟨(_,none),rfl,rfl,rfl,?_⟩;refine⟨s,ds.take j,congrArg (λl=>[s,D.tup l]) (Do (Nat.le_of_lt hj)),hE s (List.mem_of_getElem? g0),hR,iy (λh=>?_) (λh=>?_)⟩
       ·rw [hm,h,Bool.false_and] at q;exact q
       ·rw [h,Bool.true_and] at hm;exact hN _ _ ⟨j+1,rs,_,_,rfl,rfl,rfl,g1,uS hR g0 (v9 h),hm⟩
     ·rintro L S1 ⟨j,rs,l1,l2,rfl,rfl,er,hd,hR,hm⟩;cases rs with
      | cons s rs=>cases er
      | nil=>
       rw [hm] at q;exact q
   ·rw [Ky h1,Bool.false_and,Bool.false_and] at q;exact q
  ·rw [sK ht n];have e:xf d=false:=by
    cases d with
    | tup ds=>exact absurd rfl (n ds)
    | _=>rfl
   rw [e] at q;exact q
set_option maxHeartbeats 4000000
abbrev bT (x:Str):List Nat:=x.cps.toList
abbrev tx (l:List Nat):Str:=⟨l.toArray⟩
theorem jJ (x:Str):tx (bT x)=x:=by cases x; simp [tx,bT]
theorem fj {x y:Str} (h:bT x=bT y):x=y:=by rw [<- jJ x,<- jJ y,h]
theorem bF (x:Str):(bT x).length=x.length:=by simp [bT,Str.length]
theorem cD (x y:Str):bT (x++y)=bT x++bT y:=by
 show(x.cps++y.cps).toList=_
 simp
theorem rN (s:KZ):bT (Str.ofString s)=s.toList.map Char.toNat:=signs_ofString s
theorem yE {x y:Str} {k:Nat}:StrLaws.At x y x.length k↔((bT x).drop k).take y.length=bT y/\k+y.length<=x.length:=by
 unfold StrLaws.At;rw [StrLaws.subAt_eq,beq_iff_eq,and_comm]
theorem pz {x y:Str} {n:Nat}:∀ {a:Nat} {c1 c2:List Nat} {f1 f2:Nat},StrLaws.ChainG x y n a c1 f1->StrLaws.ChainG x y n a c2 f2->(∀ k,f1<=k->¬ StrLaws.At x y n k)->(∀ k,f2<=k->¬ StrLaws.At x y n k)->c1=c2
 | a,[],[],_,_,_,_,_,_=>rfl
 | a,[],c::r,f1,f2,h1,h2,e1,_=>by
  have h1:f1=a:=h1;subst h1;exact absurd h2.2.1 (e1 c h2.1)
 | a,c::r,[],f1,f2,h1,h2,_,e2=>by
  have h2:f2=a:=h2;subst h2;exact absurd h1.2.1 (e2 c h1.1)
 | a,c::r,c'::r',f1,f2,h1,h2,e1,e2=>by
  obtain⟨a1,a2,a3,a4⟩:=h1;obtain⟨b1,b2,b3,b4⟩:=h2;have e:c=c':=by
   rcases Nat.lt_trichotomy c c' with l | l | l
   ·exact absurd a2 (b3 c a1 l)
   ·exact l
   ·exact absurd b2 (a3 c' b1 l)
  subst e;rw [pz a4 b4 e1 e2]
structure FL (y:Str) (o m:Nat):Prop where
 at_:(bT y)[o]?=some m
 one:∀ i,i≠o->(bT y)[i]?≠some m
def jn (y:List Nat):List (List Nat)->List Nat
 | []=>[]
 | [r]=>r
 | r::r'::rs=>r++y++jn y (r'::rs)
theorem j6 (y:Str):∀ ws:List Str,bT (Str.join y ws)=jn (bT y) (ws.map bT)
 | []=>rfl
 | [w]=>rfl
 | w::w'::ws=>by
  show bT (w++y++Str.join y (w'::ws))=_
  rw [cD,cD,j6 y (w'::ws)]
  rfl
theorem c6 (y:Str) (ws:List Str):Txt.join y ws=Str.join y ws:=StrLaws.glued_eq_join y ws
theorem sw {x:Str} {a b:Nat} {r:List Nat} (h:((bT x).drop a).take (b - a)=r):Builtin.Str.strSub x a b=tx r:=fj (by rw [<- h]; exact StrLaws.strSub_toList x a b)
theorem FZ {x y:Str} {o m k:Nat} (sp:FL y o m) (h:StrLaws.At x y x.length k):(bT x)[k+o]?=some m:=by
 obtain⟨h1,h2⟩:=yE.mp h;have ho:o < y.length:=by
  obtain⟨z,_⟩:=Kl.mp sp.at_;rw [bF] at z;exact z
 have:=sp.at_;rw [<- h1,List.getElem?_take,if_pos ho,List.getElem?_drop] at this;exact this
theorem wM {x y:Str} {o m:Nat} (sp:FL y o m):∀ (rs:List (List Nat)) (r:List Nat) (a:Nat),(∀ q∈r::rs,m∉q)->(bT x).drop a=jn (bT y) (r::rs)->∃ cuts f,StrLaws.ChainG x y x.length a cuts f/\(∀ k,f<=k->¬ StrLaws.At x y x.length k)/\StrLaws.partsFrom x y.length a cuts=(r::rs).map tx
 | [],r,a,fr,e=>by
  have e:(bT x).drop a=r:=e;refine⟨[],a,rfl,λk hk h=>?_,?_⟩
  ·have:=FZ sp h;have z:r[k+o - a]?=some m:=by
    rw [<- e,List.getElem?_drop,<- this]
    congr 1
    omega
   exact fr r J4 (List.mem_of_getElem? z)
  ·show [Builtin.Str.strSub x a x.length]=_
   rw [sw (r:=r)]
   ·rfl
   ·rw [e,List.take_of_length_le];rw [<- e,List.length_drop,bF];omega
 | r'::rs,r,a,fr,e=>by
  have e:(bT x).drop a=r++bT y++jn (bT y) (r'::rs):=e;have ho:o < y.length:=by
   obtain⟨z,_⟩:=Kl.mp sp.at_;rw [bF] at z;exact z
  have la:a+r.length+y.length<=x.length:=by
   have:=congrArg List.length e;rw [List.length_drop,bF,Kc,Kc,bF] at this;omega
  have e2:(bT x).drop (a+r.length)=bT y++jn (bT y) (r'::rs):=by
   rw [<- List.drop_drop,e,List.append_assoc,List.drop_left]
  have e3:(bT x).drop (a+r.length+y.length)=jn (bT y) (r'::rs):=by
   rw [<- List.drop_drop,e2,<- bF y,List.drop_left]
  obtain⟨cuts,f,c1,c2,c3⟩:=wM sp rs r' (a+r.length+y.length) (λq hq=>fr q (J5 _ hq)) e3
  refine⟨(a+r.length)::cuts,f,⟨by omega,yE.mpr ⟨by rw [e2,<- bF y,List.take_left],by omega⟩,λk k1 k2 h=>?_,c1⟩,c2,?_⟩
  ·have:=FZ sp h;have z:(r++bT y++jn (bT y) (r'::rs))[k+o - a]?=some m:=by
    rw [<- e,List.getElem?_drop,<- this]
    congr 1
    omega
   rw [List.append_assoc] at z
   by_cases l:k+o - a < r.length
   ·rw [List.getElem?_append_left l] at z;exact fr r J4 (List.mem_of_getElem? z)
   ·rw [List.getElem?_append_right (by omega),List.getElem?_append_left (by rw [bF]; omega)] at z
    exact sp.one _ (by omega) z
  ·show Builtin.Str.strSub x a (a+r.length)::StrLaws.partsFrom x y.length (a+r.length+y.length) cuts=_
   rw [c3,sw (r:=r)]
   ·rfl
   ·rw [e,List.append_assoc,show a+r.length - a=r.length by omega,List.take_left]
theorem u8 {x y:Str} {o m:Nat} (sp:FL y o m) {ws:List Str} (ne:ws≠[]) (fr:∀ w∈ws,m∉bT w) (e:x=Str.join y ws):Txt.split x y=ws/\Builtin.Str.partsBetween x (Builtin.Str.occurrences x y 0 x.length (x.length+1)) y.length=ws:=by
 obtain⟨r,rs,rfl⟩:=List.exists_cons_of_ne_nil ne;have hy:1<=y.length:=by
  obtain⟨z,_⟩:=Kl.mp sp.at_;rw [bF] at z;omega
 have e':(bT x).drop 0=jn (bT y) (bT r::rs.map bT):=by rw [List.drop_zero,e,j6]; rfl
 obtain⟨cuts,f,c1,c2,c3⟩:=wM sp (rs.map bT) (bT r) 0 (λq hq=>by
  rcases J2.mp hq with rfl | hq
  ·exact fr r J4
  ·obtain⟨w,hw,rfl⟩:=JY.mp hq;exact fr w (J5 _ hw)) e'
 obtain⟨f',d1,d2⟩:=StrLaws.occ_tight x y hy;have ec:=pz d1 c1 d2 c2;have es:(bT r::rs.map bT).map tx=r::rs:=by
  rw [J8,jJ,Kq]
  congr 1
  exact(List.map_congr_left (g:=id) λw _=>jJ w).trans (List.map_id _)
 have fin:Builtin.Str.partsBetween x (Builtin.Str.occurrences x y 0 x.length (x.length+1)) y.length=r::rs:=by
  rw [StrLaws.partsBetween_eq,ec,c3,es]
 have whole:cuts=[]->r::rs=[x]:=λz=>by
  rw [z] at c3;rw [<- es,<- c3]
  show [Builtin.Str.strSub x 0 x.length]=_
  rw [StrLaws.sub_whole]
 refine⟨?_,fin⟩;unfold Txt.split
 by_cases h1:(decide (x.length < y.length) || decide (Builtin.Str.strKind x < Builtin.Str.strKind y))=true
 ·rw [if_pos h1];refine(whole ?_).symm;cases hc:cuts with
  | nil=>rfl
  | cons k r2=>
   rw [hc] at c1;have hA:=c1.2.1;rcases Bool.or_eq_true_iff.mp h1 with z | z
   ·have:=of_decide_eq_true z;have:=hA.1;omega
   ·have:=PySem.W.kind_le x y hA.2;have:=of_decide_eq_true z;omega
 ·rw [if_neg h1]
  by_cases h2:(Builtin.Str.occurrences x y 0 x.length (x.length+1)).isEmpty=true
  ·rw [if_pos h2];refine(whole ?_).symm;rw [<- ec];exact List.isEmpty_iff.mp h2
  ·rw [if_neg h2,fin]
open PySem.NumText in
def dg (k:Nat):List Nat:=(Nat.toDigits 10 k).map Char.toNat
abbrev wT (n:Int):Str:=Str.ofString (toString n)
theorem fH {k:Nat} (h:k < 10):dg k=[k+48]:=by
 unfold dg;rw [Nat.toDigits_of_lt_base h];have:∀ d:Nat,d < 10->(Nat.digitChar d).toNat=d+48:=by decide
 rw [J8,List.map_nil,this k h]
theorem sf {k:Nat} (h:10<=k):dg k=dg (k / 10)++[k % 10+48]:=by
 have hm:k % 10 < 10:=Nat.mod_lt k (by decide)
 have t:Nat.toDigits 10 (k / 10)++Nat.toDigits 10 (k % 10)=Nat.toDigits 10 (10*(k / 10)+k % 10):=Nat.toDigits_append_toDigits (by decide) (by omega) hm
 rw [Nat.div_add_mod] at t;have e:=fH hm;unfold dg at e ⊢;rw [<- t,List.map_append,e]
theorem sP:∀ k,PySem.NumText.AllDigits (dg k):=λk=>by
 induction k using Nat.strongRecOn with
 | _ k ih=>
  by_cases h:k < 10
  ·rw [fH h];intro c hc;have:c=k+48:=by simpa using hc
   omega
  ·rw [sf (by omega)]
   intro c hc;rcases List.mem_append.mp hc with m | m
   ·exact ih (k / 10) (by omega) c m
   ·have:c=k % 10+48:=by simpa using m
    omega
theorem wL (k:Nat):dg k≠[]:=by
 by_cases h:k < 10
 ·rw [fH h]; simp
 ·rw [sf (by omega)]; simp
theorem tj:∀ (m k:Nat),k < 10 ^ (m+1)->(dg k).length<=m+1
 | 0,k,h=>by rw [fH (by simpa using h)]; simp
 | m+1,k,h=>by
  by_cases z:k < 10
  ·rw [fH z]; simp
  ·rw [sf (by omega),Kc]
   have:=tj m (k / 10) (by rw [Nat.pow_succ] at h; omega)
   simp;omega
theorem Ck:∀ k,(dg k).head?=some 48->k=0:=λk=>by
 induction k using Nat.strongRecOn with
 | _ k ih=>
  by_cases h:k < 10
  ·rw [fH h];intro e;have:k+48=48:=by simpa using e
   omega
  ·rw [sf (by omega)]
   intro e;have hn:=wL (k / 10);obtain⟨c,r,hc⟩:=List.exists_cons_of_ne_nil hn;rw [hc] at e;have:=ih (k / 10) (by omega) (by rw [hc]; exact e)
   omega
theorem ES (k:Nat):PySem.NumText.digitsVal (dg k)=k:=PySem.W.KIN.val_back k
theorem gH (n:Int):bT (wT n)=(if n < 0 then [45] else [])++dg n.natAbs:=by
 rw [rN];cases n with
 | ofNat m=>
  rw [if_neg (by simp)]
  show(Nat.repr m).toList.map Char.toNat=_
  rw [Nat.toList_repr]
  rfl
 | negSucc m=>
  rw [if_pos (by exact Int.negSucc_lt_zero m)]
  show("-"++Nat.repr (m+1)).toList.map Char.toNat=_
  rw [String.toList_append,List.map_append,Nat.toList_repr]
  rfl
def NS (c:Nat):Prop:=c=45\/(48<=c/\c<=57)
theorem oN {n:Int}:∀ c∈bT (wT n),NS c:=λc hc=>by
 rw [gH] at hc;rcases List.mem_append.mp hc with m | m
 ·split at m
  ·exact .inl (by simpa using m)
  ·cases m
 ·exact .inr (sP _ c m)
def nO (n:Int):Prop:=n.natAbs < 10 ^ 40
theorem nO.len {n:Int} (h:nO n):(dg n.natAbs).length<=40:=tj 39 _ h
theorem nO.wlen {n:Int} (h:nO n):(wT n).length<=41:=by
 rw [<- bF,gH,Kc];have:=h.len
 split
 ·simp; omega
 ·simp; omega
theorem CZ {b:Nat} {n:Int} (h:Bt b n) (hb:b<=130):nO n:=by
 unfold nO Bt at*
 exact J6 h (Kn (Nat.pow_le_pow_right (by decide) hb) (by decide))
theorem vW {x:Str} {c:Nat}:Txt.startswith x (tx [c])=((bT x).head? == some c):=by
 unfold Txt.startswith;rw [StrLaws.subAt_eq]
 show(decide (0+1<=x.length) && ((bT x).drop 0).take 1 == [c])=_
 rw [List.drop_zero,<- bF];cases bT x with
 | nil=>rfl
 | cons a r=>simp
theorem Az:(Str.ofString "-")=tx [45]:=fj (by rw [rN]; rfl)
theorem kg (n:Int):Txt.startswith (wT n) (Str.ofString "-")=decide (n < 0):=by
 rw [Az,vW,gH]
 by_cases h:n < 0
 ·rw [if_pos h,decide_eq_true h]
  rfl
 ·rw [if_neg h,Ky h,List.nil_append];obtain⟨c,r,hc⟩:=List.exists_cons_of_ne_nil (wL n.natAbs);have:=sP n.natAbs c (by rw [hc]; simp)
  rw [hc]
  show(some c == some 45)=false
  rw [beq_eq_false_iff_ne];intro z;cases z;omega
theorem uU {x:Str} {i:Nat} (h:i<=x.length):Txt.slice x (some (i:Nat)) none=tx ((bT x).drop i):=by
 have e:=StrLaws.sliceText_from (x:=x) (i:=(i:Nat)) ⟨by omega,by rw [KG]; exact_mod_cast h⟩
 refine(show Txt.slice x (some (i:Nat)) none=_ from e).trans (fj ?_)
 show((bT x).drop (Int.toNat (i:Nat))).take _=(bT x).drop i
 rw [show Int.toNat (i:Nat)=i from rfl,List.take_of_length_le]
 rw [List.length_drop]
 show(bT x).length - i<=(((bT x).length:Int) - (i:Nat)).toNat
 omega
theorem AY {x:Str} {j:Nat} (h:j<=x.length):Txt.slice x none (some (j:Nat))=tx ((bT x).take j):=by
 have e:=StrLaws.sliceText_to (x:=x) (j:=(j:Nat)) ⟨by omega,by rw [KG]; exact_mod_cast h⟩
 refine(show Txt.slice x none (some (j:Nat))=_ from e).trans (fj ?_)
 show((bT x).drop 0).take _=(bT x).take j
 rw [List.drop_zero]
 congr 1
theorem Cq {c:Nat} (h:48<=c/\c<=57):Txt.contains (Str.ofString "0123456789") (tx [c])=true:=by
 unfold Txt.contains;rw [show tx [c]=(⟨#[c]⟩:Str) from rfl,StrLaws.found_one,KF]
 show c∈bT (Str.ofString "0123456789")
 rw [rN]
 show c∈[48,49,50,51,52,53,54,55,56,57]
 simp;omega
theorem yx {k:Nat} (h:k < 10 ^ 40):PySem.intText? (Str.ofString "0"++tx (dg k))=some ((k:Nat):Int):=by
 have e:bT (Str.ofString "0"++tx (dg k))=48::dg k:=by
  rw [cD,rN]
  rfl
 have l:=tj 39 k h;rw [PySem.intText_digits (by rw [show (Str.ofString "0"++tx (dg k)).cps.toList=48::dg k from e]; intro c hc; rcases J2.mp hc with rfl | m; exact⟨by decide,by decide⟩; exact sP k c m) (by rw [show (Str.ofString "0"++tx (dg k)).cps.toList=48::dg k from e]; simp) (by rw [<- bF,e]; simp; omega)]
 rw [show (Str.ofString "0"++tx (dg k)).cps.toList=48::dg k from e]
 have:PySem.NumText.digitsVal (48::dg k)=PySem.NumText.digitsVal (dg k):=rfl;rw [this,ES]
theorem rq {x:Str} {c:Nat} (h:c∉bT x):Txt.partition x (tx [c])=(x,Str.empty,Str.empty):=by
 unfold Txt.partition;rcases StrLaws.occ_head x (tx [c]) 1 (JX _) with ⟨e,_⟩ | ⟨i,r,e,a,_⟩
 ·rw [e]
 ·exact absurd (List.mem_of_getElem? ((StrLaws.subAt_one x c i).mp a)) h
theorem yl {a b:List Nat} {c:Nat} (h:c∉a):Txt.partition (tx (a++c::b)) (tx [c])=(tx a,tx [c],tx b):=by
 have g:bT (tx (a++c::b))=a++c::b:=by simp [bT,tx]
 have hl:(tx (a++c::b)).length=a.length+(b.length+1):=by rw [<- bF,g]; simp
 unfold Txt.partition;rcases StrLaws.occ_head (tx (a++c::b)) (tx [c]) 1 (JX _) with ⟨e,n⟩ | ⟨i,r,e,at1,first⟩
 ·exact absurd ((StrLaws.subAt_one _ c a.length).mpr (show (bT (tx (a++c::b)))[a.length]?=some c by rw [g]; simp)) (n a.length)
 ·have ei:i=a.length:=by
   have h1:(bT (tx (a++c::b)))[i]?=some c:=(StrLaws.subAt_one _ c i).mp at1;rw [g] at h1;rcases Nat.lt_trichotomy i a.length with l | l | l
   ·rw [List.getElem?_append_left l] at h1;exact absurd (List.mem_of_getElem? h1) h
   ·exact l
   ·exact absurd ((StrLaws.subAt_one _ c a.length).mpr (show (bT (tx (a++c::b)))[a.length]?=some c by rw [g]; simp)) (first a.length l)
  subst ei;rw [e]
  show(Builtin.Str.strSub _ 0 a.length,tx [c],Builtin.Str.strSub _ (a.length+1) _)=_
  rw [sw (r:=a) (by rw [g]; simp),sw (r:=b)]
  rw [g,hl,<- List.drop_drop,List.drop_left]
  show(List.drop 1 (c::b)).take _=b
  rw [List.drop_one,List.tail_cons,List.take_of_length_le (by omega)]
set_option maxHeartbeats 4000000
def fT (q:Rat):Str:=if q.den=1 then wT q.num else wT q.num++Str.ofString "/"++wT (q.den:Int)
structure kE (q:Rat):Prop where
 n:nO q.num
 d:nO (q.den:Int)
theorem fQ {b:Nat} {q:Rat} (h:Sz b q) (hb:b<=130):kE q:=⟨CZ h.1 hb,CZ h.2 hb⟩
theorem nw {a:Nat} (h:a<=100000):a<=sizeLine:=Kn h (Kb (rfl:Nat.ble 100000 sizeLine=true))
theorem vL {a:Nat} (h:a<=100000):a < sizeLine:=Nat.lt_of_le_of_lt h (J6 (by decide:100000 < 100001) (Kb (rfl:Nat.ble 100001 sizeLine=true)))
theorem kh:(Str.ofString "/").length=1:=rfl
theorem rQ:(Str.ofString "@").length=1:=rfl
theorem eA:(Str.ofString " ").length=1:=rfl
theorem cj (x y:Str):(x++y).length=x.length+y.length:=Str.length_append x y
theorem fR {k:Nat} (h:k < 10 ^ 40):k.log2 < 1920:=by
 by_cases z:k=0
 ·rw [z]; decide
 ·exact Nat.log2_lt z |>.mpr (J6 h (Kn (by decide:10 ^ 40<=2 ^ 133) (Nat.pow_le_pow_right (by decide) (by decide))))
theorem iS {y:Str} {ws:List Str} {b n:Nat} (hb:∀ w∈ws,w.length<=b) (hn:ws.length<=n) (h:n*b+n*y.length<=16777216):JoinOk y ws=true:=by
 unfold JoinOk;have:=StrLaws.joinFits (sep:=y) (texts:=ws) (B:=b) hb (Kn (Nat.add_le_add (Nat.mul_le_mul_right _ hn) (Nat.mul_le_mul_right _ hn)) h);rw [this]
 rfl
def fh:bE:=λds S k=>∃ n:Int,ds=[.int n]/\nO n/\∀ S',bh S S'->k (.str (wT n)) S'
theorem cY:ao ["number","block","rest","blocks"] ["number"] (aj iu):=cG
theorem qk (Fn:FN K "whole_text" iu f fd) (eW:mg "abs"=none) (jq:mg "str"=none) (kG:mg "reversed"=none):
  aQ P w K mg base b8 1 f fd ["number"] (ca K fh):=by
 refine Fn.okJ cY (λds S k h=>?_) (λcdv A outer s H E hr=>⟨_,(ag (am (i:=1) cY.nd (aB xk ae ae)) (ag (am (i:=2) cY.nd (aA qL rfl eW mO (aH 0 ac))) (ag (am (i:=3) cY.nd (cn ac)) (ag (iR PassesOwn.never (au yM (af 2) (af 1) (ar _)) (ag be (ah (am (i:=2) cY.nd (aB jr (af 2) (af 1)))))) (ag (bU (gX (af 3) (bC pU rfl jq mK (aH 2 ac)))) (ag (ay (au tR (af 0) ae (ar _)) (ah (bU (gX (af 3) aG))) az) (ah (ai (yC rfl rfl kG aG (aH 3 ac)))))))))),λds S k h=>?_⟩)
 ·obtain⟨_,rfl,_⟩:=h
  rfl
 ·obtain⟨n,rfl,hn,w⟩:=h;have hn':n.natAbs < 10 ^ 40:=hn;have ea:(if n < 0 then -n else n)=((n.natAbs:Nat):Int):=by split <;> omega
  refine⟨⟨by decide,by decide,by decide⟩,few,λp hp=>⟨λm L S'=>m=0/\L=[some (.int n),some (.int (10 ^ 64)),some (.int (n.natAbs:Nat)),some (.ref p)]/\S'=put S p (.lst []),⟨0,rfl,by rw [<- ea]; rfl,rfl⟩,?_⟩⟩
  rintro m L S' ⟨rfl,rfl,rfl⟩;refine aF (λz=>?_) (λ_=>?_)
  ·exfalso
   have:(10:Nat) ^ 40 < 10 ^ 64:=by decide
   have z:(10:Int) ^ 64<=(n.natAbs:Nat):=z;have z:((10 ^ 64:Nat):Int)<=(n.natAbs:Nat):=z;omega
  have sa:bT (wT ((n.natAbs:Nat):Int))=dg n.natAbs:=by
   rw [gH,if_neg (by omega)]
   rfl
  refine⟨⟨_,ak⟩,by rw [Int.natAbs_natCast]; exact fR hn',_,ak,vL (by decide),?_⟩
  have hl:(wT ((n.natAbs:Nat):Int)).length<=41:=by rw [<- bF,sa]; have:=hn.len; omega
  refine aF (λz=>?_) (λz=>?_)
  ·refine⟨⟨_,ak⟩,_,ak,vL (by show 1<=100000; decide),p,[wT ((n.natAbs:Nat):Int),Str.ofString "-"],rfl,by rw [ak]; rfl,iS (b:=41) (n:=2) ?_ (JX _) (by decide),?_⟩
   ·intro w' hw';simp only [List.reverse_cons,List.reverse_nil,List.nil_append,List.cons_append,J2,Ka,or_false] at hw';rcases hw' with rfl | rfl
    ·exact(by decide:1<=41)
    ·exact hl
   ·have e:Txt.join (Str.ofString "") [wT ((n.natAbs:Nat):Int),Str.ofString "-"].reverse=wT n:=by
     rw [c6];refine fj ?_;rw [j6,gH,if_pos z]
     show bT (Str.ofString "-")++bT (Str.ofString "")++bT (wT _)=_
     rw [sa]
     rfl
    rw [e];exact w _ (((bh.new hp).put hp).put hp)
  ·refine⟨p,[wT ((n.natAbs:Nat):Int)],rfl,by rw [ak]; rfl,iS (b:=41) (n:=1) (λw' hw'=>?_) (JX _) (by decide),?_⟩
   ·have:w'=wT ((n.natAbs:Nat):Int):=by simpa using hw'
    rw [this];exact hl
   ·have e:Txt.join (Str.ofString "") [wT ((n.natAbs:Nat):Int)].reverse=wT n:=by
     rw [c6];refine fj ?_;rw [j6,gH,if_neg z]
     show bT (wT _)=_
     rw [sa]
     rfl
    rw [e];exact w _ ((bh.new hp).put hp)
def c_:bE:=λds S k=>∃ q:Rat,ds=[fr q]/\kE q/\∀ S',bh S S'->k (.str (fT q)) S'
theorem m9:ao ["fraction"] ["fraction"] (aj eO):=cG
theorem nv (Fn:FN K "fraction_text" eO f fd) (a9:bf P w K mg base "whole_text" 1 fh):
  aQ P w K mg base b8 2 f fd ["fraction"] (ca K c_):=by
 refine Fn.okJ m9 (λds S k h=>?_) (λcdv A outer s H E hr=>⟨_,(ag (ay (au dX (aD aP (af 0) ae Zf) ae (ar _)) (ah (ai (dq a9 hr (aa (aD aP (af 0) ae Zf) ac)))) az) (ah (ai (aB bv (aB bv (dq a9 hr (aa (aD aP (af 0) ae Zf) ac)) aG) (dq a9 hr (aa (aD aP (af 0) ae Zf) ac)))))),λds S k h=>?_⟩)
 ·obtain⟨_,rfl,_⟩:=h
  rfl
 ·obtain⟨q,rfl,hq,w⟩:=h;have l1:=hq.n.wlen;have l2:=hq.d.wlen;unfold fT at w
  by_cases e:q.den=1
  ·rw [if_pos e] at w;refine⟨_,rfl,aF (λ_=>?_) (λz=>absurd (show ((q.den:Nat):Int)=1 by rw [e]; rfl) z)⟩
   exact⟨_,rfl,q.num,rfl,hq.n,λS1 e1=>w S1 e1⟩
  ·rw [if_neg e] at w;refine⟨_,rfl,aF (λz=>absurd (show q.den=1 from by have z:((q.den:Nat):Int)=1:=z; omega) e) (λ_=>?_)⟩
   refine⟨_,rfl,q.num,rfl,hq.n,λS1 e1=>⟨?_,_,rfl,(q.den:Int),rfl,hq.d,λS2 e2=>⟨?_,w S2 (e1.trans e2)⟩⟩⟩
   ·rw [kh]; exact nw (by omega)
   ·rw [cj,kh]; exact nw (by omega)
abbrev nD (p u:Rat):D:=.tup [fr p,fr u]
def nT (p u:Rat):Str:=if u=0 then fT p else fT p++Str.ofString "@"++fT u
theorem jX {q:Rat} (h:kE q):(fT q).length<=90:=by
 have l1:=h.n.wlen;have l2:=h.d.wlen;unfold fT
 split
 ·omega
 ·rw [cj,cj,kh];omega
theorem lj {p u:Rat} (h:kE p) (h':kE u):(nT p u).length<=190:=by
 have l1:=jX h;have l2:=jX h';unfold nT
 split
 ·omega
 ·rw [cj,cj,rQ];omega
def kz:bE:=λds S k=>∃ p u:Rat,ds=[nD p u]/\kE p/\kE u/\∀ S',bh S S'->k (.str (nT p u)) S'
theorem pN:ao ["number"] ["number"] (aj gQ):=cG
theorem pI (Fn:FN K "number_text" gQ f fd) (bz:bf P w K mg base "is_plain" 1 fE) (aT:bf P w K mg base "fraction_text" 2 c_):
  aQ P w K mg base b8 3 f fd ["number"] (ca K kz):=by
 refine Fn.okJ pN (λds S k h=>?_) (λcdv A outer s H E hr=>⟨_,(ag (ay (aL (dq bz hr (aH 0 ac))) (ah (ai (dq aT hr (aa (aD aP (af 0) ae Zf) ac)))) az) (ah (ai (aB bv (aB bv (dq aT hr (aa (aD aP (af 0) ae Zf) ac)) aG) (dq aT hr (aa (aD aP (af 0) ae Zf) ac)))))),λds S k h=>?_⟩)
 ·obtain⟨_,_,rfl,_⟩:=h
  rfl
 ·obtain⟨p,u,rfl,hp,hu,w⟩:=h;have l1:=jX hp;have l2:=jX hu;unfold nT at w;refine⟨_,u,rfl,aF (λz=>?_) (λz=>?_)⟩
  ·rw [if_pos z] at w;exact⟨_,rfl,p,rfl,hp,w⟩
  ·rw [if_neg z] at w;exact⟨_,rfl,p,rfl,hp,λS1 e1=>⟨by rw [rQ]; exact nw (by omega),_,rfl,u,rfl,hu,λS2 e2=>⟨by rw [cj,rQ]; exact nw (by omega),w S2 (e1.trans e2)⟩⟩⟩
def lX:bE:=λds S k=>∃ p u p' u':Rat,ds=[.tup [nD p u,nD p' u']]/\kE p/\kE u/\kE p'/\kE u'/\∀ S',bh S S'->k (.str (nT p u++Str.ofString " "++nT p' u')) S'
theorem qh:ao ["point"] ["point"] (aj iV):=cG
theorem qj (Fn:FN K "point_text" iV f fd) (eC:bf P w K mg base "number_text" 3 kz):
  aQ P w K mg base b8 4 f fd ["point"] (ca K lX):=by
 refine Fn.okJ qh (λds S k h=>?_) (λcdv A outer s H E hr=>⟨_,(ah (ai (aB bv (aB bv (dq eC hr (aa (aD aP (af 0) ae Zf) ac)) aG) (dq eC hr (aa (aD aP (af 0) ae Zf) ac))))),λds S k h=>?_⟩)
 ·obtain⟨_,_,_,_,rfl,_⟩:=h
  rfl
 ·obtain⟨p,u,p',u',rfl,hp,hu,hp',hu',w⟩:=h;have l1:=lj hp hu;have l2:=lj hp' hu';refine⟨_,rfl,p,u,rfl,hp,hu,λS1 e1=>⟨by rw [eA]; exact nw (by omega),_,rfl,p',u',rfl,hp',hu',λS2 e2=>⟨by rw [cj,eA]; exact nw (by omega),w S2 (e1.trans e2)⟩⟩⟩
theorem lD {α:Type} {f g:α->D} {all:List α} {S:DH} {p:KN} {ok:DH->Prop} {bd:DB} {k:DK} {L1:Lo} (hp:S p=none) (hok:∀ S',bh S S'->ok S')
  (hbd:∀ (x:α) (S':DH) (k':KO D->DH->Prop),x∈all->bh S S'->(∀ S2,bh S' S2->k' (some (g x)) S2)->bd (some (f x)::L1) S' k'):
  ∀ (r:List α) (acc:List D) (l0:KO D) (S1:DH),(∀ x∈r,x∈all)->bh S S1->S1 p=some (.lst acc)->acc.length+r.length<=1000->(∀ S',bh S S'->S' p=some (.lst (acc++r.map g))->k (.ref p) S')->bK ok p (eV 0) bd k (r.map f) acc (l0::L1) S1
 | [],acc,l0,S1,_,e1,h1,_,w=>⟨hok _ e1,w _ e1 (by rw [h1]; simp)⟩
 | x::r,acc,l0,S1,hr,e1,h1,hl,w=>by
  have hl:acc.length+(r.length+1)<=1000:=hl;refine⟨hok _ e1,hbd x _ _ (hr x J4) e1 λS2 e2=>⟨e2 _ _ h1,vL (by omega),?_⟩⟩
  exact lD hp hok hbd r _ _ _ (λy hy=>hr y (J5 _ hy)) ((e1.trans e2).put hp) ak (by rw [Kc]; show acc.length+1+r.length<=1000; omega) λS' e h=>w S' e (by rw [h,List.append_assoc]; rfl)
theorem zY {x:D} {t:List D}:DL.jt (x::t) (some 1) none=t:=by
 unfold DL.jt;have h1:HT.cI (x::t).length 0 (some 1)=1:=by unfold HT.cI; simp
 have h2:HT.cI (x::t).length (x::t).length none=(x::t).length:=rfl;rw [h1,h2];simp
inductive It where
 | s (x:Str)
 | w (n:Int)
 | f (q:Rat)
def It.d:It->D
 | .s x=>.str x
 | .w n=>.int n
 | .f q=>fr q
def It.t:It->Str
 | .s x=>x
 | .w n=>wT n
 | .f q=>fT q
def It.ok:It->Prop
 | .s x=>x.length<=90
 | .w n=>nO n
 | .f q=>kE q
theorem It.len {i:It} (h:i.ok):i.t.length<=90:=by
 cases i with
 | s x=>exact h
 | w n=>have:=nO.wlen h; show(wT n).length<=90; omega
 | f q=>exact jX h
def rE:bE:=λds S k=>∃ i:It,ds=[i.d]/\i.ok/\(∀ x,i≠.s x)/\∀ S',bh S S'->k (.str i.t) S'
theorem vC:ao ["thing"] ["thing"] (aj mN):=cG
theorem v8 (Fn:FN K "written" mN f fd) (bg:bf P w K mg base "is_whole" 1 eG) (a9:bf P w K mg base "whole_text" 1 fh) (aT:bf P w K mg base "fraction_text" 2 c_):
  aQ P w K mg base b8 3 f fd ["thing"] (ca K rE):=by
 refine Fn.okJ vC (λds S k h=>?_) (λcdv A outer s H E hr=>⟨_,(ah (ai (pH (aL (dq bg hr (aH 0 ac))) (dq a9 hr (aH 0 ac)) (dq aT hr (aH 0 ac))))),λds S k h=>?_⟩)
 ·obtain⟨_,rfl,_⟩:=h
  rfl
 ·obtain⟨i,rfl,hi,ns,w⟩:=h;cases i with
  | s x=>exact absurd rfl (ns x)
  | w n=>exact⟨.int n,rfl,⟨.int,rfl⟩,n,rfl,hi,w⟩
  | f q=>exact⟨fr q,rfl,⟨.tup,rfl⟩,q,rfl,hi,w⟩
abbrev rD (r:List It):D:=.tup (r.map It.d)
def rT (r:List It):Str:=Str.join (Str.ofString " ") (r.map It.t)
def ji:bE:=λds S k=>∃ (x:Str) (r:List It),ds=[rD (.s x::r)]/\x.length<=90/\r.length<=8/\(∀ i∈r,i.ok/\∀ x,i≠.s x)/\∀ S',bh S S'->k (.str (rT (.s x::r))) S'
theorem tH:ao ["row"] ["row"] (aj kL):=cG
theorem tV (Fn:FN K "row_text" kL f fd) (mD:bf P w K mg base "written" 3 rE):
  aQ P w K mg base b8 4 f fd ["row"] (ca K ji):=by
 refine Fn.okJ tH (λds S k h=>?_) (λcdv A outer s H E hr=>⟨_,(ah (ai (cF PySem.F.slot_str_join PySem.F.type_str_join iF aG (aa (aB bv (cn (aa (aD aP (af 0) ae Zf) ac)) (dN rfl (dk (N:=["thing"]) (cap:=[none]) rfl rfl rfl rfl trivial rfl rfl trivial) (wC (af 0) (c7 ae) eL) (λ_ _ _ _=>(aO (i:=0) (show List.Nodup (["thing"]:List Str) from by decide +kernel))) (λ_ _ _ _=>(dq mD hr (aH 0 ac))))) ac)))),λds S k h=>?_⟩)
 ·obtain⟨_,_,rfl,_⟩:=h
  rfl
 ·obtain⟨x,r,rfl,hx,hl,hr,w⟩:=h;refine⟨_,bq,few,λp hp=>⟨(r.map It.d,none),by show aI _ (.tup (DL.jt (_::r.map It.d) (some 1) none))=_; rw [zY]; rfl,λp2 hp2=>?_⟩⟩
  refine lD (f:=It.d) (g:=λi=>.str i.t) (all:=r) hp2 (λ_ _=>trivial) ?bb r [] none _ (λ_ h=>h) (bh.new hp2) ak (by show 0+r.length<=1000; omega) λS1 e1 h1=>?_
  case bb=>
   intro i S' k' hi e hk;exact⟨i,rfl,(hr i hi).1,(hr i hi).2,λS2 e2=>hk S2 e2⟩
  rw [List.nil_append] at h1;refine⟨_,_,e1 _ _ (ak),h1,by rw [JZ]; exact nw (by show 1+r.length<=100000; omega),λp3 hp3=>⟨(x::r.map It.t),by rw [ak,J8,Kq]; rfl,iS (b:=90) (n:=9) ?_ (by rw [J9,JZ]; omega) (by decide),?_⟩⟩
  ·intro y hy;rcases J2.mp hy with rfl | hy
   ·exact hx
   ·obtain⟨i,hi,rfl⟩:=JY.mp hy;exact It.len (hr i hi).1
  ·rw [c6];exact w _ (((bh.new hp).trans e1).put ((((bh.new hp).trans e1)).none hp3))
def tT (rs:List (List It)):Str:=Str.join (Str.ofString " ; ") (rs.map rT)
structure uC (r:List It):Prop where
 hd:∃ x t,r=.s x::t/\x.length<=90/\t.length<=8/\∀ i∈t,i.ok/\∀ x,i≠.s x
theorem mf {y:Str} {b:Nat}:∀ {ws:List Str},(∀ w∈ws,w.length<=b)->(Str.join y ws).length<=ws.length*(b+y.length)
 | [],_=>Kz _
 | [w],h=>by
  have:=h w J4
  show w.length<=1*_
  omega
 | w::w'::ws,h=>by
  have i:=mf (y:=y) (ws:=w'::ws) λv hv=>h v (J5 _ hv)
  have:=h w J4
  show(w++y++Str.join y (w'::ws)).length<=_
  rw [cj,cj];have e:(w::w'::ws).length=(w'::ws).length+1:=rfl;rw [e,Nat.succ_mul];omega
theorem uC.len {r:List It} (h:uC r):(rT r).length<=9*91:=by
 obtain⟨x,t,rfl,hx,ht,hr⟩:=h.hd;refine Kn (mf (b:=90) λw hw=>?_) ?_
 ·obtain⟨i,hi,rfl⟩:=JY.mp hw;rcases J2.mp hi with rfl | hi
  ·exact hx
  ·exact It.len (hr i hi).1
 ·rw [eA,JZ,J9];exact Nat.mul_le_mul_right _ (by omega)
theorem mB {rs:List (List It)} {S:DH} {p:KN} {k:DK} {ok:DH->Prop} {L1:Lo} (hl:rs.length<=9) (hr:∀ r∈rs,uC r) (hp:S p=none) (hok:∀ S',bh S S'->ok S') (w:∀ S',bh S S'->S' p=some (.lst (rs.map λr=>.str (rT r)))->k (.ref p) S'):
  bK ok p (eV 0) (jx (gj ji (eX (cL 0) ng))) k (rs.map rD) [] (none::L1) (put S p (.lst [])):=by
 refine lD (f:=rD) (g:=λr=>.str (rT r)) (all:=rs) hp hok ?bb rs [] none _ (λ_ h=>h) (bh.new hp) ak (by show 0+rs.length<=1000; omega) λS1 e1 h1=>w S1 e1 h1
 intro r S' k' hi e hk;obtain⟨x,t,rfl,hx,ht,hr⟩:=(hr r hi).hd;exact⟨x,t,rfl,hx,ht,hr,λS2 e2=>hk S2 e2⟩
theorem nI {rs:List (List It)} (hl:rs.length<=9) (hr:∀ r∈rs,uC r):JoinOk (Str.ofString " ; ") (rs.map rT)=true:=iS (b:=9*91) (n:=9) (λw hw=>by
 obtain⟨r,h,rfl⟩:=JY.mp hw;exact(hr r h).len) (by rw [JZ]; exact hl) (by decide)
def jN:bE:=λds S k=>∃ rs:List (List It),ds=[.tup (rs.map rD)]/\rs.length<=9/\(∀ r∈rs,uC r)/\∀ S',bh S S'->k (.str (tT rs)) S'
theorem ot:ao ["machine"] ["machine"] (aj fS):=cG
theorem n4 (Fn:FN K "machine_text" fS f fd) (eB:bf P w K mg base "row_text" 4 ji):
  aQ P w K mg base b8 5 f fd ["machine"] (ca K jN):=by
 refine Fn.okJ ot (λds S k h=>?_) (λcdv A outer s H E hr=>⟨_,(ah (ai (cF PySem.F.slot_str_join PySem.F.type_str_join iF aG (aa (dN rfl (dk (N:=["step"]) (cap:=[none]) rfl rfl rfl rfl trivial rfl rfl trivial) (af 0) (λ_ _ _ _=>(aO (i:=0) (show List.Nodup (["step"]:List Str) from by decide +kernel))) (λ_ _ _ _=>(dq eB hr (aH 0 ac)))) ac)))),λds S k h=>?_⟩)
 ·obtain⟨_,rfl,_⟩:=h
  rfl
 ·obtain⟨rs,rfl,hl,hr,w⟩:=h;refine⟨(rs.map rD,none),rfl,λp hp=>mB hl hr hp (λ_ _=>trivial) λS1 e1 h1=>⟨rs.map rT,by rw [h1,Kq]; rfl,nI hl hr,?_⟩⟩
  rw [c6];exact w S1 e1
def lG:bE:=λds S k=>∃ (d:D) (rs:List (List It)),ds=[d]/\(d=.tup (rs.map rD)\/∃ a,d=.ref a/\S a=some (.lst (rs.map rD)))/\rs.length<=9/\(∀ r∈rs,uC r)/\∀ S',bh S S'->k (.str (tT rs)) S'
theorem qu:ao ["leads"] ["leads"] (aj i8):=cG
theorem qt (Fn:FN K "leads_text" i8 f fd) (eB:bf P w K mg base "row_text" 4 ji):
  aQ P w K mg base b8 5 f fd ["leads"] (ca K lG):=by
 refine Fn.okJ qu (λds S k h=>?_) (λcdv A outer s H E hr=>⟨_,(ah (ai (cF PySem.F.slot_str_join PySem.F.type_str_join iF aG (aa (dN rfl (dk (N:=["lead"]) (cap:=[none]) rfl rfl rfl rfl trivial rfl rfl trivial) (af 0) (λ_ _ _ _=>(aO (i:=0) (show List.Nodup (["lead"]:List Str) from by decide +kernel))) (λ_ _ _ _=>(dq eB hr (aH 0 ac)))) ac)))),λds S k h=>?_⟩)
 ·obtain⟨_,_,rfl,_⟩:=h
  rfl
 ·obtain⟨d,rs,rfl,hd,hl,hr,w⟩:=h;rcases hd with rfl | ⟨a,rfl,ha⟩
  ·refine⟨(rs.map rD,none),rfl,λp hp=>mB hl hr hp (λ_ _=>trivial) λS1 e1 h1=>⟨rs.map rT,by rw [h1,Kq]; rfl,nI hl hr,?_⟩⟩
   rw [c6];exact w S1 e1
  ·refine⟨(rs.map rD,some a),by show aI S (.ref a)=_; simp only [aI,ha],λp hp=>mB hl hr hp (λS' e=>e _ _ ha) λS1 e1 h1=>⟨rs.map rT,by rw [h1,Kq]; rfl,nI hl hr,?_⟩⟩
   rw [c6];exact w S1 e1
set_option maxHeartbeats 4000000
def dH:bE:=λds S k=>∃ n:Nat,ds=[.str (tx (dg n))]/\n < 10 ^ 40/\k (.int (n:Nat)) S
theorem cu:ao ["figures","head","number","at"] ["figures"] (aj fL):=cG
theorem oe (Fn:FN K "figures_read" fL f fd) (aM:mg "len"=none) (eI:mg "int"=none) (bH:mg "range"=none) (lw:vd mg "BLOCK" 64):
  aQ P w K mg base b8 1 f fd ["figures"] (ca K dH):=by
 refine Fn.okJ cu (λds S k h=>?_) (λcdv A outer s H E hr=>⟨_,(ag (am (i:=1) cu.nd (aB ky (aA jM rfl aM bJ (aH 0 ac)) (pO lw rfl))) (ag (am (i:=2) cu.nd (bC vG rfl eI lb (aa (aB bv aG (sO (af 0) eL (c7 (af 1)))) ac))) (ag (tU PassesOwn.never rfl rfl bH (aH 1 (aa (aA jM rfl aM bJ (aH 0 ac)) (aa (pO lw rfl) ac))) (aO (i:=3) cu.nd) (ah (am (i:=2) cu.nd (aB bv (aB dZ (af 2) (aB xk ae ae)) (bC vG rfl eI lb (aa (sO (af 0) (c7 (af 3)) (c7 (aB bv (af 3) (pO lw rfl)))) ac)))))) (ah (ai (af 2)))))),λds S k h=>?_⟩)
 ·obtain⟨_,rfl,_⟩:=h
  rfl
 ·obtain⟨n,rfl,hn,w⟩:=h;have hl:(tx (dg n)).length<=40:=by rw [<- bF]; exact tj 39 n hn
  have em:((tx (dg n)).length:Int).fmod 64=((tx (dg n)).length:Nat):=by rw [Int.fmod_eq_emod_of_nonneg _ (by decide)]; omega
  have es:Txt.slice (tx (dg n)) none (some ((tx (dg n)).length:Nat))=tx (dg n):=by rw [AY (JX _),<- bF,List.take_length,jJ]
  refine⟨nw (by omega),(by decide:(64:Int)≠0),?_⟩
  dsimp only;rw [em];refine⟨nw (by omega),?_⟩
  rw [es];refine⟨nw (by show 1+_<=_; omega),_,yx hn,by rw [cj]; show 1+_<=640; omega,nw (by omega),⟨by decide,by decide,by omega,by omega,by omega,by omega⟩,?_⟩
  rw [vX (by decide) (Int.le_refl _)]
  exact⟨trivial,w⟩
def eY:bE:=λds S k=>∃ n:Int,ds=[.str (wT n)]/\nO n/\∀ S',bh S S'->k (.int n) S'
theorem gY:ao ["word","figures","number"] ["word"] (aj jm):=cG
theorem qy (Fn:FN K "whole_read" jm f fd) (fW:bf P w K mg base "figures_read" 1 dH) (z6:mg "all"=none) (mz:Ez mg "FIGURES" "0123456789"):
  aQ P w K mg base b8 2 f fd ["word"] (ca K eY):=by
 refine Fn.okJ gY (λds S k h=>?_) (λcdv A outer s H E hr=>⟨_,(ag (am (i:=1) gY.nd (pH (aL (cF PySem.F.slot_str_startswith PySem.F.type_str_startswith tJ (af 0) (aa aG ac))) (sO (af 0) (c7 ae) eL) (af 0))) (ag (ay (WJ.pt (ce (au dX (af 1) aG (ar _)) (bI (aY (aL (aA Dc rfl z6 Dq (aa (AE rfl (dk (N:=["sign"]) (cap:=[none]) rfl rfl rfl rfl trivial rfl rfl trivial) (af 1) (λ_ _ _ _=>(aO (i:=0) (show List.Nodup (["sign"]:List Str) from by decide +kernel))) (λ_ _ _ _=>(b_ Ge (af 0) (Fa mz rfl) (by with_unfolding_all rfl)))) ac))))))) (ah be) az) (ag (ay (WJ.pt (iQ (au dX (aD aP (af 1) ae Zf) aG (ar _)) (fY (au kN (af 0) aG (ar _))))) (ah be) az) (ag (am (i:=2) gY.nd (dq fW hr (aH 1 ac))) (ah (ai (pH (aL (cF PySem.F.slot_str_startswith PySem.F.type_str_startswith tJ (af 0) (aa aG ac))) (q_ qM (af 2)) (af 2)))))))),λds S k h=>?_⟩)
 ·obtain⟨_,rfl,_⟩:=h
  rfl
 ·obtain⟨n,rfl,hn,w⟩:=h;have hl:=hn.wlen;have hd:=hn.len;have ef:tx (dg n.natAbs)=if n < 0 then Txt.slice (wT n) (some 1) none else wT n:=by
   split
   ·rename_i z
    rw [show (1:Int)=((1:Nat):Int) from rfl,uU (by rw [<- bF,gH,if_pos z]; simp),gH,if_pos z]
    rfl
   ·rename_i z
    rw [<- jJ (wT n),gH,if_neg z]
    rfl
  have a_:rW
   (xT
    (GQ (h_ (xp HP (cL 1) (dC (D.str (Str.ofString "")))))
     (zU
      (h_
       (gj A3
        (eX
         (yN [none] (cL 1) (eV 0)
          (jx (xp (Fp false) (cL 0) (dC (D.str (Str.ofString "0123456789"))))))
         ng)))))
    sH wZ)
   (rW
    (xT
     (CP (h_ (xp HP (xp Fm (cL 1) (dC (D.int 0))) (dC (D.str (Str.ofString "0")))))
      (h_ (xp HR (cL 0) (dC (D.str (Str.ofString "0"))))))
     sH wZ)
    (rW (uW 2 (gj dH (eX (cL 1) ng)))
     (Al
      (HS (h_ (ww sR (cL 0) (eX (dC (D.str (Str.ofString "-"))) ng))) (HN Ep (cL 2))
       (cL 2))))) {nx:=λx S'=>k D.non S',rt:=k} [some (.str (wT n)),some (.str (tx (dg n.natAbs))),none] S:=by
   refine aF (λz=>?_) (λ_=>?_)
   ·have z:tx (dg n.natAbs)=Str.ofString "":=z
    exact absurd (show dg n.natAbs=[] from congrArg bT z) (wL _)
   ·refine λp hp=>?_
    refine lD (f:=λc=>D.str ⟨#[c]⟩) (g:=λ_=>.bl true) (all:=dg n.natAbs) hp (λ_ _=>trivial) ?bb (dg n.natAbs) [] none _ (λ_ h=>h) (bh.new hp) ak (by show 0+(dg n.natAbs).length<=1000; omega) λS1 e1 h1=>?_
    case bb=>
     intro c S' k' hc e hk
     show k' (some (.bl (Txt.contains (Str.ofString "0123456789") (tx [c])))) S'
     rw [Cq (sP _ c hc)];exact hk _ (bh.refl _)
    rw [List.nil_append] at h1;refine⟨((dg n.natAbs).map λ_=>D.bl true,some p),(dg n.natAbs).map λ_=>true,by simp only [aI,h1],by rw [Kq]; rfl,?_⟩
    have ea:((dg n.natAbs).map λ_=>true).all id=true:=by rw [KC]; intro x hx; obtain⟨c,_,rfl⟩:=JY.mp hx; rfl
    rw [ea];refine cz (λz=>absurd (show (!true)=true from z) (by decide)) (λ_=>?_)
    obtain⟨c,r,hc⟩:=List.exists_cons_of_ne_nil (wL n.natAbs);have fin:rW (uW 2 (gj dH (eX (cL 1) ng)))
      (Al
       (HS (h_ (ww sR (cL 0) (eX (dC (D.str (Str.ofString "-"))) ng))) (HN Ep (cL 2))
        (cL 2))) {nx:=λx S'=>k D.non S',rt:=k} [some (.str (wT n)),some (.str (tx (dg n.natAbs))),none] S1:=by
     refine⟨n.natAbs,rfl,hn,cz (c:=Txt.startswith (wT n) (Str.ofString "-")) (λz=>?_) (λz=>?_)⟩
     ·have z:Txt.startswith (wT n) (Str.ofString "-")=true:=z
      rw [kg,KF] at z;have e:n=-((n.natAbs:Nat):Int):=by omega
      have:=w S1 e1;rw [e] at this;exact this
     ·rw [kg,decide_eq_false_iff_not] at z;have e:n=((n.natAbs:Nat):Int):=by omega
      have:=w S1 e1;rw [e] at this;exact this
    refine⟨c,nw (by rw [<- bF]; show(dg n.natAbs).length<=_; omega),by show L2.atI (dg n.natAbs) 0=some c; rw [hc]; exact L2.fk (j:=0) rfl,aF (λz=>?_) (λ_=>fin)⟩
    have z:(⟨#[c]⟩:Str)=Str.ofString "0":=z
    have c48:c=48:=by have:[c]=[48]:=congrArg bT z; simpa using this
    have n0:n.natAbs=0:=Ck _ (by rw [hc,c48]; rfl)
    have n0:n=0:=by omega
    refine cz (c:=!decide (wT n=Str.ofString "0")) (λz=>?_) (λ_=>fin)
    rw [n0] at z;exact absurd z (by decide)
  refine cz (c:=Txt.startswith (wT n) (Str.ofString "-")) (λz=>?_) (λz=>?_)
  ·have z:Txt.startswith (wT n) (Str.ofString "-")=true:=z
   rw [kg,KF] at z;refine⟨nw (by omega),?_⟩
   rw [ef,if_pos z] at a_;exact a_
  ·rw [kg,decide_eq_false_iff_not] at z;rw [ef,if_neg z] at a_;exact a_
theorem tE:(Str.ofString "/")=tx [47]:=rfl
theorem rf:(Str.ofString "@")=tx [64]:=rfl
theorem j' {c d:Nat} (h:NS c) (hd:d=47\/d=64\/d=32\/d=59):c≠d:=by
 unfold NS at h;omega
theorem zv {q:Rat}:∀ c∈bT (fT q),NS c\/c=47:=λc hc=>by
 unfold fT at hc
 split at hc
 ·exact .inl (oN c hc)
 ·rw [cD,cD] at hc;rcases List.mem_append.mp hc with hc | hc
  ·rcases List.mem_append.mp hc with hc | hc
   ·exact .inl (oN c hc)
   ·exact .inr (by simpa using show c∈[47] from hc)
  ·exact .inl (oN c hc)
theorem Gi {p u:Rat}:∀ c∈bT (nT p u),NS c\/c=47\/c=64:=λc hc=>by
 have f:∀ {q:Rat},c∈bT (fT q)->NS c\/c=47\/c=64:=λh=>(zv c h).elim .inl λh=>.inr (.inl h)
 unfold nT at hc
 split at hc
 ·exact f hc
 ·rw [cD,cD] at hc;rcases List.mem_append.mp hc with hc | hc
  ·rcases List.mem_append.mp hc with hc | hc
   ·exact f hc
   ·exact .inr (.inr (by simpa using show c∈[64] from hc))
  ·exact f hc
theorem uL {x y:Str} {c:Nat} (h:c∉bT x):Txt.partition (x++tx [c]++y) (tx [c])=(x,tx [c],y):=by
 have e:x++tx [c]++y=tx (bT x++c::bT y):=fj (by rw [cD,cD,List.append_assoc]; rfl)
 rw [e,yl h,jJ,jJ]
def bS:bE:=λds S k=>∃ q:Rat,ds=[.str (fT q)]/\kE q/\∀ S',bh S S'->k (fr q) S'
theorem et:ao ["word","parts","fraction"] ["word"] (aj eR):=cG
theorem mE (Fn:FN K "fraction_read" eR f fd) (bi:bf P w K mg base "whole_read" 2 eY) (b5:bf P w K mg base "is_fraction" 2 gJ):
  aQ P w K mg base b8 3 f fd ["word"] (ca K bS):=by
 refine Fn.okJ et (λds S k h=>?_) (λcdv A outer s H E hr=>⟨_,(ag (am (i:=1) et.nd (cF PySem.F.slot_str_partition PySem.F.type_str_partition wB (af 0) (aa aG ac))) (ag (ay (au dX (aD aP (af 1) ae Zf) aG (ar _)) (ah (ai (aC (aa (dq bi hr (aH 0 ac)) (aa ae ac))))) az) (ag (am (i:=2) et.nd (aC (aa (dq bi hr (aa (aD aP (af 1) ae Zf) ac)) (aa (dq bi hr (aa (aD aP (af 1) ae Zf) ac)) ac)))) (ag (ay (WJ.pt (ce (aY (aL (dq b5 hr (aH 2 ac)))) (bI (au dX (aD aP (af 2) ae Zf) ae (ar _))))) (ah be) az) (ah (ai (af 2))))))),λds S k h=>?_⟩)
 ·obtain⟨_,rfl,_⟩:=h
  rfl
 ·obtain⟨q,rfl,hq,w⟩:=h;have hl:=jX hq;refine⟨rfl,nw (by omega),?_⟩
  by_cases e:q.den=1
  ·have ep:Txt.partition (fT q) (Str.ofString "/")=(wT q.num,Str.empty,Str.empty):=by
    unfold fT;rw [if_pos e,tE,rq λh=>j' (oN _ h) (.inl rfl) rfl]
   rw [ep];refine⟨_,rfl,?_⟩;have ef:fT q=wT q.num:=by unfold fT; rw [if_pos e]
   refine⟨q.num,by rw [ef],hq.n,λS1 e1=>?_⟩
   have:=w S1 e1;rw [show fr q=D.tup [.int q.num,.int 1] by show D.tup [.int q.num,.int (q.den:Nat)]=_; rw [e]; rfl] at this
   exact⟨few,this⟩
  ·have ep:Txt.partition (fT q) (Str.ofString "/")=(wT q.num,tx [47],wT (q.den:Int)):=by
    unfold fT;rw [if_neg e,tE,uL λh=>j' (oN _ h) (.inl rfl) rfl]
   rw [ep];refine⟨_,rfl,?_⟩;refine⟨_,rfl,q.num,rfl,hq.n,λS1 e1=>⟨_,rfl,(q.den:Int),rfl,hq.d,λS2 e2=>⟨few,q,rfl,?_⟩⟩⟩
   refine⟨_,rfl,aF (λz=>absurd (show q.den=1 from by have z:((q.den:Nat):Int)=1:=z; omega) e) (λ_=>w S2 (e1.trans e2))⟩
def kC:bE:=λds S k=>∃ u a b:Rat,ds=[.str (nT a (ss b*u))]/\Fd u/\Sm 300 a b/\kE a/\kE (ss b*u)/\∀ S',bh S S'->k (N u a b) S'
theorem f_:ao ["word","parts","number"] ["word"] (aj gO):=cG
theorem oJ (Fn:FN K "number_read" gO f fd) (aJ:bf P w K mg base "fraction_read" 3 bS) (bz:bf P w K mg base "is_plain" 1 fE) (jF:bf P w K mg base "is_number" 4 nR):
  aQ P w K mg base b8 5 f fd ["word"] (ca K kC):=by
 refine Fn.okJ f_ (λds S k h=>?_) (λcdv A outer s H E hr=>⟨_,(ag (am (i:=1) f_.nd (cF PySem.F.slot_str_partition PySem.F.type_str_partition wB (af 0) (aa aG ac))) (ag (ay (au dX (aD aP (af 1) ae Zf) aG (ar _)) (ah (ai (aC (aa (dq aJ hr (aH 0 ac)) (aa (aC (aa ae (aa ae ac))) ac))))) az) (ag (am (i:=2) f_.nd (aC (aa (dq aJ hr (aa (aD aP (af 1) ae Zf) ac)) (aa (dq aJ hr (aa (aD aP (af 1) ae Zf) ac)) ac)))) (ag (ay (WJ.pt (ce (aY (aL (dq jF hr (aH 2 ac)))) (bI (aL (dq bz hr (aH 2 ac)))))) (ah be) az) (ah (ai (af 2))))))),λds S k h=>?_⟩)
 ·obtain⟨_,_,_,rfl,_⟩:=h
  rfl
 ·obtain⟨u,a,b,rfl,fu,hs,ha,hu,w⟩:=h;have hl:=lj ha hu;refine⟨rfl,nw (by omega),?_⟩
  have n64:∀ {q:Rat},64∉bT (fT q):=λh=>(zv _ h).elim (λh=>j' h (.inr (.inl rfl)) rfl) (by decide)
  by_cases e:ss b*u=0
  ·have ef:nT a (ss b*u)=fT a:=by unfold nT; rw [if_pos e]
   rw [ef,rf,rq n64];refine⟨_,rfl,?_⟩;refine⟨a,rfl,ha,λS1 e1=>?_⟩
   have:=w S1 e1;rw [show N u a b=D.tup [fr a,fr 0] by show D.tup [fr a,fr (ss b*u)]=_; rw [e]] at this
   exact⟨few,few,this⟩
  ·have ef:nT a (ss b*u)=fT a++tx [64]++fT (ss b*u):=by unfold nT; rw [if_neg e]; rfl
   rw [ef,rf,uL n64];refine⟨_,rfl,?_⟩;refine⟨_,rfl,a,rfl,ha,λS1 e1=>⟨_,rfl,ss b*u,rfl,hu,λS2 e2=>⟨few,u,a,b,rfl,fu,hs,⟨fr a,ss b*u,rfl,?_⟩⟩⟩⟩
   rw [Ky e];exact w S2 (e1.trans e2)
def kS:bE:=λds S k=>∃ x:Str,ds=[.str x]/\k .non S
theorem ub:ao ["thing"] ["thing"] (aj lf):=cG
theorem uz (Fn:FN K "ask_text" lf f fd) (aw:mg "isinstance"=none) (jq:mg "str"=none):
  aQ P w K mg base b8 1 f fd ["thing"] (ca K kS):=by
 refine Fn.okJ ub (λds S k h=>?_) (λcdv A outer s H E hr=>⟨_,(ah (ay (aY (aL (aA eP rfl aw aU (aH 0 (aa (ic (n:=.str) rfl jq mK) ac))))) (ah be) az)),λds S k h=>?_⟩)
 ·obtain⟨_,rfl,_⟩:=h
  rfl
 ·obtain⟨x,rfl,w⟩:=h;exact⟨_,rfl,w⟩
theorem qZ:FL (Str.ofString " ") 0 32:=⟨rfl,λi hi z=>by
 have z:[32][i]?=some 32:=z;cases i with
 | zero=>exact hi rfl
 | succ i=>cases z⟩
theorem ze:FL (Str.ofString " ; ") 1 59:=⟨rfl,λi hi z=>by
 have z:[32,59,32][i]?=some 59:=z;rcases i with _ | _ | _ | i
 ·exact absurd z (by decide)
 ·exact hi rfl
 ·exact absurd z (by decide)
 ·cases z⟩
theorem sy {x y:Str} {o m:Nat} (sp:FL y o m) {ws:List Str} (ne:ws≠[]) (fr:∀ w∈ws,m∉bT w) (e:x=Str.join y ws) (hx:x.length<=100000) (hw:ws.length<=100000):(y.length == 0)=false/\x.length<=sizeLine/\(Builtin.Str.partsBetween x (Builtin.Str.occurrences x y 0 x.length (x.length+1)) y.length).length<=sizeLine/\(Txt.split x y).length<=sizeLine/\Txt.split x y=ws:=by
 obtain⟨e1,e2⟩:=u8 sp ne fr e;have hy:1<=y.length:=by
  obtain⟨z,_⟩:=Kl.mp sp.at_;rw [bF] at z;omega
 exact⟨by rw [beq_eq_false_iff_ne]; omega,nw hx,by rw [e2]; exact nw hw,by rw [e1]; exact nw hw,e1⟩
def lA:bE:=λds S k=>∃ (u a b c d:Rat),ds=[.str (nT a (ss b*u)++Str.ofString " "++nT c (ss d*u))]/\Fd u/\Sm 300 a b/\Sm 300 c d/\kE a/\kE (ss b*u)/\kE c/\kE (ss d*u)/\∀ S',bh S S'->k (.tup [N u a b,N u c d]) S'
theorem gC:ao ["text","words","point"] ["text"] (aj jd):=cG
theorem p4 (Fn:FN K "point_read" jd f fd) (eo:bf P w K mg base "ask_text" 1 kS) (eE:bf P w K mg base "number_read" 5 kC) (jU:bf P w K mg base "one_field" 4 nW) (aM:mg "len"=none):
  aQ P w K mg base b8 6 f fd ["text"] (ca K lA):=by
 refine Fn.okJ gC (λds S k h=>?_) (λcdv A outer s H E hr=>⟨_,(ag (bU (dq eo hr (aH 0 ac))) (ag (am (i:=1) gC.nd (cF PySem.F.slot_str_split PySem.F.type_str_split pF (af 0) (aa aG ac))) (ag (ay (au kN (aA jM rfl aM bJ (aH 1 ac)) ae (ar _)) (ah be) az) (ag (am (i:=2) gC.nd (aC (aa (dq eE hr (aa (aD aP (af 1) ae Zf) ac)) (aa (dq eE hr (aa (aD aP (af 1) ae Zf) ac)) ac)))) (ag (ay (aY (aL (dq jU hr (aa (aD aP (af 2) ae Zf) (aa (aD aP (af 2) ae Zf) ac))))) (ah be) az) (ah (ai (af 2)))))))),λds S k h=>?_⟩)
 ·obtain⟨_,_,_,_,_,rfl,_⟩:=h
  rfl
 ·obtain⟨u,a,b,c,d,rfl,fu,h1,h2,s1,s2,s3,s4,w⟩:=h;have l1:=lj s1 s2;have l2:=lj s3 s4;obtain⟨o1,o2,o3,o4,o5⟩:=sy (x:=nT a (ss b*u)++Str.ofString " "++nT c (ss d*u)) qZ (ws:=[nT a (ss b*u),nT c (ss d*u)]) (by simp) (λx hx=>by
   have:x=nT a (ss b*u)\/x=nT c (ss d*u):=by simpa using hx
   intro z;rcases this with rfl | rfl <;> rcases Gi _ z with z | z | z
   all_goals first | exact j' z (.inr (.inr (.inl rfl))) rfl | exact absurd z (by decide)) rfl (by rw [cj,cj,eA]; omega) (by show 2<=100000; decide)
  refine⟨_,rfl,o1,o2,o3,o4,λp hp=>?_⟩
  rw [o5];refine⟨_,ak,?_⟩;refine⟨_,_,ak,bq,u,a,b,rfl,fu,h1,s1,s2,λS1 e1=>⟨_,_,e1 _ _ ak,m_,u,c,d,rfl,fu,h2,s3,s4,λS2 e2=>⟨few,_,bq,_,m_,u,a,b,c,d,rfl,fu.pos,fu.sz,h1.b,h2.b,?_⟩⟩⟩
  exact w _ ((bh.new hp).trans (e1.trans e2))
inductive gW (p:KN) (V:α->List D) (S:DH):List KN->List α->Prop
 | nil:gW p V S [] []
 | cons {a:KN} {x:α} {l:List KN} {r:List α}:a≠p->S a=some (.lst (V x))->gW p V S l r->gW p V S (a::l) (x::r)
theorem gW.app {α:Type} {p:KN} {V:α->List D} {S:DH} {l l':List KN} {r r':List α} (h:gW p V S l r) (h':gW p V S l' r'):gW p V S (l++l') (r++r'):=by
 induction h with
 | nil=>exact h'
 | cons n e _ i=>exact .cons n e i
theorem gW.ext {α:Type} {p:KN} {V:α->List D} {S S':DH} {l:List KN} {r:List α} (h:gW p V S l r) (e:bh S S'):gW p V S' l r:=by
 induction h with
 | nil=>exact .nil
 | cons n z _ i=>exact .cons n (e _ _ z) i
theorem gW.put {α:Type} {p:KN} {V:α->List D} {S:DH} {l:List KN} {r:List α} {o:DO} (h:gW p V S l r):gW p V (put S p o) l r:=by
 induction h with
 | nil=>exact .nil
 | cons n z _ i=>exact .cons n (by rw [cm n]; exact z) i
theorem C2 {α:Type} {f:α->D} {V:α->List D} {all:List α} {S:DH} {p:KN} {ok:DH->Prop} {bd:DB} {k:DK} {L1:Lo} (hp:S p=none) (hok:∀ S',bh S S'->ok S')
  (hbd:∀ (x:α) (S':DH) (k':KO D->DH->Prop),x∈all->bh S S'->(∀ a S2,bh S' S2->S' a=none->S2 a=some (.lst (V x))->k' (some (.ref a)) S2)->bd (some (f x)::L1) S' k'):
  ∀ (r:List α) (d:List α) (acc:List KN) (l0:KO D) (S1:DH),(∀ x∈r,x∈all)->bh S S1->S1 p=some (.lst (acc.map .ref))->gW p V S1 acc d->acc.length+r.length<=1000->(∀ as S',bh S S'->S' p=some (.lst (as.map .ref))->gW p V S' as (d++r)->k (.ref p) S')->bK ok p (eV 0) bd k (r.map f) (acc.map .ref) (l0::L1) S1
 | [],d,acc,l0,S1,_,e1,h1,ha,_,w=>⟨hok _ e1,w acc _ e1 h1 (by rw [Ke]; exact ha)⟩
 | x::r,d,acc,l0,S1,hr,e1,h1,ha,hl,w=>by
  have hl:acc.length+(r.length+1)<=1000:=hl;refine⟨hok _ e1,hbd x _ _ (hr x J4) e1 λa S2 e2 an av=>⟨e2 _ _ h1,vL (by rw [JZ]; omega),?_⟩⟩
  have ap:a≠p:=λz=>by rw [z,h1] at an; cases an
  have em:acc.map D.ref++[D.ref a]=(acc++[a]).map D.ref:=by rw [List.map_append]; rfl
  rw [em];exact C2 hp hok hbd r (d++[x]) (acc++[a]) _ _ (λy hy=>hr y (J5 _ hy)) ((e1.trans e2).put hp) ak ((ha.ext e2).app (.cons ap av .nil)).put (by rw [Kc]; show acc.length+1+r.length<=1000; omega) λas S' e h q=>w as S' e h (by rw [List.append_assoc] at q; exact q)
def rh (r:List It):List D:=r.map λi=>.str i.t
theorem yR {y:List Nat} {c:Nat}:∀ {l:List (List Nat)},c∈jn y l->c∈y\/∃ q∈l,c∈q
 | [],h=>by cases h
 | [q],h=>.inr ⟨q,J4,h⟩
 | q::q'::l,h=>by
  have h:c∈q++y++jn y (q'::l):=h;rcases List.mem_append.mp h with h | h
  ·rcases List.mem_append.mp h with h | h
   ·exact .inr ⟨q,J4,h⟩
   ·exact .inl h
  ·rcases yR h with h | ⟨z,hz,h⟩
   ·exact .inl h
   ·exact .inr ⟨z,J5 _ hz,h⟩
theorem y8 {y:Str} {ws:List Str} {c:Nat} (h:c∈bT (Str.join y ws)):c∈bT y\/∃ w∈ws,c∈bT w:=by
 rw [j6] at h;rcases yR h with h | ⟨q,hq,h⟩
 ·exact .inl h
 ·obtain⟨w,hw,rfl⟩:=JY.mp hq;exact .inr ⟨w,hw,h⟩
def CF (i:It):Prop:=∀ x,i=.s x->∀ c∈bT x,97<=c/\c<=122
theorem C3 {i:It} (h:CF i):∀ c∈bT i.t,c≠32/\c≠59:=λc hc=>by
 cases i with
 | s x=>have:=h x rfl c hc; omega
 | w n=>exact⟨j' (oN c hc) (.inr (.inr (.inl rfl))),j' (oN c hc) (.inr (.inr (.inr rfl)))⟩
 | f q => rcases zv c hc with h | h
          · exact⟨j' h (.inr (.inr (.inl rfl))),j' h (.inr (.inr (.inr rfl)))⟩
          · omega
structure Rw (r:List It):Prop where
 ne:r≠[]
 few:r.length<=9
 all:∀ i∈r,i.ok/\CF i
theorem Rw.semi {r:List It} (h:Rw r):59∉bT (rT r):=λz=>by
 rcases y8 z with z | ⟨w,hw,z⟩
 ·exact absurd (show 59∈[32] from z) (by decide)
 ·obtain⟨i,hi,rfl⟩:=JY.mp hw;exact(C3 (h.all i hi).2 _ z).2 rfl
theorem Rw.len {r:List It} (h:Rw r):(rT r).length<=9*91:=by
 refine Kn (mf (b:=90) λw hw=>?_) ?_
 ·obtain⟨i,hi,rfl⟩:=JY.mp hw;exact It.len (h.all i hi).1
 ·rw [eA,JZ];exact Nat.mul_le_mul_right _ h.few
theorem Ek {rs:List (List It)} (hl:rs.length<=40) (hr:∀ r∈rs,Rw r):(tT rs).length<=100000:=by
 refine Kn (mf (b:=9*91) λw hw=>?_) ?_
 ·obtain⟨r,h,rfl⟩:=JY.mp hw;exact(hr r h).len
 ·rw [JZ];exact Kn (Nat.mul_le_mul_right _ hl) (by decide)
def ke:bE:=λds S k=>∃ rs:List (List It),ds=[.str (tT rs)]/\rs≠[]/\rs.length<=40/\(∀ r∈rs,Rw r)/\∀ p as S',bh S S'->S p=none->S' p=some (.lst (as.map .ref))->gW p rh S' as rs->k (.ref p) S'
theorem uX:ao ["text"] ["text"] (aj mU):=cG
theorem vN (Fn:FN K "rows_of" mU f fd) (eo:bf P w K mg base "ask_text" 1 kS):
  aQ P w K mg base b8 2 f fd ["text"] (ca K ke):=by
 refine Fn.okJ uX (λds S k h=>?_) (λcdv A outer s H E hr=>⟨_,(ag (bU (dq eo hr (aH 0 ac))) (ah (ai (dN rfl (dk (N:=["row"]) (cap:=[none]) rfl rfl rfl rfl trivial rfl rfl trivial) (cF PySem.F.slot_str_split PySem.F.type_str_split pF (af 0) (aa aG ac)) (λ_ _ _ _=>(aO (i:=0) (show List.Nodup (["row"]:List Str) from by decide +kernel))) (λ_ _ _ _=>(cF PySem.F.slot_str_split PySem.F.type_str_split pF (af 0) (aa aG ac))))))),λds S k h=>?_⟩)
 ·obtain⟨_,rfl,_⟩:=h
  rfl
 ·obtain⟨rs,rfl,hne,hl,hr,w⟩:=h;obtain⟨o1,o2,o3,o4,o5⟩:=sy (x:=tT rs) ze (ws:=rs.map rT) (by simpa using hne) (λx hx=>by
   obtain⟨r,hr',rfl⟩:=JY.mp hx;exact(hr r hr').semi) rfl (Ek hl hr) (by rw [JZ]; omega)
  refine⟨_,rfl,o1,o2,o3,o4,λp hp=>?_⟩
  have em:(rs.map rT).map D.str=rs.map λr=>D.str (rT r):=by rw [Kq]; rfl
  rw [o5,em];refine⟨(rs.map λr=>D.str (rT r),some p),by simp only [aI,ak],λp2 hp2=>?_⟩
  have hp2':S p2=none:=(bh.new hp).none hp2;refine C2 (f:=λr=>D.str (rT r)) (V:=rh) (all:=rs) (L1:=[]) hp2 (λS' e=>e _ _ ak) ?bb rs [] [] none _ (λ_ h=>h) (bh.new hp2) ak .nil (by show 0+rs.length<=1000; omega) λas S1 e1 h1 h2=>w p2 as S1 ((bh.new hp).trans e1) hp2' h1 h2
  intro r S' k' hi e hk;have h:=hr r hi;obtain⟨o1,o2,o3,o4,o5⟩:=sy (x:=rT r) qZ (ws:=r.map It.t) (by simpa using h.ne) (λx hx=>by
   obtain⟨i,hi,rfl⟩:=JY.mp hx;exact λz=>(C3 (h.all i hi).2 _ z).1 rfl) rfl (Kn h.len (by decide)) (by rw [JZ]; have:=h.few; omega)
  refine⟨o1,o2,o3,o4,λp3 hp3=>?_⟩
  rw [o5];exact hk p3 _ (bh.new hp3) hp3 (by rw [ak,Kq]; rfl)
set_option maxHeartbeats 4000000
theorem oH {A B:Prop} (f:B->A) (h:B):A:=f h
inductive bu where
 | fix (x y:Rat)
 | crank (c:Nat) (l:Rat)
 | pair (i j:Nat) (s t:Rat) (v:Int)
 | like (i j:Nat) (a l:Rat)
def bu.d:bu->D
 | .fix x y=>.tup [.str "fix",fr x,fr y]
 | .crank c l=>.tup [.str "crank",.int (c:Nat),fr l]
 | .pair i j s t v=>.tup [.str "pair",.int (i:Nat),.int (j:Nat),fr s,fr t,.int v]
 | .like i j a l=>.tup [.str "like",.int (i:Nat),.int (j:Nat),fr a,fr l]
def bu.isFix:bu->KY
 | .fix _ _=>true
 | _=>false
abbrev MD (ms:List bu):D:=.tup (ms.map bu.d)
def pJ (pre:List bu):bu->Prop
 | .fix x y=>Sz 4 x/\Sz 4 y
 | .crank c l=>(∃ x y,pre[c]?=some (.fix x y))/\Sz 4 l/\0 < l
 | .pair i j s t v=>i < pre.length/\j < pre.length/\i≠j/\Sz 8 s/\Sz 8 t/\0 < s/\0 < t/\(v=0\/v=1)
 | .like i j a l=>i < pre.length/\j < pre.length/\i≠j/\Sz 4 a/\Sz 4 l
def Wf (ms:List bu):Prop:=∀ (k:Nat) (s:bu),ms[k]?=some s->pJ (ms.take k) s
theorem Wf.nil:Wf []:=λk s h=>by simp at h
theorem Wf.snoc {ms:List bu} {s:bu} (h:Wf ms) (hs:pJ ms s):Wf (ms++[s]):=by
 intro k t hk
 by_cases hl:k < ms.length
 ·rw [List.getElem?_append_left hl] at hk;rw [List.take_append_of_le_length (Nat.le_of_lt hl)];exact h k t hk
 ·have hk2:=(Kl.mp hk).1;have hk3:k < ms.length+1:=by simpa using hk2
  have e:k=ms.length:=by omega
  subst e;rw [List.getElem?_append_right (JX _),Nat.sub_self] at hk;have hk:some s=some t:=hk;cases hk;rw [List.take_append_of_le_length (JX _),List.take_length];exact hs
theorem IX {ms:List bu} {c:Nat} {s:bu} (h:ms[c]?=some s):L2.atI (ms.map bu.d) ((c:Nat):Int)=some s.d:=L2.fk (by rw [Ki,h]; rfl)
def fO:Nat->List bu->List D
 | _,[]=>[]
 | j,s::r=>if s.isFix=true then .int (j:Nat)::fO (j+1) r else fO (j+1) r
theorem mZ {d:D}:∀ {r:List bu} {j:Nat},d∈fO j r->∃ n x y,d=.int ((j+n:Nat):Int)/\r[n]?=some (.fix x y)
 | [],_,h=>by cases h
 | s::r,j,h=>by
  unfold fO at h
  split at h
  ·rename_i hf
   rcases J2.mp h with rfl | h
   ·cases s with
    | fix x y=>exact⟨0,x,y,rfl,rfl⟩
    | _=>cases hf
   ·obtain⟨n,x,y,rfl,e⟩:=mZ h;exact⟨n+1,x,y,by congr 2; omega,by simpa using e⟩
  ·obtain⟨n,x,y,rfl,e⟩:=mZ h;exact⟨n+1,x,y,by congr 2; omega,by simpa using e⟩
theorem qR:∀ {r:List bu} {j:Nat},(fO j r).length<=r.length
 | [],_=>JX _
 | s::r,j=>by
  unfold fO;have:=qR (r:=r) (j:=j+1)
  split
  ·show(fO (j+1) r).length+1<=r.length+1; omega
  ·show(fO (j+1) r).length<=r.length+1; omega
theorem rm {ms r:List bu} {s:bu} {j:Nat} (h:ms.drop j=s::r):ms[j]?=some s/\ms.drop (j+1)=r:=by
 have h0:(ms.drop j)[0]?=some s:=by rw [h]; rfl
 rw [List.getElem?_drop,Nat.add_zero] at h0;refine⟨h0,?_⟩;have h1:=congrArg (List.drop 1) h;rw [List.drop_drop] at h1;exact h1
theorem AN {n:Nat} (h:n < 300):n < sizeLine:=J6 h (Kb (rfl:Nat.ble 300 sizeLine=true))
def bu.r:bu->List It
 | .fix x y=>[.s "fix",.f x,.f y]
 | .crank c l=>[.s "crank",.w (c:Nat),.f l]
 | .pair i j s t v=>[.s "pair",.w (i:Nat),.w (j:Nat),.f s,.f t,.w v]
 | .like i j a l=>[.s "like",.w (i:Nat),.w (j:Nat),.f a,.f l]
theorem bu.rd (s:bu):rD s.r=s.d:=by cases s <;> rfl
def bu.x:bu->Str
 | .fix _ _=>"fix"
 | .crank _ _=>"crank"
 | .pair _ _ _ _ _=>"pair"
 | .like _ _ _ _=>"like"
def bu.tl:bu->List It
 | .fix x y=>[.f x,.f y]
 | .crank c l=>[.w (c:Nat),.f l]
 | .pair i j s t v=>[.w (i:Nat),.w (j:Nat),.f s,.f t,.w v]
 | .like i j a l=>[.w (i:Nat),.w (j:Nat),.f a,.f l]
theorem bu.rx (s:bu):s.r=.s s.x::s.tl:=by cases s <;> rfl
def bu.at:bu->List D
 | .fix _ _=>[]
 | .crank _ _=>[.int 1]
 | .pair _ _ _ _ _=>[.int 1,.int 2,.int 5]
 | .like _ _ _ _=>[.int 1,.int 2]
theorem bu.look (s:bu):([(Str.ofString "crank",D.tup (List.map D.int [1])),(Str.ofString "pair",D.tup (List.map D.int [1,2,5])),(Str.ofString "like",D.tup (List.map D.int [1,2]))].lookup s.x).getD (D.tup [])=.tup s.at:=by cases s <;> rfl
theorem bu.mem {s:bu} {j:Nat} {i:It} (h:s.tl[j]?=some i):((∃ n,i=.w n)/\CQ (Bc (.int ((j+1:Nat):Int))) (s.at.map Bc)=true)\/((∃ q,i=.f q)/\CQ (Bc (.int ((j+1:Nat):Int))) (s.at.map Bc)=false):=by
 cases s with
 | fix x y=>
  rcases j with _ | _ | j
  all_goals first | (cases h; first | exact .inr ⟨⟨_,rfl⟩,rfl⟩ | exact .inl ⟨⟨_,rfl⟩,rfl⟩) | cases h
 | crank c l=>
  rcases j with _ | _ | j
  all_goals first | (cases h; first | exact .inr ⟨⟨_,rfl⟩,rfl⟩ | exact .inl ⟨⟨_,rfl⟩,rfl⟩) | cases h
 | pair a b s t v=>
  rcases j with _ | _ | _ | _ | _ | j
  all_goals first | (cases h; first | exact .inr ⟨⟨_,rfl⟩,rfl⟩ | exact .inl ⟨⟨_,rfl⟩,rfl⟩) | cases h
 | like a b s t=>
  rcases j with _ | _ | _ | _ | j
  all_goals first | (cases h; first | exact .inr ⟨⟨_,rfl⟩,rfl⟩ | exact .inl ⟨⟨_,rfl⟩,rfl⟩) | cases h
def nQ:bE:=λds S k=>∃ (a:KN) (s:bu),ds=[.ref a]/\S a=some (.lst (rh s.r))/\(∀ i∈s.r,i.ok)/\∀ S',bh S S'->k s.d S'
theorem fe:ao ["words","step","at","word"] ["words"] (aj jK):=cG
theorem sA (Fn:FN K "step_read" jK f fd) (bi:bf P w K mg base "whole_read" 2 eY) (aJ:bf P w K mg base "fraction_read" 3 bS) (du:mg "enumerate"=none) (aK:mg "tuple"=none) (kM:A7 K mg w "WHOLE_AT" [("crank",.tup (List.map D.int [1])),("pair",.tup (List.map D.int [1,2,5])),("like",.tup (List.map D.int [1,2]))]):
  aQ P w K mg base b8 4 f fd ["words"] (ca K nQ):=by
 refine Fn.okJ fe (λds S k h=>?_) (λcdv A outer s H E hr=>⟨_,(ag (am (i:=1) fe.nd (cn (aa (aD aP (af 0) ae Zf) ac))) (ag (vY PassesOwn.never rfl rfl du (aa (oy (af 0) (c7 ae) eL) ac) ae (r_ (n:=2) rfl (fz (aO (i:=2) fe.nd) (fz (aO (i:=3) fe.nd) pj))) (ah (bU (gX (af 1) (pH (au GL (af 2) (xb kM rfl (aa (aD aP (af 0) ae Zf) (aa (aC ac) ac))) (by with_unfolding_all rfl)) (dq bi hr (aH 3 ac)) (dq aJ hr (aH 3 ac))))))) (ah (ai (bC kd rfl aK cw (aH 1 ac)))))),λds S k h=>?_⟩)
 ·obtain⟨_,_,rfl,_⟩:=h
  rfl
 ·obtain⟨a,s,rfl,ha,hs,w⟩:=h;rw [<- s.rd,s.rx] at w;rw [s.rx] at ha hs
  have hl:s.tl.length<=5:=by cases s <;> exact Kb rfl
  refine⟨_,_,ha,bq,few,λp hp=>⟨_,(bh.new hp) _ _ ha,λc hc=>?_⟩⟩
  have ec:DL.jt (rh (It.s s.x::s.tl)) (some 1) none=rh s.tl:=zY;rw [ec];have hc0:S c=none:=(bh.new hp).none hc;have hcp:c≠p:=λz=>by rw [z,ak] at hc; cases hc
  refine⟨_,ak,fo (λr' L S'=>∃ (dn rs:List It) (l2 l3:KO D),L=[some (.ref a),some (.ref p),l2,l3]/\bh S S'/\S' c=some (.lst (rh s.tl))/\S' p=some (.lst (.str s.x::dn.map It.d))/\r'=jH (dn.length+1) (rh rs)/\dn++rs=s.tl) (λr L S' h=>by obtain⟨_,_,_,_,_,_,h,_⟩:=h; exact h) ?_ ?_ _ _ _ ⟨[],s.tl,none,none,rfl,(bh.new hp).trans (bh.new hc),ak,(by rw [cm (Ne.symm hcp)]; exact ak),rfl,rfl⟩⟩
  ·rintro d r' L S1 N1 ⟨dn,rs,l2,l3,rfl,e1,h1,h2,er,ee⟩ hN;cases rs with
   | nil=>cases er
   | cons i rs=>
    cases er;have hi:s.tl[dn.length]?=some i:=by rw [<- ee]; simp
    have hok:i.ok:=hs i (J5 _ (List.mem_of_getElem? hi))
    have hd : dn.length < 6 := by have : dn.length + (rs.length + 1) = s.tl.length := by rw [← ee, List.length_append]; rfl
                                  omega
    refine⟨([.int ((dn.length+1:Nat):Int),.str i.t],none),rfl,rfl,rfl,⟨_,h2⟩,?_⟩;refine⟨_,_,e1 _ _ ha,bq,few,?_⟩;refine⟨(s.at,none),(congrArg (aI S1) s.look).trans rfl,rfl,by cases s <;> rfl,?_⟩
    have fin:∀ S2,bh S1 S2->∃ ds,S2 p=some (.lst ds)/\ds.length < sizeLine/\N1 [some (.ref a),some (.ref p),some (.int ((dn.length+1:Nat):Int)),some (.str i.t)] (put S2 p (.lst (ds++[i.d]))):=λS2 e2=>by
     refine⟨_,e2 _ _ h2,vL (by rw [J9,JZ]; omega),hN _ _ ⟨dn++[i],rs,_,_,rfl,(e1.trans e2).put hp,by rw [cm hcp]; exact e2 _ _ h1,by rw [ak,List.map_append]; rfl,by rw [Kc]; rfl,by rw [List.append_assoc]; exact ee⟩⟩
    rcases bu.mem hi with ⟨⟨n,rfl⟩,hm⟩ | ⟨⟨q,rfl⟩,hm⟩
    ·refine cz (c:=CQ _ _) (λ_=>⟨n,rfl,hok,fin⟩) (λz=>?_)
     rw [hm] at z;cases z
    ·refine cz (c:=CQ _ _) (λz=>?_) (λ_=>⟨q,rfl,hok,fin⟩)
     rw [hm] at z;cases z
  ·rintro L S1 ⟨dn,rs,l2,l3,rfl,e1,h1,h2,er,ee⟩;cases rs with
   | cons _ _=>cases er
   | nil=>
    rw [Ke] at ee;rw [ee] at h2;exact⟨_,h2,w S1 e1⟩
theorem gW.zip {β:Type} {p0:KN} {V:List It->List D} {R:β->List It} {S:DH}:∀ (as:List KN) (al:List β),gW p0 V S as (al.map R)->∃ zs:List (KN×β),as=zs.map (·.1)/\al=zs.map (·.2)/\∀ z∈zs,S z.1=some (.lst (V (R z.2))):=by
 intro as al
 induction al generalizing as with
 | nil=>
  intro h;cases h;exact⟨[],rfl,rfl,λ_ h=>by cases h⟩
 | cons x al i=>
  intro h;cases h with
  | @cons a _ l _ n e h=>
   obtain⟨zs,e1,e2,e3⟩:=i _ h;refine⟨(a,x)::zs,by rw [e1]; rfl,by rw [e2]; rfl,λz hz=>?_⟩
   rcases J2.mp hz with rfl | hz
   ·exact e
   ·exact e3 z hz
theorem CI {β:Type} {V:List It->List D} {R:β->List It} {g:β->D} {all:List β} {S:DH} {p0 p:KN} {as:List KN} {bd:DB} {k:DK} {L1:Lo} (hp:S p=none) (h0:S p0=some (.lst (as.map .ref))) (ha:gW p0 V S as (all.map R)) (hl:all.length<=1000)
  (hbd:∀ (a:KN) (x:β) (S':DH) (k':KO D->DH->Prop),x∈all->bh S S'->S' a=some (.lst (V (R x)))->(∀ S2,bh S' S2->k' (some (g x)) S2)->bd (some (.ref a)::L1) S' k')
  (w:∀ S',bh S S'->S' p=some (.lst (all.map g))->k (.ref p) S'):bK (eK (as.map .ref,some p0)) p (eV 0) bd k (as.map .ref) [] (none::L1) (put S p (.lst [])):=by
 obtain⟨zs,e1,e2,e3⟩:=gW.zip as all ha;have em:as.map D.ref=zs.map λz=>D.ref z.1:=by rw [e1,Kq]; rfl
 have eg:all.map g=zs.map λz=>g z.2:=by rw [e2,Kq]; rfl
 have hz:zs.length<=1000:=by rw [e2,JZ] at hl; exact hl
 have hok:∀ S',bh S S'->eK (as.map D.ref,some p0) S':=λS' e=>e _ _ h0
 have t:=lD (f:=λz:KN×β=>D.ref z.1) (g:=λz=>g z.2) (all:=zs) (bd:=bd) (k:=k) (L1:=L1) hp hok (λz S' k' hz e hk=>hbd z.1 z.2 S' k' (by rw [e2]; exact JY.mpr ⟨z,hz,rfl⟩) e (e _ _ (e3 z hz)) hk) zs [] none _ (λ_ h=>h) (bh.new hp) ak (by show 0+zs.length<=1000; omega) λS' e h=>w S' e (by rw [h,eg]; rfl)
 rw [<- em] at t;exact t
theorem GH {S:DH} (i:It):El S i.d:=by
 cases i with
 | s x=>exact⟨⟨.str,rfl⟩,λds z=>(by cases z),λa z=>(by cases z)⟩
 | w n=>exact⟨⟨.int,rfl⟩,λds z=>(by cases z),λa z=>(by cases z)⟩
 | f q=>
  refine⟨⟨.tup,rfl⟩,λds z x hx=>?_,λa z=>by cases z⟩
  cases z;simp only [J2,Ka,or_false] at hx;rcases hx with rfl | rfl <;> exact⟨.int,rfl⟩
theorem Hg {S:DH} (ms:List bu):Th S (MD ms):=by
 refine⟨⟨.tup,rfl⟩,λds z x hx=>?_⟩
 cases z;obtain⟨s,_,rfl⟩:=JY.mp hx;rw [<- s.rd];refine⟨⟨.tup,rfl⟩,λds z x hx=>?_⟩
 cases z;obtain⟨i,_,rfl⟩:=JY.mp hx;exact GH i
def jV:bE:=λds S k=>∃ (ms:List bu),ds=[.str (tT (ms.map bu.r))]/\1<=ms.length/\ms.length<=7/\(∀ s∈ms,Rw s.r)/\xf (MD ms)=true/\∀ S',bh S S'->k (MD ms) S'
theorem jp:ao ["text","machine"] ["text"] (aj fP):=cG
theorem ox (Fn:FN K "machine_read" fP f fd) (cP:bf P w K mg base "rows_of" 2 ke) (jG:bf P w K mg base "step_read" 4 nQ) (iU:bf P w K mg base "is_machine" 6 lW) (aK:mg "tuple"=none):
  aQ P w K mg base b8 7 f fd ["text"] (ca K jV):=by
 refine Fn.okJ jp (λds S k h=>?_) (λcdv A outer s H E hr=>⟨_,(ag (am (i:=1) jp.nd (bC kd rfl aK cw (aa (dN rfl (dk (N:=["words"]) (cap:=[none]) rfl rfl rfl rfl trivial rfl rfl trivial) (dq cP hr (aH 0 ac)) (λ_ _ _ _=>(aO (i:=0) (show List.Nodup (["words"]:List Str) from by decide +kernel))) (λ_ _ _ _=>(dq jG hr (aH 0 ac)))) ac))) (ag (ay (aY (aL (dq iU hr (aH 1 ac)))) (ah be) az) (ah (ai (af 1))))),λds S k h=>?_⟩)
 ·obtain⟨_,rfl,_⟩:=h
  rfl
 ·obtain⟨ms,rfl,m1,m7,hr,hm,w⟩:=h;have ne:ms.map bu.r≠[]:=by intro z; rw [List.map_eq_nil_iff] at z; rw [z] at m1; exact absurd m1 (by decide)
  refine⟨ms.map bu.r,rfl,ne,by rw [JZ]; omega,λr hr'=>?_,λp as S1 e1 hp hp1 ha=>?_⟩
  ·obtain⟨s,hs,rfl⟩:=JY.mp hr';exact hr s hs
  ·refine⟨(as.map .ref,some p),by simp only [aI,hp1],λp2 hp2=>?_⟩
   refine CI (V:=rh) (R:=bu.r) (g:=bu.d) (all:=ms) hp2 hp1 ha (by omega) (λa x S' k' hx e h hk=>?_) λS2 e2 h2=>?_
   ·exact⟨a,x,rfl,h,λi hi=>((hr x hx).all i hi).1,hk⟩
   ·refine⟨_,h2,MD ms,rfl,Hg ms,?_⟩;rw [hm];exact w S2 (e1.trans e2)
structure Le where
 x:Str
 qs:List Rat
inductive FP:Str->List Rat->Prop
 | shift (x y:Rat):FP "shift" [x,y]
 | grow (x y b:Rat):b≠0->FP "grow" [x,y,b]
 | turn (x y p q:Rat):p*p+q*q=1->FP "turn" [x,y,p,q]
 | mirror (a b c:Rat):a≠0\/b≠0->FP "mirror" [a,b,c]
 | invert (x y p:Rat):p≠0->FP "invert" [x,y,p]
structure Le.ok (l:Le):Prop where
 r:FP l.x l.qs
 z:∀ q∈l.qs,Sz 6 q
def Le.r (l:Le):List It:=.s l.x::l.qs.map .f
abbrev Le.d (l:Le):D:=rD l.r
theorem Le.ok.rw {l:Le} (h:l.ok):Rw l.r:=by
 obtain⟨x,qs⟩:=l;have hq:∀ i∈qs.map It.f,i.ok/\CF i:=λi hi=>by
  obtain⟨q,hq,rfl⟩:=JY.mp hi;exact⟨fQ (h.z q hq) (by decide),λx z=>by cases z⟩
 have hx:(It.s x).ok/\CF (It.s x):=by
  have key:x.length<=90/\∀ c∈bT x,97<=c/\c<=122:=by
   cases h.r <;> exact⟨Kb rfl,by decide⟩
  exact⟨key.1,λy z=>by cases z; exact key.2⟩
 refine⟨by unfold Le.r; simp,?_,λi hi=>?_⟩
 ·cases h.r <;> exact Kb rfl
 ·rcases J2.mp hi with rfl | hi
  ·exact hx
  ·exact hq i hi
theorem iB {q:Rat} (h:q≠0):q.num≠0:=λz=>h (Rat.num_eq_zero.mp z)
def mG:bE:=λds S k=>∃ (l:Le),ds=[l.d]/\l.ok/\k (.bl true) S
theorem vn:ao ["thing"] ["thing"] (aj mL):=cG
theorem wj (Fn:FN K "is_lead" mL f fd) (dS:bf P w K mg base "product_of_ways" 4 gu) (aM:mg "len"=none) (db:A7 K mg w "FRACTIONS_BEHIND" [("shift",.int 2),("grow",.int 3),("turn",.int 4),("mirror",.int 3),("invert",.int 3)]) (zD:Fe K mg "ONE" [1,1]):
  aQ P w K mg base b8 5 f fd ["thing"] (ca K mG):=by
 refine Fn.okJ vn (λds S k h=>?_) (λcdv A outer s H E hr=>⟨_,(ag (ay (au (uM hr) (xb db rfl (aa (aD aP (af 0) ae Zf) ac)) (aB o_ (aA jM rfl aM bJ (aH 0 ac)) ae) (ar _)) (ah (ai cr)) az) (ag (ay (au (qB hr) (aD aP (af 0) ae Zf) aG (ar _)) (ah (ai cr)) az) (ag (ay (au (qB hr) (aD aP (af 0) ae Zf) aG (ar _)) (ah (ai (b_ (qB hr) (dq dS hr (aa (oy (af 0) (c7 ae) eL) (aa (oy (af 0) (c7 ae) eL) ac))) (Da zD rfl) (ar _)))) az) (ag (ay (au (qB hr) (aD aP (af 0) ae Zf) aG (ar _)) (ah (ai (CV (b_ (uM hr) (aD aP (aD aP (af 0) ae Zf) ae Zf) ae (ar _)) (dR (b_ (uM hr) (aD aP (aD aP (af 0) ae Zf) ae Zf) ae (ar _)))))) az) (ah (ai (b_ (uM hr) (aD aP (aD aP (af 0) ae Zf) ae Zf) ae (ar _)))))))),λds S k h=>?_⟩)
 ·obtain⟨_,rfl,_⟩:=h
  rfl
 ·obtain⟨⟨x,qs⟩,rfl,⟨hr,hz⟩,w⟩:=h;cases hr with
  | shift x y=>exact⟨_,bq,true,rfl,_,bq,true,rfl,w⟩
  | grow x y b h=>
   refine⟨_,bq,true,rfl,?_⟩;refine⟨_,bq,false,rfl,?_⟩;refine⟨_,bq,false,rfl,?_⟩;refine⟨_,bq,false,rfl,?_⟩;refine⟨_,Eu,_,bq,false,?_,w⟩
   show some (decide (b.num=0))=some false
   rw [Ky (iB h)]
  | turn x y p q h=>
   refine⟨_,bq,true,rfl,?_⟩;refine⟨_,bq,false,rfl,?_⟩;refine⟨_,bq,true,rfl,?_⟩;have zp:Sz 900 p:=(hz p (by simp)).mono (by decide)
   have zq:Sz 900 q:=(hz q (by simp)).mono (by decide)
   have nc:∀ (d0 d1 d2 d3 d4:D),¬ (HT.cI [d0,d1,d2,d3,d4].length 0 (some 3)=0/\HT.cI [d0,d1,d2,d3,d4].length [d0,d1,d2,d3,d4].length none=[d0,d1,d2,d3,d4].length):=λ_ _ _ _ _ z=>absurd (show (3:Nat)=0 from z.1) (by decide)
   refine⟨nc _ _ _ _ _,nc _ _ _ _ _,p,q,p,q,rfl,zp,zq,zp,zq,true,?_,w⟩;rw [h]
   rfl
  | mirror a b c h=>
   refine⟨_,bq,true,rfl,?_⟩;refine⟨_,bq,false,rfl,?_⟩;refine⟨_,bq,false,rfl,?_⟩;refine⟨_,bq,true,rfl,?_⟩;refine⟨_,m_,_,bq,decide (a.num=0),rfl,?_⟩;refine cz (c:=!decide (a.num=0)) (λ_=>w) (λz=>?_)
   have a0:a=0:=Rat.num_eq_zero.mp (by simpa using z)
   refine⟨_,Cz,_,bq,false,?_,w⟩
   show some (decide (b.num=0))=some false
   rw [Ky (iB (h.resolve_left λn=>n a0))]
  | invert x y p h=>
   refine⟨_,bq,true,rfl,?_⟩;refine⟨_,bq,false,rfl,?_⟩;refine⟨_,bq,false,rfl,?_⟩;refine⟨_,bq,false,rfl,?_⟩;refine⟨_,Eu,_,bq,false,?_,w⟩
   show some (decide (p.num=0))=some false
   rw [Ky (iB h)]
def nJ:bE:=λds S k=>∃ (a:KN) (l:Le),ds=[.ref a]/\S a=some (.lst (rh l.r))/\l.ok/\∀ S',bh S S'->k l.d S'
theorem lJ:ao ["words","lead"] ["words"] (aj jC):=cG
theorem s9 (Fn:FN K "lead_read" jC f fd) (aJ:bf P w K mg base "fraction_read" 3 bS) (nH:bf P w K mg base "is_lead" 5 mG) (aK:mg "tuple"=none):
  aQ P w K mg base b8 6 f fd ["words"] (ca K nJ):=by
 refine Fn.okJ lJ (λds S k h=>?_) (λcdv A outer s H E hr=>⟨_,(ag (am (i:=1) lJ.nd (bC kd rfl aK cw (aa (aB bv (cn (aa (aD aP (af 0) ae Zf) ac)) (dN rfl (dk (N:=["word"]) (cap:=[none]) rfl rfl rfl rfl trivial rfl rfl trivial) (oy (af 0) (c7 ae) eL) (λ_ _ _ _=>(aO (i:=0) (show List.Nodup (["word"]:List Str) from by decide +kernel))) (λ_ _ _ _=>(dq aJ hr (aH 0 ac))))) ac))) (ag (ay (aY (aL (dq nH hr (aH 1 ac)))) (ah be) az) (ah (ai (af 1))))),λds S k h=>?_⟩)
 ·obtain⟨_,_,rfl,_⟩:=h
  rfl
 ·obtain⟨a,l,rfl,ha,ok,w⟩:=h;have hl:l.qs.length<=4:=by
   cases l with
   | mk x qs=>cases ok.r <;> exact Kb rfl
  refine⟨_,_,ha,bq,few,λp hp=>⟨_,(bh.new hp) _ _ ha,λc hc=>?_⟩⟩
  have ec:DL.jt (rh l.r) (some 1) none=rh (l.qs.map .f):=zY;rw [ec];refine⟨(rh (l.qs.map .f),some c),by simp only [aI,ak],λp2 hp2=>?_⟩
  have hcp:c≠p:=λz=>by rw [z,ak] at hc; cases hc
  have e0:bh S (put (put S p (.lst [.str l.x])) c (.lst (rh (l.qs.map .f)))):=(bh.new hp).trans (bh.new hc);have em:rh (l.qs.map .f)=l.qs.map λq=>D.str (fT q):=by unfold rh; rw [Kq]; rfl
  have t:=lD (f:=λq=>D.str (fT q)) (g:=fr) (all:=l.qs) (S:=put (put S p (.lst [.str l.x])) c (.lst (rh (l.qs.map .f)))) (p:=p2) (ok:=eK (rh (l.qs.map .f),some c)) (bd:=jx (gj bS (eX (cL 0) ng))) (L1:=[]) (k:=λy S2=>Fi (D.ref p) y S2 λd S1=>vh [d] S1 λd S1=>rW (xT (zU (h_ (gj mG (eX (cL 1) ng)))) sH wZ) (Al (cL 1)) {nx:=λx S'=>k D.non S',rt:=k} [some (.ref a),some d] S1) hp2 (λS' e=>e _ _ ak) (λq S' k' hq e hk=>⟨q,rfl,fQ (ok.z q hq) (by decide),hk⟩) l.qs [] none _ (λ_ h=>h) (bh.new hp2) ak (by show 0+l.qs.length<=1000; omega) λS2 e2 h2=>?_
  ·rw [<- em] at t;exact t
  ·have h1:=e2 p _ (show put (put S p (.lst [.str l.x])) c (.lst (rh (l.qs.map .f))) p=some (.lst [.str l.x]) by rw [cm (Ne.symm hcp)]; exact ak)
   have ed:[D.tup ([D.str l.x]++([]++List.map fr l.qs))]=[l.d]:=by
    show [D.tup (D.str l.x::List.map fr l.qs)]=[D.tup (D.str l.x::(l.qs.map It.f).map It.d)]
    rw [Kq]
    rfl
   refine⟨_,_,h1,h2,nw (by rw [List.nil_append,JZ]; show 1+_<=_; omega),λp3 hp3=>⟨_,ak,l,ed,ok,?_⟩⟩
   show k (D.tup ([D.str l.x]++([]++List.map fr l.qs))) (put S2 p3 (.lst ([D.str l.x]++([]++List.map fr l.qs))))
   rw [(List.cons.inj ed).1];exact w _ ((e0.trans e2).put (e0.trans e2 |>.none hp3))
def lR:bE:=λds S k=>∃ (ls:List Le),ds=[.str (tT (ls.map Le.r))]/\1<=ls.length/\ls.length<=6/\(∀ l∈ls,l.ok)/\∀ p S',bh S S'->S p=none->S' p=some (.lst (ls.map Le.d))->k (.ref p) S'
theorem kD:ao ["text","leads"] ["text"] (aj iZ):=cG
theorem p6 (Fn:FN K "leads_read" iZ f fd) (cP:bf P w K mg base "rows_of" 2 ke) (j5:bf P w K mg base "lead_read" 6 nJ) (aM:mg "len"=none) (jg:vd mg "MOST_LEADS" 6):
  aQ P w K mg base b8 7 f fd ["text"] (ca K lR):=by
 refine Fn.okJ kD (λds S k h=>?_) (λcdv A outer s H E hr=>⟨_,(ag (ua (iv:=1) kD.nd rfl (dk (N:=["words"]) (cap:=[none]) rfl rfl rfl rfl trivial rfl rfl trivial) (dq cP hr (aH 0 ac)) (λ_ _ _ _=>(aO (i:=0) (show List.Nodup (["words"]:List Str) from by decide +kernel))) (λ_ _ _ _=>(dq j5 hr (aH 0 ac)))) (ag (ay (au tZ (aA jM rfl aM bJ (aH 1 ac)) (pO jg rfl) (ar _)) (ah be) az) (ah (ai (af 1))))),λds S k h=>?_⟩)
 ·obtain⟨_,rfl,_⟩:=h
  rfl
 ·obtain⟨ls,rfl,l1,l6,hl,w⟩:=h;have ne:ls.map Le.r≠[]:=by intro z; rw [List.map_eq_nil_iff] at z; rw [z] at l1; exact absurd l1 (by decide)
  refine⟨ls.map Le.r,rfl,ne,by rw [JZ]; omega,λr hr'=>?_,λp as S1 e1 hp hp1 ha=>?_⟩
  ·obtain⟨l,h,rfl⟩:=JY.mp hr';exact(hl l h).rw
  ·refine⟨(as.map .ref,some p),by simp only [aI,hp1],λp2 hp2=>?_⟩
   refine CI (V:=rh) (R:=Le.r) (g:=Le.d) (all:=ls) hp2 hp1 ha (by omega) (λa x S' k' hx e h hk=>?_) λS2 e2 h2=>?_
   ·exact⟨a,x,rfl,h,hl x hx,hk⟩
   ·refine⟨_,h2,aF (λz=>?_) (λ_=>w p2 S2 (e1.trans e2) (e1.none hp2) h2)⟩
    have z:(6:Int) < ((ls.map Le.d).length:Nat):=z;rw [JZ] at z;omega
def mi:bE:=λds S k=>∃ n:Int,ds=[.str (wT n)]/\0<=n/\n < 10/\∀ S',bh S S'->k (.int n) S'
theorem qp:ao ["word"] ["word"] (aj iD):=cG
theorem pX (Fn:FN K "power_read" iD f fd) (bi:bf P w K mg base "whole_read" 2 eY) (aM:mg "len"=none):
  aQ P w K mg base b8 3 f fd ["word"] (ca K mi):=by
 refine Fn.okJ qp (λds S k h=>?_) (λcdv A outer s H E hr=>⟨_,(ag (ay (au kN (aA jM rfl aM bJ (aH 0 ac)) ae (ar _)) (ah be) az) (ah (ai (dq bi hr (aH 0 ac))))),λds S k h=>?_⟩)
 ·obtain⟨_,rfl,_⟩:=h
  rfl
 ·obtain⟨n,rfl,n0,n1,w⟩:=h;have hn:nO n:=by unfold nO; omega
  have hl:(wT n).length=1:=by
   rw [<- bF,gH,if_neg (by omega),List.nil_append,fH (by omega)]
   rfl
  refine⟨nw (by omega),cz (c:=!decide (((wT n).length:Int)=1)) (λz=>?_) (λ_=>⟨n,rfl,hn,w⟩)⟩
  rw [hl] at z;exact absurd z (by decide)
set_option maxHeartbeats 4000000
def ln {α:Type} (f:α->D) (l:List (List Int×α)):List (List Int×D):=l.map λp=>(p.1,f p.2)
abbrev fb:=ln fr
abbrev sU (l:List (List Int×D)) (ep:Nat):DO:=.gen (.dT l ep)
section
variable {α:Type} {f:α->D}
theorem rj:∀ {l:List (List Int×α)} {k:List Int},k∉l.map (·.1)->eQ (ln f l) k=none
 | [],_,_=>rfl
 | p::l,k,h=>by
  rw [J8,J2,not_or] at h;have e:eQ (ln f (p::l)) k=eQ (ln f l) k:=by simp [eQ,ln,J_,Ne.symm h.1]
  rw [e];exact rj h.2
theorem hJ:∀ {l:List (List Int×α)} {k:List Int} {x:α},(l.map (·.1)).Nodup->(k,x)∈l->eQ (ln f l) k=some (f x)
 | [],_,_,_,h=>nomatch h
 | p::l,k,x,nd,h=>by
  rw [J8,Ks] at nd;rcases J2.mp h with e | m
  ·subst e;simp [eQ,ln]
  ·have ne:p.1≠k:=λz=>nd.1 (JY.mpr ⟨_,m,z.symm⟩)
   have e:eQ (ln f (p::l)) k=eQ (ln f l) k:=by simp [eQ,ln,J_,ne]
   rw [e];exact hJ nd.2 m
theorem pQ {l:List (List Int×α)} {k:List Int} {x:α} (h:k∉l.map (·.1)):ni (ln f l) k (f x)=ln f (l++[(k,x)]):=by
 unfold ni;rw [rj h,if_neg (by simp)]
 simp [ln]
theorem oz {l:List (List Int×α)}:(ln f l).length=l.length:=JZ _
theorem DN {l r:List (List Int×α)} {p:List Int×α} (h:((l++p::r).map (·.1)).Nodup):p.1∉l.map (·.1):=by
 rw [List.map_append,J8,List.nodup_append] at h;exact λm=>h.2.2 _ m _ J4 rfl
end
theorem lim {n:Nat} (h:n<=100):n < sizeLine:=J6 (by omega:n < 300) (Kb (rfl:Nat.ble 300 sizeLine=true))
theorem qQ {l:Zr} {g:List Int×Rat->KY} (h:(l.map (·.1)).Nodup):((l.filter g).map (·.1)).Nodup:=List.Sublist.nodup (List.Sublist.map _ List.filter_sublist) h
abbrev nz (l:Zr):Zr:=l.filter λp=>decide (p.2≠0)
theorem rp {α:Type} {f:α->D}:∀ {a_ don:List (List Int×α)},((don++a_).map (·.1)).Nodup->gN (ln f don) (ln f a_)=ln f (don++a_)
 | [],don,_=>by rw [Ke]; rfl
 | p::a_,don,nd=>by
  have e:gN (ln f don) (ln f (p::a_))=gN (ni (ln f don) p.1 (f p.2)) (ln f a_):=rfl;rw [e,pQ (DN nd),rp (by rw [List.append_assoc]; exact nd),List.append_assoc]
  rfl
theorem mS {α:Type} {f:α->D} {l:List (List Int×α)} (h:(l.map (·.1)).Nodup):gN [] (ln f l)=ln f l:=rp (f:=f) (don:=[]) h
abbrev FU (a b r:Rat):Zr:=[([1,0],a),([0,1],b),([0,0],r)]
theorem zV {a b r:Rat}:((FU a b r).map (·.1)).Nodup:=by show(([[1,0],[0,1],[0,0]]:List (List Int))).Nodup; decide
theorem sh {l:Zr} {p:List Int×Rat}:p∈nz l↔p∈l/\p.2≠0:=by
 rw [List.mem_filter];simp
theorem D7 {l:Zr}:(nz l).length<=l.length:=List.length_filter_le _ _
theorem IL {a b r:Rat} {P:Rat->Prop} (ha:P a) (hb:P b) (hr:P r):∀ p∈FU a b r,P p.2:=by
 intro p hp;simp only [J2,Ka,or_false] at hp;rcases hp with rfl | rfl | rfl <;> assumption
set_option maxHeartbeats 4000000
theorem eq_int {n:Nat} {i j:Int}:g7 n (.int i) (.int j)=some (i == j):=by cases n <;> rfl
theorem Eo {n:Nat} {a b c d:D} {p q:KY} (h1:g7 n a c=some p) (h2:g7 n b d=some q):g7 (n+1) (.tup [a,b]) (.tup [c,d])=some (p && q):=by
 show(match g7 n a c,(match g7 n b d,some true with | some a,some b=>some (a && b) | _,_=>none) with | some a,some b=>some (a && b) | _,_=>none)=_
 rw [h1,h2]
 show some (p && (q && true))=_
 rw [Bool.and_true]
section
variable {α:Type} {f:α->D}
def gA (z:α) (c:List (List Int×α)) (k:List Int):α:=((c.find? λp=>decide (p.1=k)).map (·.2)).getD z
theorem zc {z:α}:∀ {c:List (List Int×α)} {k:List Int} {x:α},(c.map (·.1)).Nodup->(k,x)∈c->gA z c k=x
 | [],_,_,_,h=>nomatch h
 | p::l,k,x,nd,h=>by
  rw [J8,Ks] at nd;rcases J2.mp h with e | m
  ·subst e;simp [gA]
  ·have ne:p.1≠k:=λz=>nd.1 (JY.mpr ⟨_,m,z.symm⟩)
   have e:gA z (p::l) k=gA z l k:=by simp [gA,J_,ne]
   rw [e];exact zc nd.2 m
end
abbrev gR:=gA (0:Rat)
def tQ (c:Zr):Prop:=∀ p∈c,∃ i j:Int,p.1=[i,j]/\0<=i/\0<=j/\i<=9/\j<=9
theorem Hd {c:Zr}:yI qI.k (fb c)=c.map λx=>l_ x.1:=by show List.map _ (List.map _ c)=_; rw [Kq]; rfl
def IV (c:Zr):Prop:=gR c [2,0]≠0/\gR c [0,2]=gR c [2,0]/\gR c [1,1]=0
instance (c:Zr):Decidable (IV c):=inferInstanceAs (Decidable (_/\_/\_))
theorem AK {l:Zr} {k:List Int} {x:Rat}:∃ l':Zr,ni (fb l) k (fr x)=fb l'/\((l.map (·.1)).Nodup->(l'.map (·.1)).Nodup)/\l'.length<=l.length+1/\(∀ p∈l',p∈l\/p=(k,x))/\(k,x)∈l'/\∀ p∈l,p.1≠k->p∈l':=by
 by_cases h:k∈l.map (·.1)
 ·refine⟨l.map λp=>if p.1=k then(p.1,x) else p,?_,λnd=>?_,by rw [JZ]; omega,λp hp=>?_,?_,λp hp n=>?_⟩
  ·unfold ni;obtain⟨p,hp,e⟩:=JY.mp h;have:(eQ (fb l) k).isSome=true:=by
    have:(fb l).find? (λp=>decide (p.1=k))≠none:=λz=>by
     have:=List.find?_eq_none.mp z (p.1,fr p.2) (JY.mpr ⟨p,hp,rfl⟩);simp [e] at this
    unfold eQ;cases hh:(fb l).find? (λp=>decide (p.1=k)) with
    | none=>exact absurd hh this
    | some v=>rfl
   rw [if_pos this];unfold fb ln;rw [Kq,Kq];refine List.map_congr_left λp _=>?_
   show(if p.1=k then(p.1,fr x) else(p.1,fr p.2))=_
   show _=((if p.1=k then(p.1,x) else p).1,fr (if p.1=k then(p.1,x) else p).2)
   split <;> rfl
  ·rw [Kq];have:((λp:List Int×Rat=>p.1) ∘ λp=>if p.1=k then(p.1,x) else p)=λp=>p.1:=by
    funext p
    show(if p.1=k then(p.1,x) else p).1=p.1
    split <;> rfl
   rw [this];exact nd
  ·obtain⟨q,hq,rfl⟩:=JY.mp hp
   by_cases e:q.1=k
   ·rw [if_pos e,e];exact .inr rfl
   ·rw [if_neg e];exact .inl hq
  ·obtain⟨p,hp,e⟩:=JY.mp h;exact JY.mpr ⟨p,hp,by rw [if_pos e,e]⟩
  ·exact JY.mpr ⟨p,hp,by rw [if_neg n]⟩
 ·refine⟨l++[(k,x)],pQ h,λnd=>?_,by simp,λp hp=>?_,by simp,λp hp _=>by simp [hp]⟩
  ·rw [List.map_append,List.nodup_append];refine⟨nd,by simp,λa ha b hb=>?_⟩
   have:b=k:=by simpa using hb
   rw [this];exact λz=>h (z▸ha)
  ·rcases List.mem_append.mp hp with m | m
   ·exact .inl m
   ·exact .inr (by simpa using m)
set_option maxHeartbeats 4000000
abbrev CR:=(Int×Int)×Rat
def cR (z:CR):List It:=[.f z.2,.w z.1.1,.w z.1.2]
def cE (z:CR):List Int×Rat:=([z.1.1,z.1.2],z.2)
def yr (cs:List CR):Prop:=cs.Pairwise λx y=>ZS.lx y.1 x.1=true
structure Cs (cs:List CR):Prop where
 l1:1<=cs.length
 l9:cs.length<=9
 ds:yr cs
 al:∀ z∈cs,0<=z.1.1/\z.1.1<=9/\0<=z.1.2/\z.1.2<=9/\z.2≠0/\Sz 30 z.2
theorem CS {z:CR} (h:0<=z.1.1/\z.1.1<=9/\0<=z.1.2/\z.1.2<=9/\z.2≠0/\Sz 30 z.2):Rw (cR z):=by
 refine⟨by unfold cR; simp,Kb rfl,λi hi=>?_⟩
 unfold cR at hi;simp only [J2,Ka,or_false] at hi;have s1:nO z.1.1:=by unfold nO; omega
 have s2:nO z.1.2:=by unfold nO; omega
 rcases hi with rfl | rfl | rfl
 ·exact⟨fQ h.2.2.2.2.2 (by decide),λx z=>by cases z⟩
 ·exact⟨s1,λx z=>by cases z⟩
 ·exact⟨s2,λx z=>by cases z⟩
theorem Cs.rw {cs:List CR} (h:Cs cs):∀ r∈cs.map cR,Rw r:=λr hr=>by
 obtain⟨z,hz,rfl⟩:=JY.mp hr;exact CS (h.al z hz)
theorem B3 {c:Zr} (nd:(c.map (·.1)).Nodup) {ks:List (Int×Int)} (e:c.map (·.1)=ks.map λk=>[k.1,k.2]):c=ks.map λk=>([k.1,k.2],gA 0 c [k.1,k.2]):=by
 have h1:c=c.map λp=>(p.1,gA 0 c p.1):=by
  conv=>lhs; rw [<- List.map_id c]
  refine List.map_congr_left λp hp=>?_
  rw [zc nd (show (p.1,p.2)∈c from hp)]
  rfl
 have h2:(c.map λp=>(p.1,gA 0 c p.1))=(c.map (·.1)).map λk=>(k,gA 0 c k):=by rw [Kq]; rfl
 rw [h2,e,Kq] at h1;exact h1
theorem wP {c:Zr} (sm:tQ c):∃ ks:List (Int×Int),c.map (·.1)=ks.map λk=>[k.1,k.2]:=by
 induction c with
 | nil=>exact⟨[],rfl⟩
 | cons p c i=>
  obtain⟨ks,e⟩:=i λq hq=>sm q (J5 _ hq)
  obtain⟨a,b,ep,_⟩:=sm p J4;exact⟨(a,b)::ks,by rw [J8,J8,ep,e]⟩
theorem rg {c:Zr} (nd:(c.map (·.1)).Nodup) {ks ks':List (Int×Int)} (e:c.map (·.1)=ks.map λk=>[k.1,k.2]) (pm:ks'.Perm ks) (od:ks'.Pairwise λx y=>ZS.lx y x=true):∃ cs:List CR,ks'=cs.map (·.1)/\(cs.map cE).Perm c/\yr cs:=by
 refine⟨ks'.map λk=>(k,gA 0 c [k.1,k.2]),by rw [Kq]; exact(List.map_id _).symm,?_,?_⟩
 ·rw [Kq];have h:=B3 nd e;have pm':=pm.map λk:Int×Int=>(([k.1,k.2],gA 0 c [k.1,k.2]):List Int×Rat)
  rw [<- h] at pm';exact pm'
 ·unfold yr;rw [List.pairwise_map];exact od
structure zI (c:Zr):Prop where
 nd:(c.map (·.1)).Nodup
 l1:1<=c.length
 l9:c.length<=9
 sm:tQ c
 al:∀ p∈c,p.2≠0/\Sz 30 p.2
theorem zI.cs {c:Zr} (h:zI c) {cs:List CR} (pm:(cs.map cE).Perm c) (d:yr cs):Cs cs:=by
 have hl:cs.length=c.length:=by rw [<- pm.length_eq,JZ]
 refine⟨by have:=h.l1; omega,by have:=h.l9; omega,d,λz hz=>?_⟩
 have hm:cE z∈c:=pm.mem_iff.mp (JY.mpr ⟨z,hz,rfl⟩);obtain⟨i,j,e,i0,j0,i9,j9⟩:=h.sm _ hm;have e:[z.1.1,z.1.2]=[i,j]:=e;cases e;exact⟨i0,i9,j0,j9,(h.al _ hm).1,(h.al _ hm).2⟩
theorem pS {rs:List (List It)} (hl:rs.length<=9) (hr:∀ r∈rs,Rw r):JoinOk (Str.ofString " ; ") (rs.map rT)=true:=iS (b:=9*91) (n:=9) (λw hw=>by
 obtain⟨r,h,rfl⟩:=JY.mp hw;exact(hr r h).len) (by rw [JZ]; exact hl) (by decide)
def mo:bE:=λds S k=>∃ (a:KN) (c:Zr) (ep:Nat),ds=[.ref a]/\S a=some (sU (fb c) ep)/\zI c/\∀ cs S',(cs.map cE).Perm c->yr cs->bh S S'->k (.str (tT (cs.map cR))) S'
theorem gI:ao ["curve","sums","key"] ["curve"] (aj io):=cG
theorem qc (Fn:FN K "curve_text" io f fd) (a9:bf P w K mg base "whole_text" 1 fh) (aT:bf P w K mg base "fraction_text" 2 c_) (ig:mg "sorted"=none):
  aQ P w K mg base b8 3 f fd ["curve"] (ca K mo):=by
 refine Fn.okJ gI (λds S k h=>?_) (λcdv A outer s H E hr=>⟨_,(ag (am (i:=1) gI.nd (cn ac)) (ag (qJ PassesOwn.never rfl (A6 rfl ig qK (aH 0 ac) cr) (aO (i:=2) gI.nd) (ah (bU (gX (af 1) (cF PySem.F.slot_str_join PySem.F.type_str_join iF aG (aa (cn (aa (dq aT hr (aa (oB hr (af 0) (af 2) Zf) ac)) (aa (dq a9 hr (aa (aD aP (af 2) ae Zf) ac)) (aa (dq a9 hr (aa (aD aP (af 2) ae Zf) ac)) ac)))) ac)))))) (ah (ai (cF PySem.F.slot_str_join PySem.F.type_str_join iF aG (aH 1 ac)))))),λds S k h=>?_⟩)
 ·obtain⟨_,_,_,rfl,_⟩:=h
  rfl
 ·obtain⟨a,c,ep,rfl,ha,ok,w⟩:=h;obtain⟨ks,ek⟩:=wP ok.sm;have lk:ks.length=c.length:=by have:=congrArg List.length ek; simpa using this.symm
  have l9:=ok.l9;refine⟨few,λp hp=>⟨_,_,ks,(bh.new hp) _ _ ha,?_,by omega,λks' pm od q hq=>?_⟩⟩
  ·show List.map _ (fb c)=_
   rw [<- ek];unfold fb ln;rw [Kq]
   rfl
  obtain⟨cs,rfl,pc,dc⟩:=rg ok.nd ek pm od;have co:=ok.cs pc dc;have lc:=co.l9;have hqp:q≠p:=λz=>by rw [z,ak] at hq; cases hq
  refine⟨((cs.map (·.1)).map Av,some q),by simp only [aI,ak],?_⟩
  refine fo (λr' L S'=>∃ (dn rs:List CR) (l2:KO D),L=[some (.ref a),some (.ref p),l2]/\bh S S'/\S' q=some (.lst ((cs.map (·.1)).map Av))/\S' p=some (.lst (dn.map λz=>.str (rT (cR z))))/\r'=rs.map (λz=>Av z.1)/\dn++rs=cs) (λr L S' h=>by obtain⟨_,_,_,_,_,h,_⟩:=h; exact h) ?_ ?_ _ _ _ ⟨[],cs,none,rfl,(bh.new hp).trans (bh.new hq),ak,(by rw [cm (Ne.symm hqp)]; exact ak),(by rw [Kq]; rfl),rfl⟩
  ·rintro d r' L S1 N1 ⟨dn,rs,l2,rfl,e1,h1,h2,er,ee⟩ hN;cases rs with
   | nil=>cases er
   | cons z rs=>
    cases er;have hz:z∈cs:=by rw [<- ee]; simp
    have za:=co.al z hz;have hg:eQ (fb c) [z.1.1,z.1.2]=some (fr z.2):=hJ ok.nd (pc.mem_iff.mp (JY.mpr ⟨z,hz,rfl⟩));have s1:nO z.1.1:=by unfold nO; omega
    have s2:nO z.1.2:=by unfold nO; omega
    have s3:kE z.2:=fQ za.2.2.2.2.2 (by decide)
    have hd : dn.length < 10 := by have : dn.length + (rs.length + 1) = cs.length := by rw [← ee, List.length_append]; rfl
                                   omega
    refine⟨⟨_,h2⟩,_,_,[z.1.1,z.1.2],_,e1 _ _ ha,rfl,hg,z.2,rfl,s3,λS2 e2=>⟨_,bq,z.1.1,rfl,s1,λS3 e3=>⟨_,m_,z.1.2,rfl,s2,λS4 e4=>⟨few,λp3 hp3=>⟨[fT z.2,wT z.1.1,wT z.1.2],ak,?_,?_⟩⟩⟩⟩⟩
    ·refine iS (b:=90) (n:=3) (λw hw=>?_) (JX _) (by decide)
     have hw:w∈(cR z).map It.t:=hw;obtain⟨i,hi,rfl⟩:=JY.mp hw;exact It.len ((CS za).all i hi).1
    ·rw [c6];have e5:=(e2.trans (e3.trans (e4.trans (bh.new (o:=.lst ([fT z.2,wT z.1.1,wT z.1.2].map D.str)) hp3))));refine⟨_,e5 _ _ h2,vL (by rw [JZ]; omega),hN _ _ ⟨dn++[z],rs,_,rfl,(e1.trans e5).put hp,by rw [cm hqp]; exact e5 _ _ h1,by rw [ak,List.map_append]; rfl,rfl,by rw [List.append_assoc]; exact ee⟩⟩
  ·rintro L S1 ⟨dn,rs,l2,rfl,e1,h1,h2,er,ee⟩;cases rs with
   | cons _ _=>cases er
   | nil=>
    rw [Ke] at ee;rw [ee] at h2;refine⟨(cs.map cR).map rT,by rw [h2,Kq,Kq]; rfl,pS (by rw [JZ]; exact lc) co.rw,?_⟩
    rw [c6];exact w cs S1 pc dc e1
def nL (dn:List CR):D:=match dn.getLast? with
 | none=>.non
 | some z=>.tup [.int z.1.1,.int z.1.2]
def lL:bE:=λds S k=>∃ (cs:List CR),ds=[.str (tT (cs.map cR))]/\Cs cs/\∀ p ep S',bh S S'->S p=none->S' p=some (sU (fb (cs.map cE)) ep)->k (.ref p) S'
theorem bY:ao ["text","curve","last","words","fraction","key"] ["text"] (aj il):=cG
theorem qv (Fn:FN K "curve_read" il f fd) (cP:bf P w K mg base "rows_of" 2 ke) (aJ:bf P w K mg base "fraction_read" 3 bS) (fc:bf P w K mg base "power_read" 3 mi) (aM:mg "len"=none):
  aQ P w K mg base b8 4 f fd ["text"] (ca K lL):=by
 refine Fn.okJ bY (λds S k h=>?_) (λcdv A outer s H E hr=>⟨_,(ag (am (i:=1) bY.nd wx) (ag (am (i:=2) bY.nd ii) (ag (qJ PassesOwn.never rfl (dq cP hr (aH 0 ac)) (aO (i:=3) bY.nd) (ag (ay (au kN (aA jM rfl aM bJ (aH 3 ac)) ae (ar _)) (ah be) az) (ag (am (i:=4) bY.nd (dq aJ hr (aa (aD aP (af 3) ae Zf) ac))) (ag (am (i:=5) bY.nd (aC (aa (dq fc hr (aa (aD aP (af 3) ae Zf) ac)) (aa (dq fc hr (aa (aD aP (af 3) ae Zf) ac)) ac)))) (ag (ay (WJ.pt (ce (au dX (aD aP (af 4) ae Zf) ae (ar _)) (bI (WJ.pt (iQ (au w_ (af 2) ii (ar _)) (fY (au (Hf hr) (af 5) (af 2) (ar _)))))))) (ah be) az) (ag (fJ (af 4) (oD hr (af 1) (af 5))) (ah (am (i:=2) bY.nd (af 5))))))))) (ah (ai (af 1)))))),λds S k h=>?_⟩)
 ·obtain⟨_,rfl,_⟩:=h
  rfl
 ·obtain⟨cs,rfl,ok,w⟩:=h;have l1:=ok.l1;have l9:=ok.l9;have ne:cs.map cR≠[]:=by intro z; rw [List.map_eq_nil_iff] at z; rw [z] at l1; exact absurd l1 (by decide)
  refine λc hc ep=>⟨cs.map cR,rfl,ne,by rw [JZ]; omega,ok.rw,λp as S1 e1 hp hp1 ha=>?_⟩
  have hc1:=e1 c _ ak;obtain⟨zs,rfl,rfl,ez3⟩:=gW.zip as cs ha;have hpc:p≠c:=λz=>by rw [z,ak] at hp; cases hp
  have hp0:S p=none:=(bh.new hc).none hp;refine⟨((zs.map (·.1)).map .ref,some p),by simp only [aI,hp1],?_⟩
  refine fo (λr' L S'=>∃ (dn rs:List (KN×CR)) (e':Nat) (l3 l4 l5:KO D),L=[some (.str (tT ((zs.map (·.2)).map cR))),some (.ref c),some (nL (dn.map (·.2))),l3,l4,l5]/\bh S S'/\S' p=some (.lst ((zs.map (·.1)).map .ref))/\S' c=some (sU (fb ((dn.map (·.2)).map cE)) e')/\(∀ z∈zs,S' z.1=some (.lst (rh (cR z.2))))/\r'=rs.map (λz=>.ref z.1)/\dn++rs=zs) (λr L S' h=>by obtain⟨_,_,_,_,_,_,_,_,h,_⟩:=h; exact h) ?_ ?_ _ _ _ ⟨[],zs,ep,none,none,none,rfl,(bh.new hc).trans e1,hp1,hc1,ez3,(by rw [Kq]; rfl),rfl⟩
  ·rintro d r' L S2 N1 ⟨dn,rs,e',l3,l4,l5,rfl,e2,h1,h2,h3,er,ee⟩ hN;cases rs with
   | nil=>cases er
   | cons z rs=>
    cases er;have hz:z∈zs:=by rw [<- ee]; simp
    have za:=ok.al z.2 (JY.mpr ⟨z,hz,rfl⟩);have hzs:=h3 z hz;have hd:dn.length < 10:=by
     have:dn.length+(rs.length+1)=zs.length:=by rw [<- ee,Kc]; rfl
     rw [JZ] at l9;omega
    have s3:kE z.2.2:=fQ za.2.2.2.2.2 (by decide)
    refine⟨_,hzs,?_⟩;refine⟨_,_,hzs,bq,z.2.2,rfl,s3,λS3 e3=>⟨_,_,e3 _ _ hzs,m_,z.2.1.1,rfl,za.1,by omega,λS4 e4=>⟨_,_,e4 _ _ (e3 _ _ hzs),Cz,z.2.1.2,rfl,za.2.2.1,by omega,λS5 e5=>⟨few,?_⟩⟩⟩⟩
    have E:=e3.trans (e4.trans e5);have pw:yr (dn.map (·.2)++z.2::rs.map (·.2)):=by
     have:=ok.ds;rw [<- ee,List.map_append,J8] at this;exact this
    have lt:∀ x∈dn.map (·.2),ZS.lx z.2.1 x.1=true:=λx hx=>(List.pairwise_append.mp pw).2.2 x hx z.2 J4
    have nk:[z.2.1.1,z.2.1.2]∉((dn.map (·.2)).map cE).map (·.1):=λhm=>by
     rw [Kq] at hm;obtain⟨x,hx,e⟩:=JY.mp hm;have e:[x.1.1,x.1.2]=[z.2.1.1,z.2.1.2]:=e;have:=ZS.lx_iff.mp (lt x hx);simp only [List.cons.injEq,and_true] at e;omega
    have fin:rW (FY (cL 4) (zF (cL 1) (cL 5))) (uW 2 (cL 5)) {nx:=N1,rt:=k,bk:=Al (cL 1) {nx:=λx S'=>k D.non S',rt:=k},ct:=N1} [some (.str (tT ((zs.map (·.2)).map cR))),some (.ref c),some (nL (dn.map (·.2))),some (.ref z.1),some (fr z.2.2),some (.tup [.int z.2.1.1,.int z.2.1.2])] S5:=by
     refine⟨_,_,[z.2.1.1,z.2.1.2],E _ _ h2,rfl,?_,λe6=>?_⟩
     ·unfold fb ln;rw [JZ,JZ,JZ];exact vL (by omega)
     ·refine hN _ _ ⟨dn++[z],rs,e6,some (.ref z.1),some (fr z.2.2),some (.tup [.int z.2.1.1,.int z.2.1.2]),?_,(e2.trans E).put hc,by rw [cm hpc]; exact E _ _ h1,?_,λy hy=>?_,rfl,by rw [List.append_assoc]; exact ee⟩
      ·have el:nL ((dn++[z]).map (·.2))=.tup [.int z.2.1.1,.int z.2.1.2]:=by
        unfold nL;rw [List.map_append,J8,List.map_nil,List.getLast?_append]
        rfl
       rw [el]
       rfl
      ·rw [ak];have:=pQ (f:=fr) (x:=z.2.2) nk;rw [show ni (fb ((dn.map (·.2)).map cE)) [z.2.1.1,z.2.1.2] (fr z.2.2)=_ from this,List.map_append,List.map_append]
       rfl
      ·have hy':=E _ _ (h3 y hy);rw [cm (λq=>by rw [q,E _ _ h2] at hy'; cases hy')]
       exact hy'
    refine⟨_,bq,aF (λq=>absurd q (iB za.2.2.2.2.1)) (λ_=>?_)⟩
    cases hla:(dn.map (·.2)).getLast? with
    | none=>
     have el:nL (dn.map (·.2))=.non:=by unfold nL; rw [hla]
     rw [el] at fin ⊢;exact fin
    | some x=>
     have el:nL (dn.map (·.2))=.tup [.int x.1.1,.int x.1.2]:=by unfold nL; rw [hla]
     rw [el] at fin ⊢;have hx:=lt x (List.mem_of_getLast? hla);refine cz (c:=!ZS.lx (z.2.1.1,z.2.1.2) (x.1.1,x.1.2)) (λq=>?_) (λ_=>fin)
     rw [show ZS.lx (z.2.1.1,z.2.1.2) (x.1.1,x.1.2)=true from hx] at q
     cases q
  ·rintro L S2 ⟨dn,rs,e',l3,l4,l5,rfl,e2,h1,h2,h3,er,ee⟩;cases rs with
   | cons _ _=>cases er
   | nil=>
    rw [Ke] at ee;rw [ee] at h2;exact w c e' S2 e2 hc h2
set_option maxHeartbeats 4000000
def jz:bE:=λds S k=>∃ (ns:List Int) (i:Int),ds=[.rl (List.map D.int ns),.int i]/\0<=i/\∀ c:Int,k (.int c) S
theorem ow:ao ["script","k"] ["script","k"] (aj fI):=cG
theorem og (Fn:FN K "_law_cell_at" fI f fd) (aM:mg "len"=none):
  aQ P w K mg base b8 1 f fd ["script","k"] (ca K jz):=by
 refine Fn.okJ ow (λds S k h=>?_) (λcdv A outer s H E hr=>⟨_,(ag (ay (au tR (af 1) (aA cM rfl aM bJ (aH 0 ac)) (ar _)) (ah (ai (aD pd (af 0) (af 1) Zf))) az) (ah (ai ae))),λds S k h=>?_⟩)
 ·obtain⟨_,_,rfl,_⟩:=h
  rfl
 ·obtain⟨ns,i,rfl,h0,q⟩:=h;refine aF (λhl=>?_) (λ_=>q 0)
  obtain⟨n,rfl⟩:=Int.eq_ofNat_of_zero_le h0;have hn:n < ns.length:=by rw [JZ] at hl; omega
  have e:L2.atI (List.map D.int ns) (n:Int)=some (.int ns[n]):=fk (by rw [Ki,Kg hn] <;> rfl)
  exact⟨_,e,q _⟩
def md:bE:=λds S k=>∃ ns i,ds=[.rl (List.map D.int ns),.int i]/\0<=i/\∀ (p:KN) (n:Int) (b:KY),S p=none->(b=false->0<=n/\n < 2147483647)->k (.ref p) (put S p (.lst [.int n,.bl b]))
theorem ku:ao ["script","k","cell"] ["script","k"] (aj ja):=cG
theorem pW (Fn:FN K "_law_state" ja f fd) (fU:bf P w K mg base "_law_cell_at" 1 jz):
  aQ P w K mg base b8 2 f fd ["script","k"] (ca K md):=by
 refine Fn.okJ ku (λds S k h=>?_) (λcdv A outer s H E hr=>⟨_,(ag (am (i:=2) ku.nd (dq fU hr (aH 0 (aH 1 ac)))) (ag (ay (au yM (af 2) (aB xk ae ae) (ar _)) (ah (ai (cn (aa (aB o_ (af 2) (aB xk ae ae)) (aa cr ac))))) az) (ah (ai (cn (aa (aB ky (af 2) ae) (aa cr ac))))))),λds S k h=>?_⟩)
 ·obtain⟨_,_,rfl,_⟩:=h
  rfl
 ·obtain⟨ns,i,rfl,h0,q⟩:=h;have hp:yf 10 18:=⟨by decide,by decide,by decide⟩
  refine⟨ns,i,rfl,h0,λc=>⟨hp,aF (λhl=>⟨hp,few,λp hn=>?_⟩) (λhl=>⟨(by show(2147483647:Int)≠0; decide),few,λp hn=>?_⟩)⟩⟩
  ·exact q p _ _ hn (λz=>by cases z)
  ·exact q p _ _ hn (λ_=>⟨Kv _ (by decide),KH _ (by decide)⟩)
def bV:bE:=λds S k=>∃ a m,ds=[.ref a,.int m]/\0 < m/\Bt 200 m/\n5 S a/\∀ r S',0<=r->r < m->Dr a S S'->k (.int r) S'
theorem ff:ao ["state","many","mixed","found"] ["state","many"] (aj j7):=cG
theorem sX (Fn:FN K "_law_take" j7 f fd):
  aQ P w K mg base b8 1 f fd ["state","many"] (ca K bV):=by
 refine Fn.okJ ff (λds S k h=>?_) (λcdv A outer s H E hr=>⟨_,(ag (ay (aL (dz 0)) (ag (am (i:=3) ff.nd (aB ky (dz 0) (af 1))) (ag (fJ (aB jr (dz 0) (af 1)) (wD (af 0) ae)) (ah (ai (af 3))))) az) (ag (fJ (aB ky (aB bv (aB dZ (dz 0) ae) ae) ae) (wD (af 0) ae)) (ag (am (i:=2) ff.nd (aB ky (aB bv (aB bv (aB dZ (dz 0) (dz 0)) (aB dZ ae (dz 0))) ae) ae)) (ag (am (i:=2) ff.nd (aB ky (aB bv (aB dZ (af 2) (af 2)) (aB dZ ae (af 2))) ae)) (ah (ai (aB ky (aB jr (af 2) ae) (af 1)))))))),λds S k h=>?_⟩)
 ·obtain⟨_,_,rfl,_⟩:=h
  rfl
 ·obtain⟨a,m,rfl,hm,hb,⟨n,b,hS,hn⟩,q⟩:=h;have put_dr:∀ (n':Int) (b':KY),(b'=false->0<=n'/\n' < 2147483647)->Dr a S (put S a (.lst [.int n',.bl b'])):=λn' b' h'=>
   ⟨⟨n',b',ak,h'⟩,λc o z e=>by rw [cm z]; exact e⟩
  refine⟨_,_,hS,m_,?_⟩;cases b with
  | true=>
   refine⟨_,_,hS,bq,(show m≠0 by omega),_,_,hS,bq,BW (by omega) hb,_,_,hS,GF,?_⟩
   exact q _ _ (Kv _ hm) (KH _ hm) (put_dr _ _ λz=>by cases z)
  | false=>
   obtain⟨n0,n1⟩:=hn rfl;have b31:=x8 n0 (by omega)
   refine⟨_,_,hS,bq,uR (n:=31) b31 (x8 (by decide) (by decide)),(show (2147483647:Int)≠0 by decide),_,_,hS,GF,?_⟩
   have c0:0<=(n*48271+29).fmod 2147483647:=Kv _ (by decide)
   have c1:(n*48271+29).fmod 2147483647 < 2147483647:=KH _ (by decide)
   have bx:=x8 c0 (by omega)
   refine⟨_,_,ak,bq,_,_,ak,bq,uR bx bx,_,_,ak,bq,uR (m:=31) (x8 (by decide) (by decide)) bx,(show (2147483629:Int)≠0 by decide),?_⟩
   have d0:0<=((n*48271+29).fmod 2147483647*(n*48271+29).fmod 2147483647+39373*(n*48271+29).fmod 2147483647+7).fmod 2147483629:=Kv _ (by decide)
   have d1:((n*48271+29).fmod 2147483647*(n*48271+29).fmod 2147483647+39373*(n*48271+29).fmod 2147483647+7).fmod 2147483629 < 2147483629:=KH _ (by decide)
   have by':=x8 d0 (by omega)
   refine⟨uR by' by',uR (m:=31) (x8 (by decide) (by decide)) by',(show (2147483587:Int)≠0 by decide),⟨by decide,by decide +kernel⟩,(show m≠0 by omega),?_⟩
   exact q _ _ (Kv _ hm) (KH _ hm) (put_dr _ _ λ_=>⟨c0,c1⟩)
theorem B' (a b:Int):Int.gcd (kQ a) (kQ b)=Int.gcd a b:=by
 have e:∀ x:Int,(kQ x).natAbs=x.natAbs:=λx=>by unfold kQ; split <;> omega
 unfold Int.gcd;rw [e,e]
def jy:bE:=λds S k=>∃ a b,ds=[.int a,.int b]/\k (.int ((Int.gcd a b:Nat):Int)) S
theorem c9:ao ["one","other"] ["one","other"] (aj fM):=cG
theorem n9 (Fn:FN K "_law_divisor" fM f fd) (eW:mg "abs"=none):
  aQ P w K mg base b8 1 f fd ["one","other"] (ca K jy):=by
 refine Fn.okJ c9 (λds S k h=>?_) (λcdv A outer s H E hr=>⟨_,(ag (am (i:=0) c9.nd (aA qL rfl eW mO (aH 0 ac))) (ag (am (i:=1) c9.nd (aA qL rfl eW mO (aH 1 ac))) (ag (iR PassesOwn.never (au tZ (af 1) ae (ar _)) (ah (yJ (i:=0) (j:=1) rfl c9.nd (by decide) (aH 1 (aa (aB ky (af 0) (af 1)) ac))))) (ah (ai (af 0)))))),λds S k h=>?_⟩)
 ·obtain⟨_,_,rfl,_⟩:=h
  rfl
 ·obtain⟨a,b,rfl,q⟩:=h;refine⟨λm L S'=>S'=S/\∃ x y,L=[some (.int x),some (.int y)]/\m=y.natAbs/\0<=x/\0<=y/\Int.gcd x y=Int.gcd a b,⟨_,rfl,kQ a,kQ b,rfl,rfl,wv a,wv b,B' a b⟩,?_⟩
  rintro m L S' ⟨rfl,x,y,rfl,rfl,hx,hy,e⟩;refine aF (λhl=>⟨λL' S''=>∃ m',m' < y.natAbs/\S''=S'/\∃ x y,L'=[some (.int x),some (.int y)]/\m'=y.natAbs/\0<=x/\0<=y/\Int.gcd x y=Int.gcd a b,λ_ _ z=>z,by omega,?_⟩) (λhl=>?_)
  ·exact⟨_,wA x y (by omega),rfl,y,x.fmod y,rfl,rfl,hy,Kv _ hl,(uA x y).trans e⟩
  ·have z:y=0:=by omega
   subst z;have e2:=uF x;rw [e,if_neg (by omega)] at e2
   rw [e2] at q;exact q
def fi:bE:=λds S k=>∃ t b,ds=[.int t,.int b]/\b≠0/\Bt 8000 b/\k (fr (Rat.divInt t b)) S
theorem gK:ao ["top","bottom","by"] ["top","bottom"] (aj iO):=cG
theorem qz (Fn:FN K "_law_ratio" iO f fd) (fF:bf P w K mg base "_law_divisor" 1 jy):
  aQ P w K mg base b8 2 f fd ["top","bottom"] (ca K fi):=by
 refine Fn.okJ gK (λds S k h=>?_) (λcdv A outer s H E hr=>⟨_,(ag (am (i:=2) gK.nd (dq fF hr (aH 0 (aH 1 ac)))) (ag (ay (au tR (af 1) ae (ar _)) (ah (am (i:=2) gK.nd (aB o_ ae (af 2)))) az) (ah (ai (aC (aa (aB jr (af 0) (af 2)) (aa (aB jr (af 1) (af 2)) ac))))))),λds S k h=>?_⟩)
 ·obtain⟨_,_,rfl,_⟩:=h
  rfl
 ·obtain⟨t,b,rfl,h0,hb,q⟩:=h;have hg:=AW (t:=t) h0 hb;have hs:=Ba (t:=t) h0;have e1:=se (t:=t) h0;have e2:=sB (t:=t) h0;have qq:k (.tup [.int (t.fdiv (yq t b)),.int (b.fdiv (yq t b))]) S:=by rw [e1,e2]; exact q
  unfold yq at qq hs
  refine⟨t,b,rfl,aF (λhl=>?_) (λhl=>?_)⟩
  ·rw [if_pos hl] at qq hs
   rw [<- Int.zero_sub] at qq hs
   have hd:∀ x:Int,re x (0 - ((Int.gcd t b:Nat):Int)):=λx=>BW hs (by rw [Int.zero_sub]; exact hg.neg)
   exact⟨hd _,hd _,few,qq⟩
  ·rw [if_neg hl] at qq hs
   exact⟨BW hs hg,BW hs hg,few,qq⟩
def lB:bE:=λds S k=>∃ (a b c d:Int) (q:Rat),ds=[pr a b,pr c d]/\b*d≠0/\Bt 4000 a/\Bt 4000 b/\Bt 4000 c/\Bt 4000 d/\Rat.divInt (a*c) (b*d)=q/\k (fr q) S
theorem ql:ao ["one","other"] ["one","other"] (aj iT):=cG
theorem qf (Fn:FN K "_law_times" iT f fd) (bL:bf P w K mg base "_law_ratio" 2 fi):
  aQ P w K mg base b8 3 f fd ["one","other"] (ca K lB):=by
 refine Fn.okJ ql (λds S k h=>?_) (λcdv A outer s H E hr=>⟨_,(ah (ai (dq bL hr (aa (aB dZ (dz 0) (dz 1)) (aa (aB dZ (dz 0) (dz 1)) ac))))),λds S k h=>?_⟩)
 ·obtain⟨_,_,_,_,_,rfl,_⟩:=h
  rfl
 ·obtain⟨a,b,c,d,_,rfl,h0,h1,h2,h3,h4,rfl,q⟩:=h;exact⟨uR h1 h3,uR h2 h4,_,_,rfl,h0,(h2.mul h4).mono (by decide),q⟩
theorem EA (q:Rat) (u:Int):Rat.divInt (q.num*(kQ q.num*u)) ((q.den:Int)*(q.den:Int))=ss q*u:=by
 have h:=nN q;have hd:=oX q;rw [Rat.divInt_eq_div,Rat.intCast_mul,Rat.intCast_mul,Rat.intCast_mul,Rat.intCast_natCast];unfold ss ab kQ
 by_cases hq:q < 0
 ·rw [if_pos hq,if_pos ((gw q).mpr hq),Rat.intCast_neg]; grind
 ·rw [if_neg hq,if_neg (λz=>hq ((gw q).mp z))]; grind
def B (x:Q):D:=.tup [fr x.1,fr x.2]
def BP (x y:Q):D:=.tup [B x,B y]
theorem n5.set {a q:KN} {S:DH} {o:DO} (h:n5 S a) (z:q≠a):n5 (put S q o) a:=by
 obtain⟨n,b,e,w⟩:=h;exact⟨n,b,by rw [cm (Ne.symm z)]; exact e,w⟩
set_option maxHeartbeats 4000000
abbrev sc (t:Rat) (l:Zr):Zr:=l.map λp=>(p.1,p.2*t)
theorem vO {l:List (List Int×D)}:(eU l).length=l.length:=JZ _
theorem wo {S:DH} {p f:KN} {c:Zr} {e1:Nat} {k:DK} (hp:S p=none) (hf:S f=some (sU (fb c) e1)) (nd:(c.map (·.1)).Nodup) (kk:∀ S2,bh S S2->S2 p=some (.lst (eU (fb (nz c))))->k (.ref p) S2):
  ∀ (a_ don:Zr) (l0:KO D) (S1:DH),c=don++a_->bh S S1->S1 p=some (.lst (eU (fb (nz don))))->c.length<=100->
   bK (λS=>S f=some (sU (fb c) e1)) p (eV 0) (oj (h_ (xp HR (xp Cm (AD (cL 1) (cL 0)) (dC (.int 0))) (dC (.int 0)))) (EX (eX (cL 0) (eX (AD (cL 1) (cL 0)) ng)))) k (a_.map λx=>l_ x.1) (eU (fb (nz don))) [l0,some (.ref f)] S1
 | [],don,l0,S1,ec,x1,h1,_=>by
  rw [Ke] at ec;subst ec;exact⟨x1 _ _ hf,kk S1 x1 h1⟩
 | q::a_,don,l0,S1,ec,x1,h1,hl=>by
  have f1:=x1 _ _ hf;have g1:eQ (fb c) q.1=some (fr q.2):=hJ nd (by rw [ec]; simp)
  have hd:don.length < 100:=by have:=congrArg List.length ec; rw [Kc,J9] at this; omega
  have lz:(nz don).length<=don.length:=List.length_filter_le _ _;have ec':c=(don++[q])++a_:=by rw [ec]; simp
  refine⟨f1,_,_,q.1,_,f1,rfl,g1,y4 (λh0=>?_) (λh0=>?_)⟩
  ·have q0:q.2≠0:=λz=>h0 (by rw [z]; rfl)
   refine⟨_,_,q.1,_,f1,rfl,g1,few,h1,?_,?_⟩
   ·rw [vO,oz];exact lim (by omega)
   ·have ea:eU (fb (nz don))++[D.tup [l_ q.1,fr q.2]]=eU (fb (nz (don++[q]))):=by
     simp [nz,List.filter_append,q0,eU,ln]
    rw [ea];exact wo hp hf nd kk a_ (don++[q]) _ _ ec' (x1.put hp) ak hl
  ·have q0:q.2=0:=Rat.num_eq_zero.mp h0;have ea:eU (fb (nz don))=eU (fb (nz (don++[q]))):=by
    simp [nz,List.filter_append,q0]
   rw [ea];exact wo hp hf nd kk a_ (don++[q]) _ _ ec' x1 (by rw [h1,ea]) hl
def bG:bE:=λds S k=>∃ (a:KN) (m:Int),ds=[.ref a,.int m]/\1<=m/\m<=9/\n5 S a/\∀ q S',Sz 4 q->Dr a S S'->k (fr q) S'
theorem my:ao ["state","most"] ["state","most"] (aj eS):=cG
theorem mY (Fn:FN K "_law_fraction" eS f fd) (bL:bf P w K mg base "_law_ratio" 2 fi) (ax:bf P w K mg base "_law_take" 1 bV):
  aQ P w K mg base b8 3 f fd ["state","most"] (ca K bG):=by
 refine Fn.okJ my (λds S k h=>?_) (λcdv A outer s H E hr=>⟨_,(ah (ai (dq bL hr (aa (aB o_ (dq ax hr (aH 0 (aa (aB bv (aB dZ ae (af 1)) ae) ac))) (af 1)) (aa (aB bv ae (dq ax hr (aH 0 (aa (aD pd (cn (aa ae (aa ae (aa ae (aa ae ac))))) (dq ax hr (aH 0 (aa ae ac))) Zf) ac)))) ac))))),λds S k h=>?_⟩)
 ·obtain⟨_,_,rfl,_⟩:=h
  rfl
 ·obtain⟨a,m,rfl,m1,m4,hS,w⟩:=h;have bm:Bt 4 m:=by unfold Bt; omega
  have b9:Bt 5 (2*m+1):=by unfold Bt; omega
  refine⟨uR (show Bt 2 2 by decide) bm,a,2*m+1,rfl,by omega,b9.mono (by decide),hS,λr1 S1 h1 h1' d1=>⟨few,λp hp=>⟨a,4,rfl,by decide,by decide,d1.1.new hp,λr2 S2 h2 h2' d2=>?_⟩⟩⟩
  have hp3:=d2.2 p _ (d1.1.ne hp) ak;obtain⟨c,hc,hm⟩:=oC (ds:=[.int 1,.int 1,.int 1,.int 4]) h2 h2';have hc2:∃ s:Int,c=.int s/\1<=s/\s<=4:=by
   simp only [J2,Ka,or_false] at hm;rcases hm with rfl | rfl | rfl | rfl
   ·exact⟨1,rfl,by decide,by decide⟩
   ·exact⟨1,rfl,by decide,by decide⟩
   ·exact⟨1,rfl,by decide,by decide⟩
   ·exact⟨4,rfl,by decide,by decide⟩
  obtain⟨s,rfl,s0,s1⟩:=hc2;have bs:Bt 4 s:=by unfold Bt; omega
  refine⟨_,_,hp3,hc,a,s,rfl,by omega,bs.mono (by decide),d2.1,λr3 S3 h3 h3' d3=>?_⟩
  have b1:Bt 4 (r1 - m):=by unfold Bt; omega
  have b2:Bt 4 (1+r3):=by unfold Bt; omega
  exact⟨_,_,rfl,by omega,b2.mono (by decide),w _ _ (Sz.divInt b1 b2 (by omega)) (d1.trans ((Dr.new d1.1 hp).trans (d2.trans d3)))⟩
def gS:bE:=λds S k=>∃ (a:KN) (m:Int),ds=[.ref a,.int m]/\1<=m/\m<=9/\n5 S a/\∀ q S',Sz 4 q->q≠0->Dr a S S'->k (fr q) S'
theorem jw:ao ["state","most","found"] ["state","most"] (aj gE):=cG
theorem pk (Fn:FN K "_law_nought" gE f fd) (aq:bf P w K mg base "_law_fraction" 3 bG):
  aQ P w K mg base b8 4 f fd ["state","most"] (ca K gS):=by
 refine Fn.okJ jw (λds S k h=>?_) (λcdv A outer s H E hr=>⟨_,(ag (am (i:=2) jw.nd (dq aq hr (aH 0 (aH 1 ac)))) (ah (ai (pH (au kN (dz 2) ae (ar _)) (af 2) (aC (aa ae (aa ae ac))))))),λds S k h=>?_⟩)
 ·obtain⟨_,_,rfl,_⟩:=h
  rfl
 ·obtain⟨a,m,rfl,m1,m4,hS,w⟩:=h;refine⟨a,m,rfl,m1,m4,hS,λq S1 hq d1=>hZ (λn=>w q S1 hq (λz=>n (by rw [z]; rfl)) d1) (λ_=>⟨few,w 1 S1 ⟨by decide,by decide⟩ (by decide) d1⟩)⟩
def lV:bE:=λds S k=>∃ (a:KN) (c:Zr) (ep:Nat),ds=[.ref a]/\S a=some (sU (fb c) ep)/\(c.map (·.1)).Nodup/\c.length<=100/\∀ S' p ep',bh S S'->S p=none->S' p=some (sU (fb (nz c)) ep')->k (.ref p) S'
theorem p5:ao ["sums"] ["sums"] (aj i_):=cG
theorem p7 (Fn:FN K "_law_clean" i_ f fd) (mV:mg "dict"=none):
  aQ P w K mg base b8 1 f fd ["sums"] (ca K lV):=by
 refine Fn.okJ p5 (λds S k h=>?_) (λcdv A outer s H E hr=>⟨_,(ah (ai (bC (Fu hr) rfl mV xa (aa (o6 rfl (dk (N:=["powers","sums"]) (cap:=[none,some 0]) rfl rfl rfl rfl ⟨rfl,trivial⟩ rfl rfl ⟨⟨rfl,.inl rfl,.inl rfl⟩,trivial⟩) (wF (af 0)) (λ_ _ _ _=>(aO (i:=0) (show List.Nodup (["powers","sums"]:List Str) from by decide +kernel))) (λ_ _ _ _=>(au kN (aD pd (oB hr (af 1) (af 0) Zf) ae Zf) ae (ar _))) (λ_ _ _ _=>(aC (aH 0 (aa (oB hr (af 1) (af 0) Zf) ac))))) ac)))),λds S k h=>?_⟩)
 ·obtain⟨_,_,_,rfl,_⟩:=h
  rfl
 ·obtain⟨a,c,ep,rfl,ha,nd,hl,w⟩:=h;refine⟨_,_,ha,λp2 hp2=>?_⟩
  rw [Hd];exact wo (S:=S) hp2 ha nd (λS2 x2 h2=>.inr ⟨_,h2,λp3 hp3 e5=>w _ p3 e5 (x2.trans (bh.new hp3)) (x2.none hp3) (by rw [ak,mS (f:=fr) (qQ nd)])⟩) c [] none _ rfl (bh.new hp2) ak hl
structure uP (n:Nat) (c:Zr):Prop where
 nd:(c.map (·.1)).Nodup
 hl:c.length<=n
 sm:tQ c
 hz:∀ p∈c,Sz 30 p.2
theorem uP.nil:uP 0 []:=⟨List.nodup_nil,by decide,λp h=>(nomatch h),λp h=>(nomatch h)⟩
theorem uP.put {n:Nat} {c:Zr} (h:uP n c) {i j:Int} {x:Rat} (i0:0<=i) (j0:0<=j) (i1:i<=9) (j1:j<=9) (hx:Sz 30 x):∃ c',ni (fb c) [i,j] (fr x)=fb c'/\uP (n+1) c'/\([i,j],x)∈c'/\(∀ p∈c,p.1≠[i,j]->p∈c')/\∀ p∈c',p∈c\/p=([i,j],x):=by
 obtain⟨c',e,nd,hl,mm,m1,m2⟩:=AK (l:=c) (k:=[i,j]) (x:=x);have:=h.hl;refine⟨c',e,⟨nd h.nd,by omega,λp hp=>?_,λp hp=>?_⟩,m1,m2,mm⟩
 ·rcases mm p hp with m | rfl
  ·exact h.sm p m
  ·exact⟨i,j,rfl,i0,j0,i1,j1⟩
 ·rcases mm p hp with m | rfl
  ·exact h.hz p m
  ·exact hx
theorem uP.nz {n:Nat} {c:Zr} (h:uP n c):uP n (nz c):=⟨qQ h.nd,Kn D7 h.hl,λp hp=>h.sm p (sh.mp hp).1,λp hp=>h.hz p (sh.mp hp).1⟩
theorem uP.mono {m n:Nat} {c:Zr} (h:uP m c) (hm:m<=n):uP n c:=⟨h.nd,Kn h.hl hm,h.sm,h.hz⟩
theorem Hc {S:DH} {a p:KN} {l:List (List Int×D)} {ep:Nat} (h:n5 S a) (e:S p=some (sU l ep)):p≠a:=λz=>by
 obtain⟨n,b,e2,_⟩:=h;rw [z,e2] at e;cases e
theorem zS {c:DT} {t e b2:DS} {M:lZ} {L:Lo} {S:DH} (P:Lo->DH->Prop) (h2:∀ L S,P L S->b2 M L S) (h1:(∀ L S,P L S->b2 M L S)->xT c t e {M with nx:=b2 M} L S):rW (xT c t e) b2 M L S:=h1 h2
theorem n5.ext {a:KN} {S S':DH} (h:n5 S a) (x:bh S S'):n5 S' a:=by
 obtain⟨n,b,e,q⟩:=h;exact⟨n,b,x _ _ e,q⟩
theorem Dr.ext {a:KN} {S S' S'':DH} (h:Dr a S S') (x:bh S' S''):Dr a S S'':=⟨h.1.ext x,λb o n e=>x _ _ (h.2 b o n e)⟩
theorem Dr.non' {a p:KN} {S S':DH} (h:Dr a S S') (hp:S' p=none):S p=none:=by
 cases e:S p with
 | none=>rfl
 | some o=>rw [h.2 p o (h.1.ne hp) e] at hp; cases hp
theorem Dr.putN {a p:KN} {S T:DH} {o:DO} (d:Dr a S T) (hp:S p=none) (n:p≠a):Dr a S (put T p o):=⟨d.1.set n,λb u nb e=>by
 rw [cm (λz=>by rw [z,hp] at e; cases e)]
 exact d.2 b u nb e⟩
theorem Dr.keep {a p:KN} {S S':DH} {o:DO} (h:Dr a S S') (n:p≠a) (e:S p=some o):S' p=some o:=h.2 p o n e
theorem vc {S:DH} {p f:KN} {c:Zr} {e1:Nat} {k:DK} (hp:S p=none) (hf:S f=some (sU (fb c) e1)) (sm:tQ c) (kk:∀ S2 ks,bh S S2->S2 p=some (.lst ks)->(ks=[]->∀ x∈c,x.1=[0,0])->(ks≠[]->c≠[])->k (.ref p) S2):
  ∀ (a_ don:Zr) (acc:List D) (l0:KO D) (S1:DH),c=don++a_->bh S S1->S1 p=some (.lst acc)->(acc=[]->∀ x∈don,x.1=[0,0])->acc.length<=don.length->c.length<=100->
   bK (λS=>S f=some (sU (fb c) e1)) p (eV 0) (oj (h_ (xp Ef (cL 0) (EX (eX (dC (D.int 0)) (eX (dC (D.int 0)) ng))))) (cL 0)) k (a_.map λx=>l_ x.1) acc [l0] S1
 | [],don,acc,l0,S1,ec,x1,h1,h2,h3,_=>by
  rw [Ke] at ec;subst ec;refine⟨x1 _ _ hf,kk S1 acc x1 h1 h2 λn z=>n ?_⟩
  rw [z] at h3;exact KJ.mp (Nat.le_zero.mp h3)
 | q::a_,don,acc,l0,S1,ec,x1,h1,h2,h3,hl=>by
  have f1:=x1 _ _ hf;have hd:don.length < 100:=by have:=congrArg List.length ec; rw [Kc,J9] at this; omega
  have ec':c=(don++[q])++a_:=by rw [ec]; simp
  obtain⟨i,j,e,_⟩:=sm q (by rw [ec]; simp)
  rw [J8,e];refine⟨f1,few,_,Eo (n:=7) (eq_int (n:=7) (i:=i) (j:=0)) (eq_int (n:=7) (i:=j) (j:=0)),iy (λ_=>⟨h1,lim (by omega),?_⟩) (λez=>?_)⟩
  ·exact vc hp hf sm kk a_ (don++[q]) _ _ _ ec' (x1.put hp) ak (λz=>by simp at z) (by rw [Kc,Kc]; simp; exact h3) hl
  ·refine vc hp hf sm kk a_ (don++[q]) _ _ _ ec' x1 h1 (λz x hx=>?_) (by rw [Kc]; omega) hl
   rcases List.mem_append.mp hx with m | m
   ·exact h2 z x m
   ·have:x=q:=by simpa using m
    rw [this,e];simp only [Ko,beq_iff_eq] at ez;rw [ez.1,ez.2]
theorem JA {a b r:Rat}:tQ (FU a b r):=λp hp=>by
 simp only [J2,Ka,or_false] at hp;rcases hp with rfl | rfl | rfl <;> exact⟨_,_,rfl,by decide,by decide,by decide,by decide⟩
def JG (c:Zr):Prop:=uP 9 c/\c≠[]/\∀ p∈c,p.2≠0
def lv:bE:=λds S k=>∃ (a:KN) (m:Int),ds=[.ref a,.int m]/\m=3/\n5 S a/\∀ S' p ep c,Dr a S S'->JG c->S' p=some (sU (fb c) ep)->k (.ref p) S'
theorem bB:ao ["state","most","kind","sums","number","turn","i"] ["state","most"] (aj iN):=cG
theorem qb (Fn:FN K "_law_curve" iN f fd) (ax:bf P w K mg base "_law_take" 1 bV) (aq:bf P w K mg base "_law_fraction" 3 bG) (b6:bf P w K mg base "_law_nought" 4 gS) (jf:bf P w K mg base "_law_clean" 1 lV) (bH:mg "range"=none):
  aQ P w K mg base b8 5 f fd ["state","most"] (ca K lv):=by
 refine Fn.okJ bB (λds S k h=>?_) (λcdv A outer s H E hr=>⟨_,(ag (am (i:=2) bB.nd (dq ax hr (aH 0 (aa ae ac)))) (ag (ay (au (yV hr) (af 2) ae (ar _)) (ah (am (i:=3) bB.nd (wI hr (iM (aC (aa ae (aa ae ac))) (dq aq hr (aH 0 (aa ae ac))) (iM (aC (aa ae (aa ae ac))) (dq aq hr (aH 0 (aa ae ac))) (iM (aC (aa ae (aa ae ac))) (dq aq hr (aH 0 (aa ae ac))) zm)))))) (ah (ay (au (yV hr) (af 2) ae (ar _)) (ag (am (i:=4) bB.nd (dq b6 hr (aH 0 (aa ae ac)))) (ag (am (i:=3) bB.nd (wI hr (iM (aC (aa ae (aa ae ac))) (af 4) (iM (aC (aa ae (aa ae ac))) (af 4) (iM (aC (aa ae (aa ae ac))) (dq aq hr (aH 0 (aa ae ac))) (iM (aC (aa ae (aa ae ac))) (dq aq hr (aH 0 (aa ae ac))) zm)))))) (ah (fJ (dq aq hr (aH 0 (aa ae ac))) (oD hr (af 3) (aC (aa ae (aa ae ac)))))))) (ag (am (i:=3) bB.nd wx) (ah (g8 PassesOwn.never rfl rfl bH (aa (aB bv ae (dq ax hr (aH 0 (aa ae ac)))) ac) (aO (i:=5) bB.nd) (ag (am (i:=6) bB.nd (dq ax hr (aH 0 (aa (aB bv (af 1) ae) ac)))) (ah (fJ (dq aq hr (aH 0 (aa ae ac))) (oD hr (af 3) (aC (aH 6 (aa (dq ax hr (aH 0 (aa (aB o_ (aB bv (af 1) ae) (af 6)) ac))) ac))))))))))))) (ag (am (i:=3) bB.nd (dq jf hr (aH 3 ac))) (ag (ay (au (yV hr) (o6 rfl (dk (N:=["powers"]) (cap:=[none]) rfl rfl rfl rfl trivial rfl rfl trivial) (wF (af 3)) (λ_ _ _ _=>(aO (i:=0) (show List.Nodup (["powers"]:List Str) from by decide +kernel))) (λ_ _ _ _=>(au (Hj hr) (af 0) (aC (aa ae (aa ae ac))) (ar _))) (λ_ _ _ _=>(af 0))) (cn ac) (ar _)) (ah (fJ (aC (aa ae (aa ae ac))) (oD hr (af 3) (aC (aa ae (aa ae ac)))))) az) (ah (ai (af 3))))))),λds S k h=>?_⟩)
 ·obtain⟨_,_,rfl,_⟩:=h
  rfl
 ·obtain⟨a,m,rfl,rfl,hS,w⟩:=h;refine⟨a,4,rfl,by decide,by decide,hS,λr1 S1 h1 h1' d1=>?_⟩
  dsimp only;refine zS (λL S'=>∃ r2 p r4 r5 r6 ep c,L=[some (.ref a),some (.int 3),r2,some (.ref p),r4,r5,r6]/\uP 8 c/\S' p=some (sU (fb c) ep)/\Dr a S S') ?_ ?_
  ·rintro L S' ⟨r2,p,r4,r5,r6,ep,c,rfl,hc,hp,d⟩;have hl:=hc.hl;refine⟨p,c,ep,rfl,hp,hc.nd,by omega,λS2 q e2 x2 hq h2=>?_⟩
   refine⟨_,_,h2,λr hr=>?_⟩
   rw [Hd];have hn:=hc.nz;have hnl:=hn.hl;have nq:q≠a:=d.1.ne hq;have Sq:=d.non' hq;refine vc (S:=S2) hr h2 hn.sm (λS3 ks x3 h3 k1 k2=>⟨few,λr' hr'=>?_⟩) (nz c) [] [] none _ rfl (bh.new hr) ak (λ_ x hx=>nomatch hx) (JX _) (by omega)
   have nr:r≠r':=ve h3 hr';have x4:=(x2.trans x3).trans (bh.new (o:=.lst []) hr');have h4:=(x3.trans (bh.new (o:=.lst []) hr')) _ _ h2;have y1:put S3 r' (.lst []) r=some (.lst ks):=by rw [cm nr]; exact h3
   have y2:put S3 r' (.lst []) r'=some (.lst []):=ak;have d4:=d.ext x4;generalize put S3 r' (.lst [])=S4 at x4 h4 y1 y2 d4 ⊢
   by_cases hk:ks=[]
   ·subst hk;refine⟨[],[],true,y1,y2,.inl ⟨rfl,rfl⟩,wa ⟨few,few,_,_,[1,0],h4,rfl,by rw [oz]; exact lim (by omega),λe5=>?_⟩⟩
    obtain⟨c',ec,hc',m1,m2,mm⟩:=hn.put (i:=1) (j:=0) (x:=1) (by decide) (by decide) (by decide) (by decide) ⟨by decide,by decide⟩
    have ec:ni (fb (nz c)) [1,0] (D.tup [.int 1,.int 1])=fb c':=ec;refine w _ q e5 c' (d4.putN Sq nq) ⟨hc',List.ne_nil_of_mem m1,λp hp=>?_⟩ (by rw [ak,ec])
    rcases mm p hp with m | rfl
    ·exact(sh.mp m).2
    ·show(1:Rat)≠0
     decide
   ·exact⟨ks,[],false,y1,y2,.inr ⟨λz=>hk (KJ.mp z),rfl⟩,Ch (w _ q e2 (nz c) d4 ⟨hn.mono (by decide),k2 hk,λp hp=>(sh.mp hp).2⟩ h4)⟩
  ·intro F;refine⟨_,eq_int,cz (λ_=>?_) (λ_=>⟨_,eq_int,cz (λ_=>?_) (λ_=>?_)⟩)⟩
   ·intro p hp e0;have np:p≠a:=Ne.symm (d1.1.ne hp).symm;refine⟨few,a,3,rfl,by decide,by decide,d1.1.new hp,λq1 T1 z1 g1=>⟨few,a,3,rfl,by decide,by decide,g1.1,λq2 T2 z2 g2=>⟨few,a,3,rfl,by decide,by decide,g2.1,λq3 T3 z3 g3=>?_⟩⟩⟩
    refine⟨e0,fb [([1,0],q1),([0,1],q2),([0,0],q3)],g3.keep np (g2.keep np (g1.keep np ak)),rfl,by show 3<=15; decide,λe1=>?_⟩
    exact F _ _ ⟨_,p,_,_,_,e1,FU q1 q2 q3,rfl,⟨zV,by show 3<=8; decide,JA,IL (P:=Sz 30) (z1.mono (by decide)) (z2.mono (by decide)) (z3.mono (by decide))⟩,by rw [ak,mS (f:=fr) (l:=FU q1 q2 q3) zV],(d1.trans ((Dr.new d1.1 hp).trans (g1.trans (g2.trans g3)))).putN (d1.non' hp) np⟩
   ·refine⟨a,2,rfl,by decide,by decide,d1.1,λq0 T0 z0 n0 g0=>λp hp e0=>?_⟩
    have np:p≠a:=g0.1.ne hp;have nd:(([([2,0],q0),([0,2],q0),([1,0],q0),([0,1],q0)]:Zr).map (·.1)).Nodup:=by show(([[2,0],[0,2],[1,0],[0,1]]:List (List Int))).Nodup; decide
    refine⟨few,few,few,a,4,rfl,by decide,by decide,g0.1.new hp,λq1 T1 z1 g1=>⟨few,a,4,rfl,by decide,by decide,g1.1,λq2 T2 z2 g2=>?_⟩⟩
    have nd:(([([2,0],q0),([0,2],q0),([1,0],q1),([0,1],q2)]:Zr).map (·.1)).Nodup:=nd;have hd:uP 4 [([2,0],q0),([0,2],q0),([1,0],q1),([0,1],q2)]:=⟨nd,by show 4<=4; decide,λp hp=>by
     simp only [J2,Ka,or_false] at hp;rcases hp with rfl | rfl | rfl | rfl <;> exact⟨_,_,rfl,by decide,by decide,by decide,by decide⟩,λp hp=>by
     simp only [J2,Ka,or_false] at hp;rcases hp with rfl | rfl | rfl | rfl
     ·exact z0.mono (by decide)
     ·exact z0.mono (by decide)
     ·exact z1.mono (by decide)
     ·exact z2.mono (by decide)⟩
    refine⟨e0,fb [([2,0],q0),([0,2],q0),([1,0],q1),([0,1],q2)],g2.keep np (g1.keep np ak),rfl,by show 4<=15; decide,λe1=>?_⟩
    have dd:=(d1.trans (g0.trans ((Dr.new g0.1 hp).trans (g1.trans g2)))).putN (o:=sU (gN [] (fb [([2,0],q0),([0,2],q0),([1,0],q1),([0,1],q2)])) e1) ((d1.trans g0).non' hp) np;have yy:put T2 p (sU (gN [] (fb [([2,0],q0),([0,2],q0),([1,0],q1),([0,1],q2)])) e1) p=some (sU (fb [([2,0],q0),([0,2],q0),([1,0],q1),([0,1],q2)]) e1):=by rw [ak,mS (f:=fr) nd]
    generalize put T2 p (sU (gN [] (fb [([2,0],q0),([0,2],q0),([1,0],q1),([0,1],q2)])) e1)=T3 at dd yy ⊢
    refine⟨a,9,rfl,by decide,by decide,dd.1,λq5 T5 z5 g5=>⟨few,_,_,[0,0],g5.keep np yy,rfl,by rw [oz]; exact lim (by show 4<=100; decide),λe6=>?_⟩⟩
    obtain⟨c',ec,hc',_⟩:=hd.put (i:=0) (j:=0) (x:=q5) (by decide) (by decide) (by decide) (by decide) (z5.mono (by decide))
    exact F _ _ ⟨_,p,_,_,_,e6,c',rfl,hc'.mono (by decide),by rw [ak,ec],(dd.trans g5).putN ((d1.trans g0).non' hp) np⟩
   ·intro p hp e0;have np:p≠a:=d1.1.ne hp;have Sp:=d1.non' hp;refine⟨a,5,rfl,by decide,by decide,d1.1.new hp,λr2 T2 h2 h2' g2=>⟨⟨by omega,by omega⟩,?_⟩⟩
    have d0:=d1.trans ((Dr.new (o:=sU [] e0) d1.1 hp).trans g2);refine fo (λr L S'=>∃ l2 l4 l5 l6 ep n c,L=[some (.ref a),some (.int 3),l2,some (.ref p),l4,l5,l6]/\uP n c/\r.length+n<=5/\S' p=some (sU (fb c) ep)/\Dr a S S') (λ_ _ _ _=>trivial) ?_ ?_ _ _ _ ⟨_,_,_,_,e0,0,[],rfl,uP.nil,by rw [JZ,List.length_range]; omega,g2.keep np ak,d0⟩
    ·rintro d r L S' N1 ⟨l2,l4,l5,l6,ep,n,c,rfl,hc,hl,hh,dd⟩ hN1;have hl:r.length+1+n<=5:=hl;refine⟨a,3+1,rfl,by decide,by decide,dd.1,λi T3 i0 i1 g3=>⟨a,3,rfl,by decide,by decide,g3.1,λx T4 zx g4=>⟨a,3+1 - i,rfl,by omega,by unfold Bt; omega,g4.1,λj T5 j0 j1 g5=>⟨few,_,_,[i,j],g5.keep np (g4.keep np (g3.keep np hh)),rfl,by rw [oz]; exact lim (by have:=hc.hl; omega),λe6=>?_⟩⟩⟩⟩
     obtain⟨c',ec,hc',_⟩:=hc.put (i:=i) (j:=j) (x:=x) i0 j0 (by omega) (by omega) (zx.mono (by decide))
     exact hN1 _ _ ⟨_,_,_,_,e6,n+1,c',rfl,hc',by omega,by rw [ak,ec],(dd.trans (g3.trans (g4.trans g5))).putN Sp np⟩
    ·rintro L S' ⟨l2,l4,l5,l6,ep,n,c,rfl,hc,hl,hh,dd⟩;exact F _ _ ⟨_,p,_,_,_,ep,c,rfl,hc.mono (by omega),hh,dd⟩
set_option maxHeartbeats 4000000
abbrev Z4:=Q×Q
theorem Dr.put {a q:KN} {S S1:DH} {o:DO} (h:Dr a S S1) (hq:S q=none) (z:q≠a):Dr a S (put S1 q o):=⟨h.1.set z,λb u n e=>by rw [cm (ve e hq)]; exact h.2 b u n e⟩
theorem C0 {m n:Nat} (h1:m*m < n) (h2:n < (m+1)*(m+1)) (k:Nat):k*k≠n:=λe=>by
 subst e;rcases Nat.lt_or_ge m k with h | h
 ·have:=Nat.mul_le_mul (show m+1<=k from h) (show m+1<=k from h)
  omega
 ·have:=Nat.mul_le_mul h h;omega
theorem kF {q:Rat} {m n:Nat} (h:q.num=(n:Int)) (h1:m*m < n) (h2:n < (m+1)*(m+1)):Ap q:=λr e=>by
 have e1:=congrArg Rat.num e;rw [u9,h] at e1;have:=congrArg Int.natAbs e1;rw [Int.natAbs_mul] at this;exact C0 h1 h2 _ this
theorem E7 {q:Rat} {m n:Nat} (h:q.den=n) (h1:m*m < n) (h2:n < (m+1)*(m+1)):Ap q:=λr e=>by
 have e1:=congrArg Rat.den e;rw [vg,h] at e1;exact C0 h1 h2 _ e1
def wK:List Rat:=[⟨2,1,by decide,by decide⟩,⟨3,1,by decide,by decide⟩,⟨5,1,by decide,by decide⟩,⟨1,2,by decide,by decide⟩,⟨3,4,by decide,by decide⟩,⟨6,1,by decide,by decide⟩,⟨10,9,by decide,by decide⟩,⟨7,1,by decide,by decide⟩]
structure zK (u:Rat):Prop where
 fd:Fd u
 sz:Sz 4 u
theorem zG {u:Rat} (h:u∈wK):zK u:=by
 have hs:Sz 4 u/\0 < u:=by
  revert u
  unfold wK;intro u h;simp only [J2,Ka,or_false] at h;rcases h with rfl | rfl | rfl | rfl | rfl | rfl | rfl | rfl <;> exact⟨⟨by decide,by decide⟩,by decide +kernel⟩
 have hn:Ap u:=by
  unfold wK at h;simp only [J2,Ka,or_false] at h;rcases h with rfl | rfl | rfl | rfl | rfl | rfl | rfl | rfl
  ·exact kF (m:=1) (n:=2) rfl (by decide) (by decide)
  ·exact kF (m:=1) (n:=3) rfl (by decide) (by decide)
  ·exact kF (m:=2) (n:=5) rfl (by decide) (by decide)
  ·exact E7 (m:=1) (n:=2) rfl (by decide) (by decide)
  ·exact kF (m:=1) (n:=3) rfl (by decide) (by decide)
  ·exact kF (m:=2) (n:=6) rfl (by decide) (by decide)
  ·exact kF (m:=3) (n:=10) rfl (by decide) (by decide)
  ·exact kF (m:=2) (n:=7) rfl (by decide) (by decide)
 exact⟨⟨hs.2,hn,hs.1.mono (by decide)⟩,hs.1⟩
theorem FT {a:Rat}:Rat.divInt (a.num*kQ a.num) ((a.den:Int)*(a.den:Int))=ss a:=by
 have:=EA a 1;rw [Int.mul_one] at this;rw [this]
 show ss a*((1:Int):Rat)=ss a
 rw [show ((1:Int):Rat)=1 from rfl]
 grind
def lE:bE:=λds S k=>∃ (x:Q) (u:Rat),ds=[B x,fr u]/\Sz 7 u/\Sq 900 x/\k (N u x.1 x.2) S
theorem gP:ao ["number","base","by","size"] ["number","base"] (aj iK):=cG
theorem qd (Fn:FN K "_law_shown" iK f fd) (fg:bf P w K mg base "_law_times" 3 lB) (eW:mg "abs"=none):
  aQ P w K mg base b8 4 f fd ["number","base"] (ca K lE):=by
 refine Fn.okJ gP (λds S k h=>?_) (λcdv A outer s H E hr=>⟨_,(ag (am (i:=2) gP.nd (dz 0)) (ag (am (i:=3) gP.nd (aC (aa (aA qL rfl eW mO (aa (dz 2) ac)) (aa (dz 2) ac)))) (ah (ai (aC (aa (dz 0) (aa (dq fg hr (aH 1 (aa (dq fg hr (aH 2 (aH 3 ac))) ac))) ac))))))),λds S k h=>?_⟩)
 ·obtain⟨_,_,rfl,_⟩:=h
  rfl
 ·obtain⟨x,u,rfl,su,hx,w⟩:=h;have s2:=hx.b.ss;unfold N at w;rw [Rat.mul_comm (ss x.2)] at w;exact⟨few,_,_,_,_,_,rfl,fN x.2 x.2,hx.b.num.mono (by decide),hx.b.den.mono (by decide),(Ce hx.b.num).mono (by decide),hx.b.den.mono (by decide),FT,_,_,_,_,_,rfl,fN _ _,su.num.mono (by decide),su.den.mono (by decide),s2.num.mono (by decide),s2.den.mono (by decide),wb _ _,few,w⟩
def nM:bE:=λds S k=>∃ a,ds=[.ref a]/\n5 S a/\∀ u S',zK u->Dr a S S'->k (fr u) S'
theorem sN:ao ["state"] ["state"] (aj jD):=cG
theorem rM (Fn:FN K "_law_base" jD f fd) (ax:bf P w K mg base "_law_take" 1 bV):
  aQ P w K mg base b8 2 f fd ["state"] (ca K nM):=by
 refine Fn.okJ sN (λds S k h=>?_) (λcdv A outer s H E hr=>⟨_,(ah (ai (aD pd (cn (aa (aC (aa ae (aa ae ac))) (aa (aC (aa ae (aa ae ac))) (aa (aC (aa ae (aa ae ac))) (aa (aC (aa ae (aa ae ac))) (aa (aC (aa ae (aa ae ac))) (aa (aC (aa ae (aa ae ac))) (aa (aC (aa ae (aa ae ac))) (aa (aC (aa ae (aa ae ac))) ac))))))))) (dq ax hr (aH 0 (aa ae ac))) Zf))),λds S k h=>?_⟩)
 ·obtain⟨_,rfl,_⟩:=h
  rfl
 ·obtain⟨a,rfl,hS,w⟩:=h;refine⟨few,few,few,few,few,few,few,few,few,λp hp=>⟨a,8,rfl,by decide,by decide,hS.new hp,λr S1 h1 h1' d1=>?_⟩⟩
  have hp1:=d1.2 p _ (hS.ne hp) ak;obtain⟨c,hc,hm⟩:=oC (ds:=wK.map fr) h1 h1';obtain⟨u,hu,rfl⟩:=JY.mp hm;exact⟨_,_,hp1,hc,w u S1 (zG hu) ((Dr.new hS hp).trans d1)⟩
def fB:bE:=λds S k=>∃ (z:Z4) (u:Rat),ds=[BP z.1 z.2,fr u]/\Sz 7 u/\Sq 900 z.1/\Sq 900 z.2/\k (Pq u z.1 z.2) S
theorem kl:ao ["point","base"] ["point","base"] (aj de):=cG
theorem kj (Fn:FN K "_law_shown_point" de f fd) (fv:bf P w K mg base "_law_shown" 4 lE):
  aQ P w K mg base b8 5 f fd ["point","base"] (ca K fB):=by
 refine Fn.okJ kl (λds S k h=>?_) (λcdv A outer s H E hr=>⟨_,(ah (ai (aC (aa (dq fv hr (aa (dz 0) (aH 1 ac))) (aa (dq fv hr (aa (dz 0) (aH 1 ac))) ac))))),λds S k h=>?_⟩)
 ·obtain⟨_,_,rfl,_⟩:=h
  rfl
 ·obtain⟨z,u,rfl,su,h1,h2,w⟩:=h;exact⟨_,u,rfl,su,h1,_,u,rfl,su,h2,few,w⟩
def JQ (z:Z4):Prop:=Sz 4 z.1.1/\Sz 4 z.1.2/\Sz 4 z.2.1/\Sz 4 z.2.2
def gB:bE:=λds S k=>∃ (a:KN) (r:KY),ds=[.ref a,.bl r]/\n5 S a/\∀ z S',JQ z->Dr a S S'->k (BP z.1 z.2) S'
theorem bN:ao ["state","rooted","point","k","by"] ["state","rooted"] (aj dD):=cG
theorem k7 (Fn:FN K "_law_pair_point" dD f fd) (ax:bf P w K mg base "_law_take" 1 bV) (aq:bf P w K mg base "_law_fraction" 3 bG) (bH:mg "range"=none) (aK:mg "tuple"=none):
  aQ P w K mg base b8 4 f fd ["state","rooted"] (ca K gB):=by
 refine Fn.okJ bN (λds S k h=>?_) (λcdv A outer s H E hr=>⟨_,(ag (am (i:=2) bN.nd (cn ac)) (ag (g8 PassesOwn.never rfl rfl bH (aa ae ac) (aO (i:=3) bN.nd) (ag (am (i:=4) bN.nd (aC (aa ae (aa ae ac)))) (ag (ay (WJ.pt (iQ (aL (af 1)) (fY (au tZ (dq ax hr (aH 0 (aa ae ac))) ae (ar _))))) (ah (am (i:=4) bN.nd (dq aq hr (aH 0 (aa ae ac))))) az) (ah (bU (gX (af 2) (aC (aa (dq aq hr (aH 0 (aa ae ac))) (aH 4 ac))))))))) (ah (ai (bC kd rfl aK cw (aH 2 ac)))))),λds S k h=>?_⟩)
 ·obtain⟨_,_,rfl,_⟩:=h
  rfl
 ·obtain⟨a,r,rfl,hS,w⟩:=h;refine⟨few,λq hq=>⟨⟨by decide,by decide⟩,?_⟩⟩
  have qa':q≠a:=hS.ne hq;refine fo (λr' L S'=>∃ (zs:List Q) (l3 l4:KO D),L=[some (.ref a),some (.bl r),some (.ref q),l3,l4]/\Dr a S S'/\S' q=some (.lst (zs.map B))/\(∀ x∈zs,Sq 4 x)/\zs.length+r'.length=2) (λ_ _ _ _=>trivial) ?_ ?_ _ _ _ ⟨[],_,_,rfl,Dr.new hS hq,ak,(λ_ h=>nomatch h),rfl⟩
  ·rintro d r' L S1 N1 ⟨zs,l3,l4,rfl,D1,h1,hok,hlen⟩ hN;have hlen:zs.length+(r'.length+1)=2:=hlen;refine⟨few,?_⟩;dsimp only;refine zS (λL S'=>Dr a S S'/\S' q=some (.lst (zs.map B))/\∃ b,L=[some (.ref a),some (.bl r),some (.ref q),some d,some (fr b)]/\Sz 4 b) ?_ (λgo=>?_)
   ·rintro L S2 ⟨D2,h2,b,rfl,hb⟩;refine⟨⟨_,h2⟩,a,4,rfl,by decide,by decide,D2.1,λx S3 hx d3=>⟨few,_,d3.2 q _ qa' h2,by rw [JZ]; exact AN (by omega),hN _ _ ⟨zs++[(x,b)],_,_,rfl,Dr.put (D2.trans d3) hq qa',by rw [ak,List.map_append]; rfl,λy hy=>?_,by rw [Kc]; show zs.length+1+r'.length=2; omega⟩⟩⟩
    rcases List.mem_append.mp hy with h | h
    ·exact hok y h
    ·rw [List.mem_singleton.mp h]; exact⟨hx,hb⟩
   ·have z0:Sz 4 (0:Rat):=Sz.zero.mono (by decide)
    cases r with
    | false=>exact go _ _ ⟨D1,h1,0,rfl,z0⟩
    | true=>exact⟨a,3,rfl,by decide,by decide,D1.1,λr3 S2 _ _ d2=>aF (λ_=>⟨a,2,rfl,by decide,by decide,d2.1,λb S3 hb d3=>go _ _ ⟨D1.trans (d2.trans d3),d3.2 q _ qa' (d2.2 q _ qa' h1),b,rfl,hb⟩⟩) (λ_=>go _ _ ⟨D1.trans d2,d2.2 q _ qa' h1,0,rfl,z0⟩)⟩
  ·rintro L S1 ⟨zs,l3,l4,rfl,D1,h1,hok,hlen⟩
   match zs,hlen with
   | [x,y],_=>exact⟨_,h1,w (x,y) S1 ⟨(hok x (by simp)).a,(hok x (by simp)).b,(hok y (by simp)).a,(hok y (by simp)).b⟩ D1⟩
set_option maxHeartbeats 4000000
theorem sz2 {x y:Rat} (hx:Sz 4 x) (hy:Sz 4 y):∀ q∈[x,y],Sz 6 q:=λq hq=>by
 simp only [J2,Ka,or_false] at hq;rcases hq with rfl | rfl
 ·exact hx.mono (by decide)
 ·exact hy.mono (by decide)
theorem HV {x y z:Rat} (hx:Sz 4 x) (hy:Sz 4 y) (hz:Sz 4 z):∀ q∈[x,y,z],Sz 6 q:=λq hq=>by
 rcases J2.mp hq with rfl | hq
 ·exact hx.mono (by decide)
 ·exact sz2 hy hz q hq
def DY:List (Rat×Rat):=[(⟨3,5,by decide,by decide⟩,⟨4,5,by decide,by decide⟩),(0,1),(⟨-5,13,by decide,by decide⟩,⟨12,13,by decide,by decide⟩),(-1,0),(⟨8,17,by decide,by decide⟩,⟨-15,17,by decide,by decide⟩)]
theorem E5 {p:Rat×Rat} (h:p∈DY):p.1*p.1+p.2*p.2=1/\Sz 6 p.1/\Sz 6 p.2:=by
 unfold DY at h;simp only [J2,Ka,or_false] at h;rcases h with rfl | rfl | rfl | rfl | rfl <;> exact⟨by decide +kernel,⟨by decide,by decide⟩,⟨by decide,by decide⟩⟩
def nU:bE:=λds S k=>∃ (a:KN) (i:Int),ds=[.ref a,.int i]/\0<=i/\i<=1/\n5 S a/\∀ (l:Le) S',l.ok->Dr a S S'->k l.d S'
theorem cO:ao ["state","inverts","way","x","y","some"] ["state","inverts"] (aj jL):=cG
theorem rP (Fn:FN K "_law_lead" jL f fd) (ax:bf P w K mg base "_law_take" 1 bV) (aq:bf P w K mg base "_law_fraction" 3 bG) (b6:bf P w K mg base "_law_nought" 4 gS):
  aQ P w K mg base b8 5 f fd ["state","inverts"] (ca K nU):=by
 refine Fn.okJ cO (λds S k h=>?_) (λcdv A outer s H E hr=>⟨_,(ag (am (i:=2) cO.nd (dq ax hr (aH 0 (aa (aB bv ae (af 1)) ac)))) (ag (am (i:=3) cO.nd (dq aq hr (aH 0 (aa ae ac)))) (ag (am (i:=4) cO.nd (dq aq hr (aH 0 (aa ae ac)))) (ag (ay (au dX (af 2) ae (ar _)) (ah (ai (aC (aa aG (aH 3 (aH 4 ac)))))) az) (ag (ay (au dX (af 2) ae (ar _)) (ah (ai (aC (aa aG (aH 3 (aH 4 (aa (dq b6 hr (aH 0 (aa ae ac))) ac))))))) az) (ag (ay (au dX (af 2) ae (ar _)) (ag (am (i:=5) cO.nd (cn (aa (aC (aa (aC (aa ae (aa ae ac))) (aa (aC (aa ae (aa ae ac))) ac))) (aa (aC (aa (aC (aa ae (aa ae ac))) (aa (aC (aa ae (aa ae ac))) ac))) (aa (aC (aa (aC (aa (q_ qM ae) (aa ae ac))) (aa (aC (aa ae (aa ae ac))) ac))) (aa (aC (aa (aC (aa (q_ qM ae) (aa ae ac))) (aa (aC (aa ae (aa ae ac))) ac))) (aa (aC (aa (aC (aa ae (aa ae ac))) (aa (aC (aa (q_ qM ae) (aa ae ac))) ac))) ac))))))) (ah (ai (aB bv (aC (aa aG (aH 3 (aH 4 ac)))) (aD pd (af 5) (dq ax hr (aH 0 (aa ae ac))) Zf))))) az) (ag (ay (au dX (af 2) ae (ar _)) (ag (ay (WJ.pt (iQ (au dX (dz 3) ae (ar _)) (fY (au dX (dz 4) ae (ar _))))) (ah (am (i:=3) cO.nd (aC (aa ae (aa ae ac))))) az) (ah (ai (aC (aa aG (aH 3 (aH 4 (aa (dq aq hr (aH 0 (aa ae ac))) ac)))))))) az) (ah (ai (aC (aa aG (aH 3 (aH 4 (aa (dq b6 hr (aH 0 (aa ae ac))) ac)))))))))))))),λds S k h=>?_⟩)
 ·obtain⟨_,_,rfl,_⟩:=h
  rfl
 ·obtain⟨a,i,rfl,i0,i1,hS,w⟩:=h;refine⟨a,4+i,rfl,by omega,Bt.mono (m:=4) (by unfold Bt; omega) (by decide),hS,λr S1 h1 h1' d1=>⟨a,3,rfl,by decide,by decide,d1.1,λx S2 hx d2=>⟨a,3,rfl,by decide,by decide,d2.1,λy S3 hy d3=>?_⟩⟩⟩
  have D3:=d1.trans (d2.trans d3);refine aF (λ_=>⟨few,w ⟨_,[x,y]⟩ S3 ⟨.shift x y,sz2 hx hy⟩ D3⟩) (λ_=>aF (λ_=>⟨a,2,rfl,by decide,by decide,d3.1,λb S4 hb b0 d4=>⟨few,w ⟨_,[x,y,b]⟩ S4 ⟨.grow x y b b0,HV hx hy hb⟩ (D3.trans d4)⟩⟩) (λ_=>aF (λ_=>?_) (λ_=>aF (λ_=>?_) (λ_=>⟨a,4,rfl,by decide,by decide,d3.1,λb S4 hb b0 d4=>⟨few,w ⟨_,[x,y,b]⟩ S4 ⟨.invert x y b b0,HV hx hy hb⟩ (D3.trans d4)⟩⟩))))
  ·refine⟨few,few,few,few,few,few,few,few,few,few,few,few,few,few,few,few,λp hp=>⟨few,a,5,rfl,by decide,by decide,d3.1.new hp,λr4 S4 h4 h4' d4=>?_⟩⟩
   have hp4:=d4.2 p _ (d3.1.ne hp) ak;obtain⟨c,hc,hm⟩:=oC (ds:=DY.map λp=>W p.1 p.2) h4 h4'
   obtain⟨pq,hpq,rfl⟩:=JY.mp hm;obtain⟨r1,r2,r3⟩:=E5 hpq;refine⟨_,_,hp4,hc,by simp,by simp,Kb rfl,w ⟨_,[x,y,pq.1,pq.2]⟩ S4 ⟨.turn x y pq.1 pq.2 r1,λq hq=>?_⟩ (D3.trans ((Dr.new d3.1 hp).trans d4))⟩
   simp only [J2,Ka,or_false] at hq;rcases hq with rfl | rfl | rfl | rfl
   ·exact hx.mono (by decide)
   ·exact hy.mono (by decide)
   ·exact r2
   ·exact r3
  ·have fin:∀ x':Rat,Sz 4 x'->x'≠0\/y≠0->bG [.ref a,.int 3] S3 λd S'=>k (.tup [.str "mirror",fr x',fr y,d]) S':=λx' hx' n=>⟨a,3,rfl,by decide,by decide,d3.1,λc S4 hc d4=>w ⟨_,[x',y,c]⟩ S4 ⟨.mirror x' y c n,HV hx' hy hc⟩ (D3.trans d4)⟩
   refine aF (λzx=>aF (λzy=>?_) (λzy=>?_)) (λzx=>?_)
   ·obtain⟨a',m',e',r1,r2,r3,r4⟩:=fin 1 ⟨by decide,by decide⟩ (.inl (by decide))
    exact⟨few,a',m',e',r1,r2,r3,λq S' hq d=>⟨few,r4 q S' hq d⟩⟩
   ·obtain⟨a',m',e',r1,r2,r3,r4⟩:=fin x hx (.inr λz=>zy (by rw [z]; rfl))
    exact⟨a',m',e',r1,r2,r3,λq S' hq d=>⟨few,r4 q S' hq d⟩⟩
   ·obtain⟨a',m',e',r1,r2,r3,r4⟩:=fin x hx (.inl λz=>zx (by rw [z]; rfl))
    exact Ch ⟨a',m',e',r1,r2,r3,λq S' hq d=>⟨few,r4 q S' hq d⟩⟩
def mq:bE:=λds S k=>∃ (a:KN) (m n:Int),ds=[.ref a,.int m,.int n]/\1<=m/\m<=6/\n5 S a/\∀ (ls:List Le) S' p,(∀ l∈ls,l.ok)->1<=ls.length->ls.length<=6->Dr a S S'->S' p=some (.lst (ls.map Le.d))->p≠a->k (.ref p) S'
theorem cA:ao ["state","most","inverts","found","left","k","lead"] ["state","most","inverts"] (aj i5):=cG
theorem p8 (Fn:FN K "_law_leads" i5 f fd) (ax:bf P w K mg base "_law_take" 1 bV) (jB:bf P w K mg base "_law_lead" 5 nU) (bH:mg "range"=none) (eI:mg "int"=none):
  aQ P w K mg base b8 6 f fd ["state","most","inverts"] (ca K mq):=by
 refine Fn.okJ cA (λds S k h=>?_) (λcdv A outer s H E hr=>⟨_,(ag (am (i:=3) cA.nd (cn ac)) (ag (am (i:=4) cA.nd (af 2)) (ag (g8 PassesOwn.never rfl rfl bH (aa (aB bv ae (dq ax hr (aH 0 (aH 1 ac)))) ac) (aO (i:=5) cA.nd) (ag (am (i:=6) cA.nd (dq jB hr (aH 0 (aa (bC yu rfl eI lb (aa (b_ tZ (af 4) ae (ar _)) ac)) ac)))) (ag (am (i:=4) cA.nd (aB o_ (af 4) (bC yu rfl eI lb (aa (b_ dX (aD cy (af 6) ae Zf) aG (ar _)) ac)))) (ah (bU (gX (af 3) (af 6))))))) (ah (ai (af 3)))))),λds S k h=>?_⟩)
 ·obtain⟨_,_,_,rfl,_⟩:=h
  rfl
 ·obtain⟨a,m,n,rfl,m1,m6,hS,w⟩:=h;refine⟨few,λq hq=>⟨a,m,rfl,by omega,Bt.mono (m:=4) (by unfold Bt; omega) (by decide),hS.new hq,λr S1 h1 h1' d1=>⟨⟨by omega,by omega⟩,?_⟩⟩⟩
  have qa':q≠a:=hS.ne hq;have D1:=(Dr.new (o:=.lst []) hS hq).trans d1;refine fo (λr' L S'=>∃ (j:Int) (ls:List Le) (l5 l6:KO D),L=[some (.ref a),some (.int m),some (.int n),some (.ref q),some (.int j),l5,l6]/\Dr a S S'/\S' q=some (.lst (ls.map Le.d))/\(∀ l∈ls,l.ok)/\ls.length+r'.length=(1+r).toNat/\∀ d∈r',∃ i:Int,d=.int i) (λ_ _ _ _=>trivial) ?_ ?_ _ _ _ ⟨n,[],_,_,rfl,D1,d1.2 q _ qa' ak,(λ_ h=>nomatch h),?_,?_⟩
  ·rintro d r' L S2 N1 ⟨j,ls,l5,l6,rfl,D2,hq2,hok,hlen,hr⟩ hN;obtain⟨i,rfl⟩:=hr d J4;refine⟨a,_,rfl,(by split <;> omega),(by split <;> omega),D2.1,λl S3 lo d3=>?_⟩
   have hq3:=d3.2 q _ qa' hq2;have hl:ls.length+(r'.length+1)=(1+r).toNat:=hlen;have ea:ls.map Le.d++[l.d]=(ls++[l]).map Le.d:=by rw [List.map_append]; rfl
   refine⟨_,bq,⟨_,hq3⟩,_,hq3,by rw [JZ]; exact AN (by omega),hN _ _ ⟨_,ls++[l],_,_,rfl,Dr.put (D2.trans d3) hq qa',by rw [ak,ea],λm hm=>?_,by rw [Kc]; show ls.length+1+r'.length=_; omega,λd hd=>hr d (J5 _ hd)⟩⟩
   rcases List.mem_append.mp hm with h | h
   ·exact hok m h
   ·rw [List.mem_singleton.mp h]; exact lo
  ·rintro L S2 ⟨j,ls,l5,l6,rfl,D2,hq2,hok,hlen,_⟩;have hlen:ls.length+0=(1+r).toNat:=hlen;exact w ls S2 q hok (by omega) (by omega) D2 hq2 qa'
  ·rw [JZ,List.length_range]; show 0+_=_; omega
  ·intro d hd;obtain⟨z,_,rfl⟩:=JY.mp hd;exact⟨_,rfl⟩
theorem H9 {a b:Int} (h:0 < a) (h':0 < b):0 < Rat.divInt a b:=by
 rw [Rat.divInt_eq_div,Rat.div_def];exact Rat.mul_pos (by exact_mod_cast h) (Rat.inv_pos.mpr (by exact_mod_cast h'))
def lN:bE:=λds S k=>∃ a,ds=[.ref a]/\n5 S a/\∀ q S',Sz 4 q/\0 < q->Dr a S S'->k (fr q) S'
theorem qe:ao ["state"] ["state"] (aj jc):=cG
theorem qr (Fn:FN K "_law_above" jc f fd) (bL:bf P w K mg base "_law_ratio" 2 fi) (ax:bf P w K mg base "_law_take" 1 bV):
  aQ P w K mg base b8 3 f fd ["state"] (ca K lN):=by
 refine Fn.okJ qe (λds S k h=>?_) (λcdv A outer s H E hr=>⟨_,(ah (ai (dq bL hr (aa (aB bv ae (dq ax hr (aH 0 (aa ae ac)))) (aa (aB bv ae (dq ax hr (aH 0 (aa ae ac)))) ac))))),λds S k h=>?_⟩)
 ·obtain⟨_,rfl,_⟩:=h
  rfl
 ·obtain⟨a,rfl,hS,q⟩:=h;refine⟨a,9,rfl,by decide,by decide,hS,λr1 S1 h1 h1' d1=>⟨a,3,rfl,by decide,by decide,d1.1,λr2 S2 h2 h2' d2=>?_⟩⟩
  have b1:Bt 4 (1+r1):=by unfold Bt; omega
  have b2:Bt 4 (1+r2):=by unfold Bt; omega
  exact⟨_,_,rfl,by omega,b2.mono (by decide),q _ _ ⟨Sz.divInt b1 b2 (by omega),H9 (by omega) (by omega)⟩ (d1.trans d2)⟩
theorem pi {bd:DB} {k:DK} {S:DH} {p:KN} {ms:List bu} {L1:Lo} (hp:S p=none)
  (hbd:∀ (i:Nat) (s:bu) (S':DH) (k':KO D->DH->Prop),ms[i]?=some s->bh S S'->k' (if s.isFix=true then some (.int (i:Nat)) else none) S'->bd (some (.int (i:Nat))::L1) S' k'):
  ∀ (r:List bu) (j:Nat) (rr acc:List D) (l0:KO D),rr=((List.range' j r.length).map fun(i:Nat)=>D.int (i:Nat))->ms.drop j=r->acc.length+r.length<=100->(∀ S',bh S S'->S' p=some (.lst (acc++fO j r))->k (.ref p) S')->
  bK (λ_=>True) p (eV 0) bd k rr acc (l0::L1) (put S p (.lst acc))
 | [],j,rr,acc,l0,hr,_,_,w=>by
  subst hr;exact⟨trivial,w _ (bh.new hp) (by rw [ak]; simp [fO])⟩
 | s::r,j,rr,acc,l0,hr,hd,hl,w=>by
  have hl:acc.length+(r.length+1)<=100:=hl;obtain⟨h0,h1⟩:=rm hd;have hr:rr=D.int (j:Nat)::((List.range' (j+1) r.length).map fun(i:Nat)=>D.int (i:Nat)):=hr
  subst hr;refine⟨trivial,hbd j s _ _ h0 (bh.new hp) ?_⟩;unfold fO at w
  by_cases hf:s.isFix=true
  ·rw [if_pos hf];rw [if_pos hf] at w;refine⟨ak,AN (by omega),?_⟩
   rw [wY];exact pi hp hbd r (j+1) _ _ _ rfl h1 (by rw [Kc]; show acc.length+1+r.length<=100; omega) λS' e h=>w S' e (by rw [h,List.append_assoc]; rfl)
  ·rw [if_neg hf];rw [if_neg hf] at w;exact pi hp hbd r (j+1) _ _ _ rfl h1 (by omega) w
theorem mP {α:Type} {f:α->D} {bd:DB} {k:DK} {S:DH} {p:KN} {ok:DH->Prop} {L1:Lo} (hp:S p=none) (hok:∀ S',bh S S'->ok S')
  (hbd:∀ (x:α) (S':DH) (k':KO D->DH->Prop),bh S S'->(∀ o,k' o S')->bd (some (f x)::L1) S' k'):
  ∀ (r:List α) (acc:List D) (l0:KO D),acc.length+r.length<=100->(∀ S' ds,bh S S'->S' p=some (.lst ds)->k (.ref p) S')->bK ok p (eV 0) bd k (r.map f) acc (l0::L1) (put S p (.lst acc))
 | [],acc,l0,_,w=>⟨hok _ (bh.new hp),w _ _ (bh.new hp) ak⟩
 | x::r,acc,l0,hl,w=>by
  have hl:acc.length+(r.length+1)<=100:=hl;refine⟨hok _ (bh.new hp),hbd x _ _ (bh.new hp) λo=>?_⟩
  cases o with
  | none=>exact mP hp hok hbd r acc _ (by omega) w
  | some v=>
   refine⟨ak,AN (by omega),?_⟩
   rw [wY];exact mP hp hok hbd r _ _ (by rw [Kc]; show acc.length+1+r.length<=100; omega) w
theorem CC {x r m:Int} (h0:0<=x) (h1:x < m) (h2:0<=r) (h3:r < m - 1):0<=(x+1+r).fmod m/\(x+1+r).fmod m < m/\(x+1+r).fmod m≠x:=by
 have hm:0 < m:=by omega
 refine⟨Kv _ hm,KH _ hm,?_⟩;rw [Int.fmod_eq_emod_of_nonneg _ (Int.le_of_lt hm)]
 by_cases h:x+1+r < m
 ·rw [Int.emod_eq_of_lt (by omega) h]; omega
 ·have e:(x+1+r) % m=(x+1+r - m) % m:=by
   have:x+1+r=(x+1+r - m)+m:=by omega
   conv=>lhs; rw [this]
   exact Int.add_emod_right _ _
  rw [e,Int.emod_eq_of_lt (by omega) (by omega)]; omega
theorem ET (ms:List bu):((List.range ((ms.map bu.d).length:Int).toNat).map fun(i:Nat)=>D.int (i:Nat))=((List.range' 0 ms.length).map fun(i:Nat)=>D.int (i:Nat)):=by
 rw [KE,JZ,List.range_eq_range']
theorem ue (s:bu):decide (s.x=Str.ofString "fix")=s.isFix:=by cases s <;> rfl
theorem bu.dx (s:bu):s.d=.tup (.str s.x::s.tl.map It.d):=by cases s <;> rfl
theorem AF {ms:List bu} (h:∃ x y,ms[0]?=some (.fix x y)):fO 0 ms≠[]:=by
 obtain⟨x,y,h⟩:=h;cases ms with
 | nil=>cases h
 | cons s r=>
  have h:some s=some (.fix x y):=h;cases h;unfold fO;rw [if_pos (show (bu.fix x y).isFix=true from rfl)]
  simp
def jv:bE:=λds S k=>∃ (a:KN),ds=[.ref a]/\n5 S a/\∀ (ms:List bu) S',Wf ms->1<=ms.length->ms.length<=7->Dr a S S'->k (MD ms) S'
theorem ba:ao ["state","steps","k","many","fixes","way","one","other","cranks"] ["state"] (aj fK):=cG
theorem on (Fn:FN K "_law_machine" fK f fd) (aq:bf P w K mg base "_law_fraction" 3 bG) (ax:bf P w K mg base "_law_take" 1 bV) (dE:bf P w K mg base "_law_above" 3 lN) (bH:mg "range"=none) (aM:mg "len"=none) (rJ:mg "max"=none) (aK:mg "tuple"=none):
  aQ P w K mg base b8 4 f fd ["state"] (ca K jv):=by
 refine Fn.okJ ba (λds S k h=>?_) (λcdv A outer s H E hr=>⟨_,(ag (am (i:=1) ba.nd (cn (aa (aC (aa aG (aa (dq aq hr (aH 0 (aa ae ac))) (aa (dq aq hr (aH 0 (aa ae ac))) ac)))) ac))) (ag (g8 PassesOwn.never rfl rfl bH (aa (dq ax hr (aH 0 (aa ae ac))) ac) (aO (i:=2) ba.nd) (ag (am (i:=3) ba.nd (aA cM rfl aM bJ (aH 1 ac))) (ag (qg (iv:=4) ba.nd rfl (dk (N:=["joint","steps"]) (cap:=[none,some 1]) rfl rfl rfl rfl ⟨rfl,trivial⟩ rfl rfl ⟨⟨rfl,.inl rfl,.inl rfl⟩,trivial⟩) rfl bH (aH 3 ac) (λ_ _ _ _=>(aO (i:=0) (show List.Nodup (["joint","steps"]:List Str) from by decide +kernel))) (λ_ _ _ _=>(au dX (aD cy (aD cy (af 1) (af 0) Zf) ae Zf) aG (ar _))) (λ_ _ _ _=>(af 0))) (ag (am (i:=5) ba.nd (dq ax hr (aH 0 (aa ae ac)))) (ag (am (i:=6) ba.nd (dq ax hr (aH 0 (aH 3 ac)))) (ag (am (i:=7) ba.nd (aB ky (aB bv (aB bv (af 6) ae) (dq ax hr (aH 0 (aa (aA CY rfl rJ Ag (aa ae (aa (aB o_ (af 3) ae) ac))) ac)))) (af 3))) (ag (am (i:=8) ba.nd (aA cM rfl aM bJ (aa (wm rfl (dk (N:=["step"]) (cap:=[none]) rfl rfl rfl rfl trivial rfl rfl trivial) (af 1) (λ_ _ _ _=>(aO (i:=0) (show List.Nodup (["step"]:List Str) from by decide +kernel))) (λ_ _ _ _=>(au dX (aD cy (af 0) ae Zf) aG (ar _))) (λ_ _ _ _=>(af 0))) ac))) (ah (ay (WJ.pt (ce (au dX (af 5) ae (ar _)) (bI (WJ.pt (iQ (au tR (af 3) ae (ar _)) (fY (au tZ (af 5) ae (ar _)))))))) (ah (bU (gX (af 1) (aC (aa aG (aa (dq aq hr (aH 0 (aa ae ac))) (aa (dq aq hr (aH 0 (aa ae ac))) ac))))))) (ah (ay (WJ.pt (iQ (au dX (af 5) ae (ar _)) (fY (au tR (af 8) ae (ar _))))) (ah (bU (gX (af 1) (aC (aa aG (aa (aD cy (af 4) (dq ax hr (aH 0 (aa (aA cM rfl aM bJ (aH 4 ac)) ac))) Zf) (aa (dq dE hr (aH 0 ac)) ac))))))) (ah (ay (WJ.pt (iQ (au dX (af 5) ae (ar _)) (fY (au tZ (af 3) ae (ar _))))) (ah (bU (gX (af 1) (aC (aa aG (aH 6 (aH 7 (aa (dq aq hr (aH 0 (aa ae ac))) (aa (dq aq hr (aH 0 (aa ae ac))) ac))))))))) (ah (ay (au tZ (af 3) ae (ar _)) (ah (bU (gX (af 1) (aC (aa aG (aH 6 (aH 7 (aa (dq dE hr (aH 0 ac)) (aa (dq dE hr (aH 0 ac)) (aa (dq ax hr (aH 0 (aa ae ac))) ac)))))))))) az))))))))))))))) (ah (ai (bC kd rfl aK cw (aH 1 ac)))))),λds S k h=>?_⟩)
 ·obtain⟨_,rfl,_⟩:=h
  rfl
 ·obtain⟨a,rfl,hS,w⟩:=h;refine⟨a,3,rfl,by decide,by decide,hS,λx0 S1 hx0 d1=>⟨a,3,rfl,by decide,by decide,d1.1,λy0 S2 hy0 d2=>⟨few,few,λp hp=>?_⟩⟩⟩
  have D2:=d1.trans d2;have hp0:S p=none:=D2.non' hp;have pa:p≠a:=hS.ne hp0;refine⟨a,7,rfl,by decide,by decide,D2.1.new hp,λn S3 n0 n1 d3=>⟨⟨by omega,by omega⟩,?_⟩⟩
  have wf0:Wf [.fix x0 y0]:=Wf.snoc (ms:=[]) Wf.nil ⟨hx0,hy0⟩;refine fo (λr' L S'=>∃ (ms:List bu) (l2 l3 l4 l5 l6 l7 l8:KO D),L=[some (.ref a),some (.ref p),l2,l3,l4,l5,l6,l7,l8]/\Dr a S S'/\S' p=some (.lst (ms.map bu.d))/\Wf ms/\(∃ x y,ms[0]?=some (.fix x y))/\1<=ms.length/\ms.length+r'.length<=7) (λ_ _ _ _=>trivial) ?_ ?_ _ _ _ ⟨[.fix x0 y0],none,none,none,none,none,none,none,rfl,(D2.putN hp0 pa).trans d3,d3.2 p _ pa ak,wf0,⟨x0,y0,rfl⟩,JX _,?_⟩
  ·rintro d r' L S4 N1 ⟨ms,l2,l3,l4,l5,l6,l7,l8,rfl,D4,h4,wf,hf,m1,m7⟩ hN;have m7:ms.length+(r'.length+1)<=7:=m7;refine⟨_,h4,⟨by rw [JZ]; omega,by rw [JZ]; omega⟩,λq hq=>?_⟩
   refine pi (ms:=ms) hq ?bb ms 0 _ [] none (ET ms) rfl (by show 0+ms.length<=100; omega) λS5 e5 h5=>?_
   case bb=>
    intro i s S' k' hi e hk;refine⟨_,_,e _ _ h4,IX hi,?_⟩;rw [s.dx];refine⟨_,bq,cz (c:=decide (s.x=Str.ofString "fix")) (λz=>?_) (λz=>?_)⟩
    ·rw [ue] at z;rw [if_pos z] at hk;exact hk
    ·rw [ue] at z;rw [if_neg (by rw [z]; decide)] at hk
     exact hk
   rw [List.nil_append] at h5;have D5:Dr a S S5:=D4.ext e5;have em:((ms.map bu.d).length:Int)=(ms.length:Nat):=by rw [JZ]
   have bm:∀ z:Int,0<=z->z<=100->Bt 200 z:=λz _ _=>Bt.mono (m:=7) (by unfold Bt; omega) (by decide)
   refine⟨a,5,rfl,by decide,by decide,D5.1,λway S6 w0 w1 d6=>⟨a,_,rfl,by omega,bm _ (by omega) (by omega),d6.1,λone S7 o0 o1 d7=>⟨a,_,rfl,by split <;> omega,bm _ (by split <;> omega) (by split <;> omega),d7.1,λr S8 r0 r1 d8=>?_⟩⟩⟩
   refine⟨(show ((ms.map bu.d).length:Int)≠0 by omega),?_⟩
   have D8:Dr a S S8:=D5.trans (d6.trans (d7.trans d8));have D58:=d6.trans (d7.trans d8);have h8:=D58.2 p _ pa (e5 _ _ h4);have qa':q≠a:=D4.1.ne hq;have q8:=D58.2 q _ qa' h5;refine⟨(ms.map bu.d,some p),by simp only [aI,h8],λp9 hp9=>?_⟩
   refine mP (f:=bu.d) hp9 (λS' e=>e _ _ h8) ?cc ms [] none (by show 0+ms.length<=100; omega) λS9 cs e9 h9=>?_
   case cc=>
    intro s S' k' e hk;rw [s.dx];exact⟨_,bq,cz (c:=decide (s.x=Str.ofString "crank")) (λ_=>hk _) (λ_=>hk _)⟩
   refine⟨_,h9,?_⟩;have D9:Dr a S S9:=D8.ext e9;have hp9':=e9 _ _ h8;have hq9:=e9 _ _ q8;have fin:∀ (s:bu) (e:D) (S':DH),e=s.d->pJ ms s->Dr a S9 S'->∃ ds,S' p=some (.lst ds)/\ds.length < sizeLine/\N1 [some (.ref a),some (.ref p),some d,some (.int ((ms.map bu.d).length:Nat)),some (.ref q),some (.int way),some (.int one),some (.int ((one+1+r).fmod ((ms.map bu.d).length:Nat))),some (.int (cs.length:Nat))] (put S' p (.lst (ds++[e]))):=by
    intro s e S' ee hs dd;subst ee;refine⟨_,dd.2 p _ pa hp9',by rw [JZ]; exact AN (by omega),hN _ _ ⟨ms++[s],_,_,_,_,_,_,_,rfl,Dr.put (D9.trans dd) hp0 pa,by rw [ak,List.map_append]; rfl,wf.snoc hs,?_,by rw [Kc]; omega,by rw [Kc]; show ms.length+1+r'.length<=7; omega⟩⟩
    obtain⟨x,y,hxy⟩:=hf;exact⟨x,y,by rw [List.getElem?_append_left (by omega)]; exact hxy⟩
   refine oH (λfx=>oH (λr2=>aF (λ_=>fx) (λ_=>aF (λ_=>aF (λ_=>fx) (λ_=>r2)) (λ_=>r2))) ?_) ?_
   ·refine oH (λr3=>aF (λ_=>aF (λ_=>?_) (λ_=>r3)) (λ_=>r3)) ?_
    ·have hfl:1<=(fO 0 ms).length:=List.length_pos_iff.mpr (AF hf);have hfl2:=qR (r:=ms) (j:=0);refine⟨⟨_,hp9'⟩,_,hq9,a,_,rfl,by omega,bm _ (by omega) (by omega),D9.1,λt S10 t0 t1 d10=>?_⟩
     obtain⟨c,hc,hm⟩:=oC (ds:=fO 0 ms) t0 t1;obtain⟨nn,x,y,rfl,hx⟩:=mZ hm;refine⟨_,_,d10.2 q _ qa' hq9,hc,a,rfl,d10.1,λl S11 hl d11=>⟨few,?_⟩⟩
     exact fin (.crank nn l) _ _ (by rw [Nat.zero_add]; rfl) ⟨⟨x,y,hx⟩,hl.1,hl.2⟩ (d10.trans d11)
    ·have two:(1:Int) < ((ms.map bu.d).length:Nat)->∃ i j:Nat,one=(i:Nat)/\(one+1+r).fmod ((ms.map bu.d).length:Nat)=(j:Nat)/\i < ms.length/\j < ms.length/\i≠j:=λz=>by
      have r1':r < ((ms.map bu.d).length:Nat) - 1:=by split at r1 <;> omega
      obtain⟨v0,v1,v2⟩:=CC o0 o1 r0 r1';obtain⟨i,hi⟩:=Int.eq_ofNat_of_zero_le o0;obtain⟨j,hj⟩:=Int.eq_ofNat_of_zero_le v0;rw [hj] at v1 v2
      exact⟨i,j,hi,hj,by omega,by omega,by omega⟩
     refine oH (λr4=>aF (λ_=>aF (λz=>?_) (λ_=>r4)) (λ_=>r4)) ?_
     ·obtain⟨i,j,hi,hj,i1,j1,ij⟩:=two z;refine⟨⟨_,hp9'⟩,a,2,rfl,by decide,by decide,D9.1,λx S10 hx d10=>⟨a,2,rfl,by decide,by decide,d10.1,λy S11 hy d11=>⟨few,?_⟩⟩⟩
      exact fin (.like i j x y) _ _ (by show D.tup [_,.int one,.int ((one+1+r).fmod ((ms.map bu.d).length:Nat)),_,_]=_; rw [hj,hi]; rfl) ⟨i1,j1,ij,hx,hy⟩ (d10.trans d11)
     ·refine aF (λz=>?_) (λ_=>?_)
      ·obtain⟨i,j,hi,hj,i1,j1,ij⟩:=two z;refine⟨⟨_,hp9'⟩,a,rfl,D9.1,λx S10 hx d10=>⟨a,rfl,d10.1,λy S11 hy d11=>⟨a,2,rfl,by decide,by decide,d11.1,λv S12 v0 v1 d12=>⟨few,?_⟩⟩⟩⟩
       exact fin (.pair i j x y v) _ _ (by show D.tup [_,.int one,.int ((one+1+r).fmod ((ms.map bu.d).length:Nat)),_,_,_]=_; rw [hj,hi]; rfl) ⟨i1,j1,ij,hx.1.mono (by decide),hy.1.mono (by decide),hx.2,hy.2,by omega⟩ (d10.trans (d11.trans d12))
      ·exact hN _ _ ⟨ms,_,_,_,_,_,_,_,rfl,D9,hp9',wf,hf,m1,by omega⟩
   ·refine⟨⟨_,hp9'⟩,a,4,rfl,by decide,by decide,D9.1,λx S10 hx d10=>⟨a,4,rfl,by decide,by decide,d10.1,λy S11 hy d11=>⟨few,?_⟩⟩⟩
    exact fin (.fix x y) _ _ rfl ⟨hx,hy⟩ (d10.trans d11)
  ·rintro L S4 ⟨ms,l2,l3,l4,l5,l6,l7,l8,rfl,D4,h4,wf,hf,m1,m7⟩;exact⟨_,h4,w ms S4 wf m1 (by simpa using m7) D4⟩
  ·rw [JZ,List.length_range]
   show 1+_<=7
   omega
def gz:bE:=λds S k=>∃ i:It,ds=[i.d]/\i.ok/\k (.str i.t) S
theorem sL:ao ["part"] ["part"] (aj jO):=cG
theorem si (Fn:FN K "_law_word" jO f fd) (aw:mg "isinstance"=none) (aK:mg "tuple"=none) (jq:mg "str"=none):
  aQ P w K mg base b8 1 f fd ["part"] (ca K gz):=by
 refine Fn.okJ sL (λds S k h=>?_) (λcdv A outer s H E hr=>⟨_,(ag (ay (aL (aA eP rfl aw aU (aH 0 (aa (ic (n:=.tup) rfl aK cw) ac)))) (ah (ai (pH (au dX (aD aP (af 0) ae Zf) ae (ar _)) (bC pU rfl jq mK (aa (aD aP (af 0) ae Zf) ac)) (aB bv (aB bv (bC pU rfl jq mK (aa (aD aP (af 0) ae Zf) ac)) aG) (bC pU rfl jq mK (aa (aD aP (af 0) ae Zf) ac)))))) az) (ah (ai (bC pU rfl jq mK (aH 0 ac))))),λds S k h=>?_⟩)
 ·obtain⟨_,rfl,_⟩:=h
  rfl
 ·obtain⟨i,rfl,hi,w⟩:=h;cases i with
  | s x=>exact⟨.str,rfl,w⟩
  | w n=>exact⟨.int,rfl,fR hi,w⟩
  | f q=>
   have hi:kE q:=hi;have l1:=hi.n.wlen;have l2:=hi.d.wlen;have w:k (.str (fT q)) S:=w;unfold fT at w;refine⟨.tup,rfl,?_⟩;refine⟨_,m_,?_⟩
   by_cases e:q.den=1
   ·rw [if_pos e] at w;refine aF (λ_=>⟨_,bq,fR hi.n,w⟩) (λz=>absurd (show ((q.den:Nat):Int)=1 by rw [e]; rfl) z)
   ·rw [if_neg e] at w;refine aF (λz=>absurd (show q.den=1 from by have z:((q.den:Nat):Int)=1:=z; omega) e) (λ_=>?_)
    refine⟨_,bq,fR hi.n,?_,_,m_,fR hi.d,?_,w⟩
    ·show(wT q.num).length+1<=_; exact nw (by omega)
    ·show(wT q.num++Str.ofString "/").length+(wT (q.den:Int)).length<=_
     rw [cj,kh]; exact nw (by omega)
def jS:bE:=λds S k=>∃ (d:D) (rs:List (List It)),ds=[d]/\(d=.tup (rs.map rD)\/∃ a,d=.ref a/\S a=some (.lst (rs.map rD)))/\rs.length<=9/\(∀ r∈rs,Rw r)/\∀ S',bh S S'->k (.str (tT rs)) S'
theorem sW:ao ["rows"] ["rows"] (aj j_):=cG
theorem sk (Fn:FN K "_law_text" j_ f fd) (cK:bf P w K mg base "_law_word" 1 gz):
  aQ P w K mg base b8 2 f fd ["rows"] (ca K jS):=by
 refine Fn.okJ sW (λds S k h=>?_) (λcdv A outer s H E hr=>⟨_,(ah (ai (cF PySem.F.slot_str_join PySem.F.type_str_join iF aG (aa (dN rfl (dk (N:=["row"]) (cap:=[none]) rfl rfl rfl rfl trivial rfl rfl trivial) (af 0) (λ_ _ _ _=>(aO (i:=0) (show List.Nodup (["row"]:List Str) from by decide +kernel))) (λ_ _ _ _=>(cF PySem.F.slot_str_join PySem.F.type_str_join iF aG (aa (dN rfl (dk (N:=["part"]) (cap:=[none]) rfl rfl rfl rfl trivial rfl rfl trivial) (af 0) (λ_ _ _ _=>(aO (i:=0) (show List.Nodup (["part"]:List Str) from by decide +kernel))) (λ_ _ _ _=>(dq cK hr (aH 0 ac)))) ac)))) ac)))),λds S k h=>?_⟩)
 ·obtain⟨_,_,rfl,_⟩:=h
  rfl
 ·obtain⟨d,rs,rfl,hd,hl,hr,w⟩:=h;have go:∀ (q:List D×KO KN),q.1=rs.map rD->aI S d=some q->(∀ S',bh S S'->eK q S')->∀ p,S p=none->bK (eK q) p (eV 0) (jx (ww xn (dC (D.str (Str.ofString " "))) (eX (rO [none] (cL 0) (eV 0) (jx (gj gz (eX (cL 0) ng)))) ng))) (λd S1=>xn (Str.ofString " ; ") [d] S1 k) q.1 [] [none] (put S p (.lst [])):=by
   intro q eq hq hok p hp;rw [eq];refine lD (f:=rD) (g:=λr=>.str (rT r)) (all:=rs) hp hok ?bb rs [] none _ (λ_ h=>h) (bh.new hp) ak (by show 0+rs.length<=1000; omega) λS1 e1 h1=>?_
   case bb=>
    intro r S' k' hi e hk;have hrr:=hr r hi;refine⟨(r.map It.d,none),rfl,λp2 hp2=>?_⟩
    refine lD (f:=It.d) (g:=λi=>.str i.t) (all:=r) hp2 (λ_ _=>trivial) (λi S2 k2 hi2 e2 hk2=>⟨i,rfl,(hrr.all i hi2).1,hk2 _ (bh.refl _)⟩) r [] none _ (λ_ h=>h) (bh.new hp2) ak (by show 0+r.length<=1000; have:=hrr.few; omega) λS2 e2 h2=>?_
    refine⟨r.map It.t,by rw [h2,Kq]; rfl,iS (b:=90) (n:=9) (λy hy=>?_) (by rw [JZ]; exact hrr.few) (by decide),?_⟩
    ·obtain⟨i,hi3,rfl⟩:=JY.mp hy;exact It.len (hrr.all i hi3).1
    ·rw [c6];exact hk S2 e2
   refine⟨rs.map rT,by rw [h1,Kq]; rfl,pS hl hr,?_⟩
   rw [c6];exact w S1 e1
  rcases hd with rfl | ⟨a,rfl,ha⟩
  ·exact⟨(rs.map rD,none),rfl,go _ rfl rfl λ_ _=>trivial⟩
  ·have hq:aI S (.ref a)=some (rs.map rD,some a):=by simp only [aI,ha]
   exact⟨(rs.map rD,some a),hq,go _ rfl hq λS' e=>e _ _ ha⟩
def gm:bE:=λds S k=>∃ (a:KN) (c:Zr) (ep:Nat),ds=[.ref a]/\S a=some (sU (fb c) ep)/\zI c/\∀ cs S',(cs.map cE).Perm c->yr cs->bh S S'->k (.str (tT (cs.map cR))) S'
theorem kP:ao ["curve"] ["curve"] (aj dP):=cG
theorem kZ (Fn:FN K "_law_curve_text" dP f fd) (cJ:bf P w K mg base "_law_text" 2 jS) (ig:mg "sorted"=none):
  aQ P w K mg base b8 3 f fd ["curve"] (ca K gm):=by
 refine Fn.okJ kP (λds S k h=>?_) (λcdv A outer s H E hr=>⟨_,(ah (ai (dq cJ hr (aa (dN rfl (dk (N:=["powers","curve"]) (cap:=[none,some 0]) rfl rfl rfl rfl ⟨rfl,trivial⟩ rfl rfl ⟨⟨rfl,.inl rfl,.inl rfl⟩,trivial⟩) (Dt (aA (BU rfl) rfl ig qK (aH 0 ac)) (q_ qM ae)) (λ_ _ _ _=>(aO (i:=0) (show List.Nodup (["powers","curve"]:List Str) from by decide +kernel))) (λ_ _ _ _=>(aC (aa (oB hr (af 1) (af 0) Zf) (aa (aD aP (af 0) ae Zf) (aa (aD aP (af 0) ae Zf) ac)))))) ac)))),λds S k h=>?_⟩)
 ·obtain⟨_,_,_,rfl,_⟩:=h
  rfl
 ·obtain⟨a,c,ep,rfl,ha,ok,w⟩:=h;obtain⟨ks,ek⟩:=wP ok.sm;have lk:ks.length=c.length:=by have:=congrArg List.length ek; simpa using this.symm
  have l9:=ok.l9;refine⟨_,_,ks,ha,?_,by omega,λks' pm od q hq=>⟨rfl,_,ak,λq2 hq2=>?_⟩⟩
  ·show List.map _ (fb c)=_
   rw [<- ek];unfold fb ln;rw [Kq]
   rfl
  have od':ks'.reverse.Pairwise λx y=>ZS.lx y x=true:=List.pairwise_reverse.mpr od
  obtain⟨cs,er,pc,dc⟩:=rg ok.nd ek ((List.reverse_perm ks').trans pm) od';have co:=ok.cs pc dc;have lc:=co.l9;have em:(ks'.map Av).reverse=cs.map λz=>Av z.1:=by rw [<- List.map_reverse,er,Kq]; rfl
  rw [em];have e2:=(bh.new (o:=.lst (ks'.map Av)) hq).trans (bh.new (o:=.lst (cs.map λz=>Av z.1)) hq2)
  refine⟨(cs.map λz=>Av z.1,some q2),by simp only [aI,ak],λp3 hp3=>?_⟩
  refine lD (f:=λz:CR=>Av z.1) (g:=λz=>rD (cR z)) (all:=cs) (L1:=[some (.ref a)]) hp3 (λS' e=>e _ _ ak) ?bb cs [] none _ (λ_ h=>h) (bh.new hp3) ak (by show 0+cs.length<=1000; omega) λS1 e1 h1=>?_
  case bb=>
   intro z S' k' hz e hk;have hg:eQ (fb c) [z.1.1,z.1.2]=some (fr z.2):=hJ ok.nd (pc.mem_iff.mp (JY.mpr ⟨z,hz,rfl⟩));exact⟨_,_,[z.1.1,z.1.2],_,e _ _ (e2 _ _ ha),rfl,hg,_,bq,_,m_,few,hk _ (bh.refl _)⟩
  refine⟨_,cs.map cR,rfl,.inr ⟨p3,rfl,by rw [h1,Kq]; rfl⟩,by rw [JZ]; exact lc,co.rw,λS' e=>w cs S' pc dc (e2.trans (e1.trans e))⟩
def fX:bE:=λds S k=>∃ p u:Rat,ds=[nD p u]/\kE p/\kE u/\k (.str (nT p u)) S
theorem cV:ao ["number","part","under"] ["number"] (aj dh):=cG
theorem km (Fn:FN K "_law_number_text" dh f fd) (cK:bf P w K mg base "_law_word" 1 gz) (eI:mg "int"=none):
  aQ P w K mg base b8 2 f fd ["number"] (ca K fX):=by
 refine Fn.okJ cV (λds S k h=>?_) (λcdv A outer s H E hr=>⟨_,(ag (fJ (af 0) (r_ (n:=2) rfl (fz (aO (i:=1) cV.nd) (fz (aO (i:=2) cV.nd) pj)))) (ah (ai (aB bv (dq cK hr (aH 1 ac)) (aB Dz (aB bv aG (dq cK hr (aH 2 ac))) (bC vG rfl eI lb (aa (b_ kN (aD aP (af 2) ae Zf) ae (ar _)) ac))))))),λds S k h=>?_⟩)
 ·obtain⟨_,_,rfl,_⟩:=h
  rfl
 ·obtain⟨p,u,rfl,hp,hu,w⟩:=h;have l1:=jX hp;have l2:=jX hu;refine⟨([fr p,fr u],none),rfl,rfl,rfl,.f p,rfl,hp,.f u,rfl,hu,by show 1+(fT u).length<=_; exact nw (by omega),_,bq,?_⟩
  show Ao (.str (Str.ofString "@"++fT u)) (.int (if (!decide (u.num=0))=true then 1 else 0)) S λy S2=>Fi (.str (fT p)) y S2 k
  unfold nT at w
  by_cases e:u=0
  ·rw [if_pos e] at w;rw [if_neg (by rw [e]; decide)]
   refine⟨⟨by decide,λz=>absurd (show (0:Int) < 1 by decide) z,λz=>absurd (show (0:Int) < 1 by decide) z⟩,by show(fT p).length+0<=_; exact nw (by omega),?_⟩
   have:fT p++Txt.mul (Str.ofString "@"++fT u) 0=fT p:=fj (by rw [cD]; exact Ke _)
   rw [this];exact w
  ·rw [if_neg e] at w;rw [if_pos (by rw [Ky (iB e)]; rfl)]
   have:Txt.mul (Str.ofString "@"++fT u) 1=Str.ofString "@"++fT u:=rfl
   refine⟨⟨by decide,λ_ z=>(by simp at z),λ_ z=>(by simp at z)⟩,?_⟩
   rw [this];refine⟨by rw [cj,rQ]; exact nw (by omega),?_⟩
   have e2:fT p++(Str.ofString "@"++fT u)=fT p++Str.ofString "@"++fT u:=fj (by rw [cD,cD,cD,cD,List.append_assoc])
   rw [e2];exact w
def gp:bE:=λds S k=>∃ p u p' u':Rat,ds=[.tup [nD p u,nD p' u']]/\kE p/\kE u/\kE p'/\kE u'/\k (.str (nT p u++Str.ofString " "++nT p' u')) S
theorem kX:ao ["point"] ["point"] (aj dI):=cG
theorem kW (Fn:FN K "_law_point_text" dI f fd) (cg:bf P w K mg base "_law_number_text" 2 fX):
  aQ P w K mg base b8 3 f fd ["point"] (ca K gp):=by
 refine Fn.okJ kX (λds S k h=>?_) (λcdv A outer s H E hr=>⟨_,(ah (ai (aB bv (aB bv (dq cg hr (aa (aD aP (af 0) ae Zf) ac)) aG) (dq cg hr (aa (aD aP (af 0) ae Zf) ac))))),λds S k h=>?_⟩)
 ·obtain⟨_,_,_,_,rfl,_⟩:=h
  rfl
 ·obtain⟨p,u,p',u',rfl,hp,hu,hp',hu',w⟩:=h;have l1:=lj hp hu;have l2:=lj hp' hu';refine⟨_,bq,p,u,rfl,hp,hu,by rw [eA]; exact nw (by omega),_,m_,p',u',rfl,hp',hu',by rw [cj,eA]; exact nw (by omega),w⟩
set_option maxHeartbeats 4000000
theorem lM (q:Rat):cx (fr q)=true:=by
 show(decide (1<=((q.den:Nat):Int)) && decide (((Int.gcd q.num (q.den:Int):Nat):Int)=1))=true
 have h1:=q.den_pos;have h2:Int.gcd q.num (q.den:Int)=1:=q.reduced;rw [decide_eq_true (by omega),h2]
 rfl
theorem pf {q:Rat} (h:0 < q):en (fr q)=true:=by
 show(cx (fr q) && decide (0 < q.num))=true
 have h0:0<=q.num:=Rat.num_nonneg.mpr (Rat.le_of_lt h);have h1:q.num≠0:=λz=>by rw [Rat.num_eq_zero.mp z] at h; exact absurd h (by decide)
 rw [lM,decide_eq_true (show 0 < q.num by omega)]
 rfl
theorem hG {n i:Nat} (h:i < n):bZ n (.int (i:Nat))=true:=by
 show(decide (0<=((i:Nat):Int)) && decide (((i:Nat):Int) < (n:Int)))=true
 rw [decide_eq_true (by omega),decide_eq_true (by omega)]
 rfl
theorem xq {i j:Nat} (h:i≠j):uK (.int (i:Nat)) (.int (j:Nat))=true:=by
 show(!decide (((i:Nat):Int)=((j:Nat):Int)))=true
 rw [Ky (by omega)]
 rfl
theorem B0 {pre:List bu} {s:bu} (h:pJ pre s):lQ (pre.map bu.d) s.d=true:=by
 have ll:(pre.map bu.d).length=pre.length:=JZ ..;cases s with
 | fix x y=>
  show(cx (fr x) && cx (fr y))=true
  rw [lM,lM]; rfl
 | crank c l=>
  obtain⟨⟨x,y,hc⟩,_,l0⟩:=h;have hlt:=(Kl.mp hc).1
  show(bZ (pre.map bu.d).length (.int (c:Nat)) && (oY (pre.map bu.d) (.int (c:Nat)) && en (fr l)))=true
  have e:oY (pre.map bu.d) (.int (c:Nat))=true:=by
   show(match (pre.map bu.d)[((c:Nat):Int).toNat]? with | some x=>vi x | none=>false)=true
   rw [KE,Ki,hc]
   rfl
  rw [hG (by omega),e,pf l0]; rfl
 | pair i j s t v=>
  obtain⟨hi,hj,hij,_,_,s0,t0,hv⟩:=h
  show((bZ (pre.map bu.d).length (.int (i:Nat)) && bZ (pre.map bu.d).length (.int (j:Nat)) && uK (.int (i:Nat)) (.int (j:Nat))) && (en (fr s) && en (fr t) && xw (.int v)))=true
  rw [hG (by omega),hG (by omega),xq hij,pf s0,pf t0]
  rcases hv with rfl | rfl <;> rfl
 | like i j a l=>
  obtain⟨hi,hj,hij,_⟩:=h
  show((bZ (pre.map bu.d).length (.int (i:Nat)) && bZ (pre.map bu.d).length (.int (j:Nat)) && uK (.int (i:Nat)) (.int (j:Nat))) && (cx (fr a) && cx (fr l)))=true
  rw [hG (by omega),hG (by omega),xq hij,lM,lM]; rfl
theorem qV {ms:List bu} (hw:Wf ms):∀ {rs:List bu} {j:Nat},ms.drop j=rs->c8 (ms.map bu.d) j (rs.map bu.d)=true
 | [],_,_=>rfl
 | s::rs,j,hd=>by
  obtain⟨g0,g1⟩:=rm hd
  show(lQ ((ms.map bu.d).take j) s.d && c8 (ms.map bu.d) (j+1) (rs.map bu.d))=true
  rw [<- List.map_take,B0 (hw j s g0),qV hw g1]
  rfl
theorem BA {ms:List bu} (hw:Wf ms) (h1:ms≠[]) (h7:ms.length<=7):xf (MD ms)=true:=by
 show(decide (1<=(((ms.map bu.d).length:Nat):Int)) && decide ((((ms.map bu.d).length:Nat):Int)<=7) && c8 (ms.map bu.d) 0 (ms.map bu.d))=true
 have l1:0 < ms.length:=List.length_pos_iff.mpr h1;rw [JZ,decide_eq_true (by omega),decide_eq_true (by omega),qV hw (rs:=ms) (j:=0) rfl]
 rfl
theorem tK:∀ {xs ys:List CR},yr xs->yr ys->(∀ z,z∈xs↔z∈ys)->xs=ys
 | [],[],_,_,_=>rfl
 | [],y::ys,_,_,h=>by cases (h y).mpr J4
 | x::xs,[],_,_,h=>by cases (h x).mp J4
 | x::xs,y::ys,hx,hy,h=>by
  obtain⟨a1,a2⟩:=List.pairwise_cons.mp hx;obtain⟨b1,b2⟩:=List.pairwise_cons.mp hy;have irr:∀ z:CR,¬ ZS.lx z.1 z.1=true:=λz q=>by have:=ZS.lx_iff.mp q; omega
  have e:x=y:=by
   rcases J2.mp ((h x).mp J4) with e | m1
   ·exact e
   ·rcases J2.mp ((h y).mpr J4) with e | m2
    ·exact e.symm
    ·have q1:=ZS.lx_iff.mp (b1 x m1);have q2:=ZS.lx_iff.mp (a1 y m2);omega
  subst e
  congr 1
  refine tK a2 b2 λz=>⟨λm=>?_,λm=>?_⟩
  ·rcases J2.mp ((h z).mp (J5 _ m)) with e | m2
   ·rw [e] at m; exact absurd (a1 x m) (irr x)
   ·exact m2
  ·rcases J2.mp ((h z).mpr (J5 _ m)) with e | m2
   ·rw [e] at m; exact absurd (b1 x m) (irr x)
   ·exact m2
theorem DJ {y z:CR} (h:cE y=cE z):y=z:=by
 have h1:[y.1.1,y.1.2]=[z.1.1,z.1.2]:=congrArg Prod.fst h;have h2:(cE y).2=(cE z).2:=congrArg Prod.snd h;simp only [List.cons.injEq,and_true] at h1;exact Prod.ext (Prod.ext h1.1 h1.2) h2
theorem Bz {c:Zr} {xs ys:List CR} (h1:(xs.map cE).Perm c) (d1:yr xs) (h2:(ys.map cE).Perm c) (d2:yr ys):xs=ys:=by
 have go:∀ {xs ys:List CR},(xs.map cE).Perm c->(ys.map cE).Perm c->∀ z,z∈xs->z∈ys:=λp q z m=>by
  obtain⟨y,hy,e⟩:=JY.mp (q.mem_iff.mpr (p.mem_iff.mp (JY.mpr ⟨z,m,rfl⟩)));rw [<- DJ e];exact hy
 exact tK d1 d2 λz=>⟨go h1 h2 z,go h2 h1 z⟩
theorem g_ {f:D->D->KO KY}:∀ {l:List D},(∀ x∈l,f x x=some true)->gF f l l=some true
 | [],_=>rfl
 | x::l,h=>by
  unfold gF;rw [h x J4,g_ λy hy=>h y (J5 _ hy)]
  rfl
theorem lF {n:Nat} {l:List D} (h:∀ x∈l,DL.g7 n x x=some true):DL.g7 (n+1) (.tup l) (.tup l)=some true:=g_ h
theorem wJ {n:Nat} {i:Int}:DL.g7 n (.int i) (.int i)=some true:=by
 cases n <;> (show some (decide (i=i))=some true; rw [decide_eq_true rfl])
theorem ia {n:Nat} {i:Str}:DL.g7 n (.str i) (.str i)=some true:=by
 cases n <;> (show some (decide (i=i))=some true; rw [decide_eq_true rfl])
theorem vJ {n:Nat} {q:Rat}:DL.g7 (n+1) (fr q) (fr q)=some true:=lF λx hx=>by
 simp only [J2,Ka,or_false] at hx;rcases hx with rfl | rfl <;> exact wJ
theorem Em {n:Nat} (i:It):DL.g7 (n+1) i.d i.d=some true:=by
 cases i with
 | s x=>exact ia
 | w n=>exact wJ
 | f q=>exact vJ
theorem wN {n:Nat} {r:List It}:DL.g7 (n+2) (rD r) (rD r)=some true:=lF λx hx=>by
 obtain⟨i,_,rfl⟩:=JY.mp hx;exact Em i
theorem Fy {n:Nat} {ms:List bu}:DL.g7 (n+3) (MD ms) (MD ms)=some true:=lF λx hx=>by
 obtain⟨s,_,rfl⟩:=JY.mp hx;rw [<- s.rd];exact wN
theorem D0 {n:Nat} {u:Rat} {x y:Q}:DL.g7 (n+3) (Pq u x y) (Pq u x y)=some true:=lF λz hz=>by
 have nn:∀ {a b:Rat},DL.g7 (n+2) (N u a b) (N u a b)=some true:=λ{a b}=>lF λz hz=>by
  simp only [J2,Ka,or_false] at hz;rcases hz with rfl | rfl <;> exact vJ
 simp only [J2,Ka,or_false] at hz;rcases hz with rfl | rfl <;> exact nn
theorem CA {pre:List bu} {s:bu} (h:pJ pre s) (hp:pre.length<=7):Rw s.r:=by
 have w4:∀ {q:Rat},Sz 4 q->(It.f q).ok/\CF (It.f q):=λh=>⟨fQ h (by decide),λx z=>by cases z⟩
 have w8:∀ {q:Rat},Sz 8 q->(It.f q).ok/\CF (It.f q):=λh=>⟨fQ h (by decide),λx z=>by cases z⟩
 have wn:∀ {i:Nat},i < 7->(It.w (i:Nat)).ok/\CF (It.w (i:Nat)):=λh=>⟨show nO _ by unfold nO; omega,λx z=>by cases z⟩
 refine⟨by rw [s.rx]; simp,by cases s <;> exact Kb rfl,λi hi=>?_⟩
 have hx:(It.s s.x).ok/\CF (It.s s.x):=by
  have key:s.x.length<=90/\∀ c∈bT s.x,97<=c/\c<=122:=by
   cases s with
   | fix=>exact⟨Kb rfl,(by decide:∀ c∈bT ("fix":Str),97<=c/\c<=122)⟩
   | crank=>exact⟨Kb rfl,(by decide:∀ c∈bT ("crank":Str),97<=c/\c<=122)⟩
   | pair=>exact⟨Kb rfl,(by decide:∀ c∈bT ("pair":Str),97<=c/\c<=122)⟩
   | like=>exact⟨Kb rfl,(by decide:∀ c∈bT ("like":Str),97<=c/\c<=122)⟩
  exact⟨key.1,λy z=>by cases z; exact key.2⟩
 rw [s.rx] at hi;rcases J2.mp hi with rfl | hi
 ·exact hx
 ·cases s with
  | fix x y=>
   obtain⟨h1,h2⟩:=h;simp only [bu.tl,J2,Ka,or_false] at hi;rcases hi with rfl | rfl
   ·exact w4 h1
   ·exact w4 h2
  | crank c l=>
   obtain⟨⟨x,y,hc⟩,h1,_⟩:=h;have:=(Kl.mp hc).1;simp only [bu.tl,J2,Ka,or_false] at hi;rcases hi with rfl | rfl
   ·exact wn (by omega)
   ·exact w4 h1
  | pair i j s t v=>
   obtain⟨h1,h2,_,h3,h4,_,_,h5⟩:=h;simp only [bu.tl,J2,Ka,or_false] at hi;rcases hi with rfl | rfl | rfl | rfl | rfl
   ·exact wn (by omega)
   ·exact wn (by omega)
   ·exact w8 h3
   ·exact w8 h4
   ·exact⟨show nO _ by unfold nO; omega,λx z=>by cases z⟩
  | like i j a l=>
   obtain⟨h1,h2,_,h3,h4⟩:=h;simp only [bu.tl,J2,Ka,or_false] at hi;rcases hi with rfl | rfl | rfl | rfl
   ·exact wn (by omega)
   ·exact wn (by omega)
   ·exact w4 h3
   ·exact w4 h4
theorem Gb {ms:List bu} (h:Wf ms) (h7:ms.length<=7):∀ s∈ms,Rw s.r:=λs hs=>by
 obtain⟨k,hk⟩:=List.mem_iff_getElem?.mp hs;exact CA (h k s hk) (by rw [List.length_take]; omega)
theorem wS (ms:List bu):MD ms=.tup ((ms.map bu.r).map rD):=by
 show D.tup _=_
 rw [Kq]
 congr 1
 exact List.map_congr_left λs _=>s.rd.symm
theorem BK {ms:List bu} (h:∀ s∈ms,Rw s.r):∀ r∈ms.map bu.r,uC r:=λr hr=>by
 obtain⟨s,hs,rfl⟩:=JY.mp hr;have h:=h s hs;refine⟨s.x,s.tl,s.rx,?_,?_,λi hi=>⟨(h.all i (by rw [s.rx]; exact J5 _ hi)).1,λx z=>?_⟩⟩
 ·cases s <;> exact Kb rfl
 ·cases s <;> exact Kb rfl
 ·obtain⟨k,hk⟩:=List.mem_iff_getElem?.mp hi;rcases bu.mem hk with ⟨⟨n,e⟩,_⟩ | ⟨⟨q,e⟩,_⟩ <;> (rw [z] at e; cases e)
theorem xm {ls:List Le} (h:∀ l∈ls,l.ok):∀ r∈ls.map Le.r,uC r:=λr hr=>by
 obtain⟨l,hl,rfl⟩:=JY.mp hr;have h:=(h l hl).rw;refine⟨l.x,l.qs.map .f,rfl,(h.all (.s l.x) J4).1,?_,λi hi=>⟨(h.all i (J5 _ hi)).1,λx z=>?_⟩⟩
 ·have:=h.few;have:(l.qs.map It.f).length+1<=9:=this;omega
 ·obtain⟨q,_,rfl⟩:=JY.mp hi;cases z
theorem FV {ls:List Le} (h:∀ l∈ls,l.ok):∀ r∈ls.map Le.r,Rw r:=λr hr=>by
 obtain⟨l,hl,rfl⟩:=JY.mp hr;exact(h l hl).rw
theorem Fl {ms:List bu} (h:∀ s∈ms,Rw s.r):∀ r∈ms.map bu.r,Rw r:=λr hr=>by
 obtain⟨s,hs,rfl⟩:=JY.mp hr;exact h s hs
theorem FB (ls:List Le):ls.map Le.d=(ls.map Le.r).map rD:=by rw [Kq]; rfl
theorem ut {c':Zr} (nd':(c'.map (·.1)).Nodup):∀ (c:Zr),(∀ p∈c,p∈c')->Bj (fb c') (fb c) true
 | [],_=>rfl
 | p::c,h=>.inr ⟨fr p.2,true,true,hJ nd' (h p J4),vJ,ut nd' c λq hq=>h q (J5 _ hq),rfl⟩
theorem xc {S:DH} {a b c d a' b' c' d':D} (h1:EK S a a') (h2:EK S b b') (h3:EK S c c') (h4:EK S d d'):∀ (i:Nat) x y,[a,b,c,d][i]?=some x->[a',b',c',d'][i]?=some y->EK S x y:=λi x y hx hy=>by
 rcases i with _ | _ | _ | _ | i
 ·cases hx; cases hy; exact h1
 ·cases hx; cases hy; exact h2
 ·cases hx; cases hy; exact h3
 ·cases hx; cases hy; exact h4
 ·cases hx
def tD:bE:=λds S k=>∃ ns:List Int,ds=[.rl (List.map D.int ns)]/\ns.length<=63/\∀ S',k (.bl true) S'
theorem gG:ao ["script","k","state","base","machine","leads","curve","point","texts","found"] ["script"] (aj zP):=cG
theorem Ds (Fn:FN K "law" zP f fd) (ir:bf P w K mg base "_law_state" 2 md) (jE:bf P w K mg base "_law_base" 2 nM) (fD:bf P w K mg base "_law_machine" 4 jv) (iP:bf P w K mg base "_law_leads" 6 mq) (iY:bf P w K mg base "_law_curve" 5 lv) (di:bf P w K mg base "_law_shown_point" 5 fB) (dA:bf P w K mg base "_law_pair_point" 4 gB) (dM:bf P w K mg base "_law_point_text" 3 gp) (dO:bf P w K mg base "_law_curve_text" 3 gm) (cJ:bf P w K mg base "_law_text" 2 jS) (iC:bf P w K mg base "point_text" 4 lX) (ip:bf P w K mg base "curve_text" 3 mo) (eZ:bf P w K mg base "leads_text" 5 lG) (fC:bf P w K mg base "machine_text" 5 jN) (je:bf P w K mg base "point_read" 6 lA) (iW:bf P w K mg base "curve_read" 4 lL) (iw:bf P w K mg base "leads_read" 7 lR) (fV:bf P w K mg base "machine_read" 7 jV) (bH:mg "range"=none) (rJ:mg "max"=none) (yQ:mg "min"=none) (aM:mg "len"=none) (aw:mg "isinstance"=none) (mV:mg "dict"=none) (vm:mg "list"=none) (aK:mg "tuple"=none):
  aQ P w K mg base b8 8 f fd ["script"] (ca K tD):=by
 refine Fn.okJ gG (λds S k h=>?_) (λcdv A outer s H E hr=>⟨_,(ag (g8 PassesOwn.never rfl rfl bH (aa (aA CY rfl rJ Ag (aa ae (aa (aA HD rfl yQ Dj (aa (aA jM rfl aM bJ (aH 0 ac)) (aa ae ac))) ac))) ac) (aO (i:=1) gG.nd) (ag (am (i:=2) gG.nd (dq ir hr (aH 0 (aH 1 ac)))) (ag (am (i:=3) gG.nd (dq jE hr (aH 2 ac))) (ag (am (i:=4) gG.nd (dq fD hr (aH 2 ac))) (ag (am (i:=5) gG.nd (dq iP hr (aH 2 (aa ae (aa ae ac))))) (ag (am (i:=6) gG.nd (dq iY hr (aH 2 (aa ae ac)))) (ag (am (i:=7) gG.nd (dq di hr (aa (dq dA hr (aH 2 (aa cr ac))) (aH 3 ac)))) (ag (am (i:=8) gG.nd (cn (aa (dq cJ hr (aH 4 ac)) (aa (dq cJ hr (aH 5 ac)) (aa (dq dO hr (aH 6 ac)) (aa (dq dM hr (aH 7 ac)) ac)))))) (ag (ay (au (Ax hr) (cn (aa (dq fC hr (aH 4 ac)) (aa (dq eZ hr (aH 5 ac)) (aa (dq ip hr (aH 6 ac)) (aa (dq iC hr (aH 7 ac)) ac))))) (af 8) (ar _)) (ah (ai cr)) az) (ag (am (i:=9) gG.nd (cn (aa (dq fV hr (aa (aD aP (af 8) ae Zf) ac)) (aa (dq iw hr (aa (aD aP (af 8) ae Zf) ac)) (aa (dq iW hr (aa (aD aP (af 8) ae Zf) ac)) (aa (dq je hr (aa (aD aP (af 8) ae Zf) ac)) ac)))))) (ag (ay (WJ.pt (ce (au (Ax hr) (af 9) (cn (aH 4 (aH 5 (aH 6 (aH 7 ac))))) (ar _)) (ce (aY (aL (aA eP rfl aw aU (aa (aD aP (af 9) ae Zf) (aa (ic (n:=.lst) rfl vm By) ac))))) (bI (aY (aL (aA FF rfl aw aU (aa (aD aP (af 9) ae Zf) (aa (ic (n:=.dic) rfl mV xa) ac))))))))) (ah (ai cr)) az) (ah (ay (au (Ax hr) (dq eZ hr (aa (bC kd rfl aK cw (aH 5 ac)) ac)) (aD aP (af 8) ae Zf) (ar _)) (ah (ai cr)) az))))))))))))) (ah (ai cr))),λds S k h=>?_⟩)
 ·obtain⟨_,rfl,_⟩:=h
  rfl
 ·obtain⟨ns,rfl,hl,w⟩:=h;have hb:∀ z:Int,0<=z->z<=63->-(2 ^ 62)<=z/\z < 2 ^ 62:=λz _ _=>by omega
  refine⟨hb _ (by split <;> (try split) <;> omega) (by rw [JZ]; split <;> (try split) <;> omega),?_⟩
  refine uG (P:=λd=>∃ i:Int,d=.int i/\0<=i) (λL S'=>(∃ r1 r2 r3 r4 r5 r6 r7 r8 r9,L=[some (.rl (List.map D.int ns)),r1,r2,r3,r4,r5,r6,r7,r8,r9])) (λ_ _ _=>trivial) ?_ ?_ _ ?_ _ _ ⟨_,_,_,_,_,_,_,_,_,rfl⟩
  ·rintro d L S1 Nx ⟨i,rfl,hi⟩ ⟨r1,r2,r3,r4,r5,r6,r7,r8,r9,rfl⟩ hN;refine⟨ns,i,rfl,hi,λa n0 b hp hnb=>?_⟩
   have hS:n5 (put S1 a (.lst [.int n0,.bl b])) a:=⟨n0,b,ak,hnb⟩;generalize put S1 a (.lst [.int n0,.bl b])=T1 at hS ⊢;refine⟨a,rfl,hS,λu T2 hu d2=>⟨a,rfl,d2.1,λms T3 wf m1 m7 d3=>⟨a,6,3,rfl,by decide,by decide,d3.1,λls T4 lp hls l1 l6 d4 h4 lpa=>⟨a,3,rfl,rfl,d4.1,λT5 cp ep c d5 hc h5=>⟨a,true,rfl,d5.1,λz T6 hz d6=>?_⟩⟩⟩⟩⟩
   obtain⟨z1,z2,z3,z4⟩:=hz;have h4':=d6.2 lp _ lpa (d5.2 lp _ lpa h4);have h5':=d6.keep (Hc d5.1 h5) h5;have hcl:=hc.1.hl;have ok:zI c:=⟨hc.1.nd,List.length_pos_iff.mpr hc.2.1,hcl,hc.1.sm,λp hp=>⟨hc.2.2 p hp,hc.1.hz p hp⟩⟩
   have mr:=Gb wf m7;have q1:kE z.1.1:=fQ z1 (by decide)
   have q2:kE (ss z.1.2*u):=fQ (z2.ss.mul hu.sz) (by decide)
   have q3:kE z.2.1:=fQ z3 (by decide)
   have q4:kE (ss z.2.2*u):=fQ (z4.ss.mul hu.sz) (by decide)
   have lm:(ms.map bu.r).length<=9:=by rw [JZ]; omega
   have ll:(ls.map Le.r).length<=9:=by rw [JZ]; omega
   refine⟨z,u,rfl,hu.sz.mono (by decide),⟨z1.mono (by decide),z2.mono (by decide)⟩,⟨z3.mono (by decide),z4.mono (by decide)⟩,?_⟩
   refine⟨_,ms.map bu.r,rfl,.inl (wS ms),lm,Fl mr,λT7 e7=>⟨_,ls.map Le.r,rfl,.inr ⟨lp,rfl,by rw [<- FB]; exact e7 _ _ h4'⟩,ll,FV hls,λT8 e8=>⟨cp,c,ep,rfl,e8 _ _ (e7 _ _ h5'),ok,λcs T9 pc dc e9=>⟨z.1.1,ss z.1.2*u,z.2.1,ss z.2.2*u,rfl,q1,q2,q3,q4,few,λtp htp=>?_⟩⟩⟩⟩
   have co:=ok.cs pc dc;have E9:=e7.trans (e8.trans e9);have t0:put T9 tp (.lst [.str (tT (ms.map bu.r)),.str (tT (ls.map Le.r)),.str (tT (cs.map cR)),.str (nT z.1.1 (ss z.1.2*u)++Str.ofString " "++nT z.2.1 (ss z.2.2*u))]) tp=_:=ak
   have g4:=(E9.trans (bh.new (o:=.lst [.str (tT (ms.map bu.r)),.str (tT (ls.map Le.r)),.str (tT (cs.map cR)),.str (nT z.1.1 (ss z.1.2*u)++Str.ofString " "++nT z.2.1 (ss z.2.2*u))]) htp)) _ _ h4'
   have g5:=(E9.trans (bh.new (o:=.lst [.str (tT (ms.map bu.r)),.str (tT (ls.map Le.r)),.str (tT (cs.map cR)),.str (nT z.1.1 (ss z.1.2*u)++Str.ofString " "++nT z.2.1 (ss z.2.2*u))]) htp)) _ _ h5'
   generalize put T9 tp (.lst [.str (tT (ms.map bu.r)),.str (tT (ls.map Le.r)),.str (tT (cs.map cR)),.str (nT z.1.1 (ss z.1.2*u)++Str.ofString " "++nT z.2.1 (ss z.2.2*u))])=U0 at t0 g4 g5 ⊢
   refine⟨ms.map bu.r,congrArg (λd=>[d]) (wS ms),lm,BK mr,λU1 f1=>⟨_,ls.map Le.r,rfl,.inr ⟨lp,rfl,by rw [<- FB]; exact f1 _ _ g4⟩,ll,xm hls,λU2 f2=>⟨cp,c,ep,rfl,f2 _ _ (f1 _ _ g5),ok,λcs' U3 pc' dc' f3=>⟨z.1.1,ss z.1.2*u,z.2.1,ss z.2.2*u,rfl,q1,q2,q3,q4,λU4 f4=>⟨few,λtq htq=>?_⟩⟩⟩⟩⟩
   have ec:=Bz pc' dc' pc dc;subst ec;have F4:=f1.trans (f2.trans (f3.trans f4));refine .inl ⟨_,_,ak,(bh.new htq) _ _ (F4 _ _ t0),rfl,xc (.inl ia) (.inl ia) (.inl ia) (.inl ia),?_⟩;generalize hU5:put U4 tq _=U5;have F5:bh U0 U5:=by rw [<- hU5]; exact F4.trans (bh.new htq)
   have t5:=F5 _ _ t0;have g45:=F5 _ _ g4;have g55:=F5 _ _ g5;have s1:Sm 300 z.1.1 z.1.2:=⟨z1.mono (by decide),z2.mono (by decide)⟩
   have s2:Sm 300 z.2.1 z.2.2:=⟨z3.mono (by decide),z4.mono (by decide)⟩
   refine⟨_,_,t5,bq,ms,rfl,m1,m7,mr,BA wf (List.length_pos_iff.mp m1) m7,λU6 f6=>⟨_,_,f6 _ _ t5,m_,ls,rfl,l1,l6,hls,λlq U7 f7 lq0 lq1=>⟨_,_,f7 _ _ (f6 _ _ t5),Cz,_,rfl,co,λcq eq U8 f8 cq0 cq1=>⟨_,_,f8 _ _ (f7 _ _ (f6 _ _ t5)),Eu,u,z.1.1,z.1.2,z.2.1,z.2.2,rfl,hu.fd,s1,s2,q1,q2,q3,q4,λU9 f9=>⟨few,λfq hfq=>⟨few,λgq hgq=>?_⟩⟩⟩⟩⟩⟩
   have X8:=(bh.new (o:=.lst [MD ms,.ref lq,.ref cq,Pq u z.1 z.2]) hfq).trans (bh.new (o:=.lst [MD ms,.ref lp,.ref cp,Pq u z.1 z.2]) hgq);have F9:=f6.trans (f7.trans (f8.trans f9));have a1:=X8 _ _ (f9 _ _ (f8 _ _ lq1));have a2:=X8 _ _ (F9 _ _ g45);have a3:=X8 _ _ (f9 _ _ cq1);have a4:=X8 _ _ (F9 _ _ g55);have a5:=X8 _ _ (F9 _ _ t5);have nl:lq≠lp:=λq=>by rw [q,f6 _ _ g45] at lq0; cases lq0
   have nc:cq≠cp:=λq=>by rw [q,f7 _ _ (f6 _ _ g55)] at cq0; cases cq0
   have a6:=(bh.new (o:=.lst [MD ms,.ref lp,.ref cp,Pq u z.1 z.2]) hgq) _ _ (ak (S:=U9) (a:=fq) (o:=.lst [MD ms,.ref lq,.ref cq,Pq u z.1 z.2]));refine .inl ⟨_,_,a6,ak,rfl,xc (.inl Fy) (.inr (.inr ⟨lq,lp,_,_,rfl,rfl,nl,a1,a2,rfl,λi x y hx hy=>?_⟩)) (.inr (.inl ⟨cq,cp,_,_,_,_,rfl,rfl,nc,a3,a4,.inr ⟨?_,ut ok.nd _ λp hp=>pc.mem_iff.mp hp⟩⟩)) (.inl D0),?_⟩
   ·rw [hx] at hy;cases hy;obtain⟨l,_,rfl⟩:=JY.mp (List.mem_of_getElem? hx);exact wN
   ·unfold fb ln;rw [JZ,JZ (f:=λp:List Int×Rat=>(p.1,fr p.2)) (as:=c),pc.length_eq]
   ·refine⟨_,_,a6,m_,.lst,(congrArg HE a1).trans rfl,?_⟩;refine⟨_,_,a6,Cz,_,_,a3,?_⟩;refine⟨_,a2,_,ls.map Le.r,rfl,.inl (by rw [<- FB]),ll,xm hls,λV1 v1=>⟨_,_,v1 _ _ a5,m_,true,ia,?_⟩⟩
    exact hN _ _ ⟨_,_,_,_,_,_,_,_,_,rfl⟩
  ·rintro L S' ⟨r1,r2,r3,r4,r5,r6,r7,r8,r9,rfl⟩;exact w S'
  ·intro d hd;obtain⟨z,_,rfl⟩:=JY.mp hd;exact⟨_,rfl,by omega⟩
theorem BO (ns:List Int) (h:ns.length<=63):tD [.rl (List.map D.int ns)] (λ_=>none) (λd _=>d=.bl true):=⟨ns,rfl,h,λ_=>rfl⟩
end My
def PySem.W.Fast.tw4580815967449863727:Unit:=()
def PySem.W.Fast.tw3968900783771504491:Unit:=()
def PySem.W.Fast.tw12130490123511257409:Unit:=()
def PySem.W.Fast.tw3903275064419379943:Unit:=()
def PySem.W.Fast.tw14972254273674071133:Unit:=()
def PySem.W.Fast.tw18249596868583236838:Unit:=()
def PySem.W.Fast.tw17470158481147049887:Unit:=()
def PySem.W.Fast.tw4178198690613026678:Unit:=()
def PySem.W.Fast.tw4876327498202885262:Unit:=()
def PySem.W.Fast.tw3260967140218878048:Unit:=()
def PySem.W.Fast.tw11350843050937531232:Unit:=()
def PySem.W.Fast.tw16926983673032232577:Unit:=()
def PySem.W.Fast.tw7883828188944291340:Unit:=()
def PySem.W.Fast.tw10396901015353318056:Unit:=()
def PySem.W.Fast.tw6335457929305215830:Unit:=()
def PySem.W.Fast.tw3811982221605221358:Unit:=()
def PySem.W.Fast.tw4764038356914275424:Unit:=()
def PySem.W.Fast.tw13194311900761394948:Unit:=()
def PySem.W.Fast.tw9610570810367220278:Unit:=()
def PySem.W.Fast.tw15216282863657837078:Unit:=()
def PySem.W.Fast.tw3469971129663796174:Unit:=()
def PySem.W.Fast.tw7012820035043414435:Unit:=()
def PySem.W.Fast.tw15965073979923341688:Unit:=()
def PySem.W.Fast.tw14427447854917277668:Unit:=()
def PySem.W.Fast.tw3343179498438431169:Unit:=()
def PySem.W.Fast.tw13511174985644952865:Unit:=()
def PySem.W.Fast.tw7633052531721387333:Unit:=()
def PySem.W.Fast.tw13220138061066542919:Unit:=()
def PySem.W.Fast.tw13037179004019122475:Unit:=()
def PySem.W.Fast.tw13801297069941399536:Unit:=()
def PySem.W.Fast.tw10253048779944081270:Unit:=()
def PySem.W.Fast.tw301272088480952798:Unit:=()
def PySem.W.Fast.tw1495271677526290083:Unit:=()
def PySem.W.Fast.tw17171057486551663178:Unit:=()
def PySem.W.Fast.tw11502359603583810098:Unit:=()
def PySem.W.Fast.tw11895911729032279217:Unit:=()
def PySem.W.Fast.tw6964976822220627956:Unit:=()
def PySem.W.Fast.tw16435198125513464136:Unit:=()
def PySem.W.Fast.tw2147499086076172295:Unit:=()
def PySem.W.Fast.tw16397362797578262726:Unit:=()
def PySem.W.Fast.tw4851221859608431233:Unit:=()
def PySem.W.Fast.tw6918437943308153099:Unit:=()
def PySem.W.Fast.tw12625029018812772203:Unit:=()
def PySem.W.Fast.tw13047287661161799810:Unit:=()
def PySem.W.Fast.tw4861591551185450196:Unit:=()
def PySem.W.Fast.tw15829468483016649699:Unit:=()
def PySem.W.Fast.tw17484054691604714326:Unit:=()
def PySem.W.Fast.tw12176565920180440770:Unit:=()
def PySem.W.Fast.tw4923746080357664834:Unit:=()
def PySem.W.Fast.tw17847075943385929873:Unit:=()
def PySem.W.Fast.tw5172509882345881544:Unit:=()
def PySem.W.Fast.tw10578902728543368195:Unit:=()
def PySem.W.Fast.tw5851933753740226795:Unit:=()
def PySem.W.Fast.tw7196214250148415999:Unit:=()
def PySem.W.Fast.tw12925716735987276064:Unit:=()
def PySem.W.Fast.tw13941854737218084209:Unit:=()
def PySem.W.Fast.tw4168982735030640766:Unit:=()
def PySem.W.Fast.tw441481384368259436:Unit:=()
def PySem.W.Fast.tw4795127063640697834:Unit:=()
def PySem.W.Fast.tw13196812315566464647:Unit:=()
def PySem.W.Fast.tw307483856950419058:Unit:=()
def PySem.W.Fast.tw16701929945235551942:Unit:=()
def PySem.W.Fast.tw4683071953856971819:Unit:=()
def PySem.W.Fast.tw12421514553764499464:Unit:=()
def PySem.W.Fast.tw177208781816893809:Unit:=()
def PySem.W.Fast.tw13187096400768444890:Unit:=()
def PySem.W.Fast.tw3604474812516618312:Unit:=()
def PySem.W.Fast.tw6896839773772868295:Unit:=()
def PySem.W.Fast.tw12876214270119944998:Unit:=()
def PySem.W.Fast.tw8048690512714006552:Unit:=()
def PySem.W.Fast.tw13430010607580216478:Unit:=()
def PySem.W.Fast.tw15243633472407446529:Unit:=()
def PySem.W.Fast.tw12239955560180483019:Unit:=()
def PySem.W.Fast.tw16278378450349950433:Unit:=()
def PySem.W.Fast.tw17093913217491377684:Unit:=()
def PySem.W.Fast.tw16191218337275417645:Unit:=()
def PySem.W.Fast.tw6898042630980722970:Unit:=()
def PySem.W.Fast.tw6626723725436662709:Unit:=()
def PySem.W.Fast.tw8364397124535709745:Unit:=()
def PySem.W.Fast.tw5641644008100163559:Unit:=()
def PySem.W.Fast.tw3697058191679949869:Unit:=()
def PySem.W.Fast.tw16919902809966139736:Unit:=()
def PySem.W.Fast.tw1471270663597458398:Unit:=()
def PySem.W.Fast.tw12857694316938007311:Unit:=()
def PySem.W.Fast.tw14611304739062627408:Unit:=()
def PySem.W.Fast.tw13334965053980013238:Unit:=()
def PySem.W.Fast.tw8593811557819850146:Unit:=()
def PySem.W.Fast.tw12371361411464052269:Unit:=()
def PySem.W.Fast.tw6712619006626795464:Unit:=()
def PySem.W.Fast.tw290993835693437943:Unit:=()
namespace My
open PySem PySem.Spec PyProof.Rows L2 DL HM
set_option maxHeartbeats 4000000
theorem Db {l:PySem.W.OpenLaw} {w:KS} {K:Fg} {h:KT} {mg:Str->KO KM} {fa:KN} (X:K.In h) (G:h.Ns mainGlobals mg) (hfa:mg "law"=some (.ref fa))
  {f1 f2 f3 f4 f5 f6 f7 f8 f9 f10 f11 f12 f13 f14 f15 f16 f17 f18 f19 f20 f21 f22 f23 f24 f25 f26 f27 f28 f29 f30 f31 f32 f33 f34 f35 f36 f37 f38 f39 f40 f41 f42 f43 f44 f45 f46 f47 f48 f49 f50 f51 f52 f53 f54 f55 f56 f57 f58 f59 f60 f61 f62 f63 f64 f65 f66 f67 f68 f69 f70 f71:KN} {cd1 cd2 cd3 cd4 cd5 cd6 cd7 cd8 cd9 cd10 cd11 cd12 cd13 cd14 cd15 cd16 cd17 cd18 cd19 cd20 cd21 cd22 cd23 cd24 cd25 cd26 cd27 cd28 cd29 cd30 cd31 cd32 cd33 cd34 cd35 cd36 cd37 cd38 cd39 cd40 cd41 cd42 cd43 cd44 cd45 cd46 cd47 cd48 cd49 cd50 cd51 cd52 cd53 cd54 cd55 cd56 cd57 cd58 cd59 cd60 cd61 cd62 cd63 cd64 cd65 cd66 cd67 cd68 cd69 cd70 cd71:KM}
  {ti_MOST_STEPS:Tok}
  {ti_BLOCK:Tok}
  {ti_MOST_LEADS:Tok}
  {ts_FIGURES:Tok}
  {iz:KN} {tN:Nat} {h0_WHOLE_AT h1_WHOLE_AT h2_WHOLE_AT:Int} {tk0_WHOLE_AT tk1_WHOLE_AT tk2_WHOLE_AT:Tok} {p0_WHOLE_AT:KN} {od0_WHOLE_AT:KO KN} {sl0_WHOLE_AT:KW (KO KM)} {n0_WHOLE_AT:Nat} {t0_0_WHOLE_AT:Tok} {p1_WHOLE_AT:KN} {od1_WHOLE_AT:KO KN} {sl1_WHOLE_AT:KW (KO KM)} {n1_WHOLE_AT:Nat} {t0_1_WHOLE_AT t1_1_WHOLE_AT t2_1_WHOLE_AT:Tok} {p2_WHOLE_AT:KN} {od2_WHOLE_AT:KO KN} {sl2_WHOLE_AT:KW (KO KM)} {n2_WHOLE_AT:Nat} {t0_2_WHOLE_AT t1_2_WHOLE_AT:Tok}
  {ck:KN} {ko:Nat} {h0_FRACTIONS_BEHIND h1_FRACTIONS_BEHIND h2_FRACTIONS_BEHIND h3_FRACTIONS_BEHIND h4_FRACTIONS_BEHIND:Int} {tk0_FRACTIONS_BEHIND tk1_FRACTIONS_BEHIND tk2_FRACTIONS_BEHIND tk3_FRACTIONS_BEHIND tk4_FRACTIONS_BEHIND:Tok} {tv0_FRACTIONS_BEHIND tv1_FRACTIONS_BEHIND tv2_FRACTIONS_BEHIND tv3_FRACTIONS_BEHIND tv4_FRACTIONS_BEHIND:Tok}
  {Ac:KN} {Ev:KO KN} {EB:KW (KO KM)} {Hr:Nat} {D' Ft:Tok}
  (d1:DI K "common_divisor" eh f1 cd1)
  (d2:DI K "ratio" s_ f2 cd2)
  (d3:DI K "plus" v7 f3 cd3)
  (d4:DI K "times" sZ f4 cd4)
  (d5:DI K "over" uV f5 cd5)
  (d6:DI K "without_sign" gh f6 cd6)
  (d7:DI K "whole_root" jh f7 cd7)
  (d8:DI K "square_root_or_none" cB f8 cd8)
  (d9:DI K "root_in" nA f9 cd9)
  (d10:DI K "is_plain" kI f10 cd10)
  (d11:DI K "is_whole" lg f11 cd11)
  (d12:DI K "is_fraction" gL f12 cd12)
  (d13:DI K "is_number" j4 f13 cd13)
  (d14:DI K "one_field" j8 f14 cd14)
  (d15:DI K "product_of_ways" dG f15 cd15)
  (d16:DI K "is_above_nought" dU f16 cd16)
  (d17:DI K "is_joint" k_ f17 cd17)
  (d18:DI K "are_unlike_joints" cU f18 cd18)
  (d19:DI K "is_fix" oQ f19 cd19)
  (d20:DI K "is_crank" k9 f20 cd20)
  (d21:DI K "is_pair" mT f21 cd21)
  (d22:DI K "is_like" ny f22 cd22)
  (d23:DI K "is_step" mw f23 cd23)
  (d24:DI K "is_machine" iH f24 cd24)
  (d25:DI K "whole_text" iu f25 cd25)
  (d26:DI K "fraction_text" eO f26 cd26)
  (d27:DI K "number_text" gQ f27 cd27)
  (d28:DI K "point_text" iV f28 cd28)
  (d29:DI K "written" mN f29 cd29)
  (d30:DI K "row_text" kL f30 cd30)
  (d31:DI K "machine_text" fS f31 cd31)
  (d32:DI K "leads_text" i8 f32 cd32)
  (d33:DI K "figures_read" fL f33 cd33)
  (d34:DI K "whole_read" jm f34 cd34)
  (d35:DI K "fraction_read" eR f35 cd35)
  (d36:DI K "number_read" gO f36 cd36)
  (d37:DI K "ask_text" lf f37 cd37)
  (d38:DI K "point_read" jd f38 cd38)
  (d39:DI K "rows_of" mU f39 cd39)
  (d40:DI K "step_read" jK f40 cd40)
  (d41:DI K "machine_read" fP f41 cd41)
  (d42:DI K "is_lead" mL f42 cd42)
  (d43:DI K "lead_read" jC f43 cd43)
  (d44:DI K "leads_read" iZ f44 cd44)
  (d45:DI K "power_read" iD f45 cd45)
  (d46:DI K "curve_text" io f46 cd46)
  (d47:DI K "curve_read" il f47 cd47)
  (d48:DI K "_law_cell_at" fI f48 cd48)
  (d49:DI K "_law_state" ja f49 cd49)
  (d50:DI K "_law_take" j7 f50 cd50)
  (d51:DI K "_law_divisor" fM f51 cd51)
  (d52:DI K "_law_ratio" iO f52 cd52)
  (d53:DI K "_law_times" iT f53 cd53)
  (d54:DI K "_law_fraction" eS f54 cd54)
  (d55:DI K "_law_nought" gE f55 cd55)
  (d56:DI K "_law_clean" i_ f56 cd56)
  (d57:DI K "_law_curve" iN f57 cd57)
  (d58:DI K "_law_shown" iK f58 cd58)
  (d59:DI K "_law_base" jD f59 cd59)
  (d60:DI K "_law_shown_point" de f60 cd60)
  (d61:DI K "_law_pair_point" dD f61 cd61)
  (d62:DI K "_law_lead" jL f62 cd62)
  (d63:DI K "_law_leads" i5 f63 cd63)
  (d64:DI K "_law_above" jc f64 cd64)
  (d65:DI K "_law_machine" fK f65 cd65)
  (d66:DI K "_law_word" jO f66 cd66)
  (d67:DI K "_law_text" j_ f67 cd67)
  (d68:DI K "_law_curve_text" dP f68 cd68)
  (d69:DI K "_law_number_text" dh f69 cd69)
  (d70:DI K "_law_point_text" dI f70 cd70)
  (d71:DI K "law" zP f71 cd71)
  (gM:PySem.W.nsIn K mainGlobals "MOST_STEPS"=some (some (.int 7 ti_MOST_STEPS)))
  (oP:PySem.W.nsIn K mainGlobals "BLOCK"=some (some (.int 64 ti_BLOCK)))
  (gD:PySem.W.nsIn K mainGlobals "MOST_LEADS"=some (some (.int 6 ti_MOST_LEADS)))
  (kT:PySem.W.nsIn K mainGlobals "FIGURES"=some (some (.str "0123456789" ts_FIGURES)))
  (jR:PySem.W.nsIn K mainGlobals "WHOLE_AT"=some (some (.ref iz))) (ju:K.lookup iz=some ⟨.type "dict",none,.dict #[⟨h0_WHOLE_AT,.str "crank" tk0_WHOLE_AT,.ref p0_WHOLE_AT⟩,⟨h1_WHOLE_AT,.str "pair" tk1_WHOLE_AT,.ref p1_WHOLE_AT⟩,⟨h2_WHOLE_AT,.str "like" tk2_WHOLE_AT,.ref p2_WHOLE_AT⟩] tN,#[]⟩) (sm_WHOLE_AT:(iz == sysModules)=false) (lg0_WHOLE_AT:K.lookup p0_WHOLE_AT=some ⟨.type "tuple",od0_WHOLE_AT,.seq #[.int 1 t0_0_WHOLE_AT] n0_WHOLE_AT,sl0_WHOLE_AT⟩) (hh0_WHOLE_AT:h0_WHOLE_AT=hashStr w "crank") (lg1_WHOLE_AT:K.lookup p1_WHOLE_AT=some ⟨.type "tuple",od1_WHOLE_AT,.seq #[.int 1 t0_1_WHOLE_AT,.int 2 t1_1_WHOLE_AT,.int 5 t2_1_WHOLE_AT] n1_WHOLE_AT,sl1_WHOLE_AT⟩) (hh1_WHOLE_AT:h1_WHOLE_AT=hashStr w "pair") (lg2_WHOLE_AT:K.lookup p2_WHOLE_AT=some ⟨.type "tuple",od2_WHOLE_AT,.seq #[.int 1 t0_2_WHOLE_AT,.int 2 t1_2_WHOLE_AT] n2_WHOLE_AT,sl2_WHOLE_AT⟩) (hh2_WHOLE_AT:h2_WHOLE_AT=hashStr w "like")
  (cW:PySem.W.nsIn K mainGlobals "FRACTIONS_BEHIND"=some (some (.ref ck))) (cX:K.lookup ck=some ⟨.type "dict",none,.dict #[⟨h0_FRACTIONS_BEHIND,.str "shift" tk0_FRACTIONS_BEHIND,.int 2 tv0_FRACTIONS_BEHIND⟩,⟨h1_FRACTIONS_BEHIND,.str "grow" tk1_FRACTIONS_BEHIND,.int 3 tv1_FRACTIONS_BEHIND⟩,⟨h2_FRACTIONS_BEHIND,.str "turn" tk2_FRACTIONS_BEHIND,.int 4 tv2_FRACTIONS_BEHIND⟩,⟨h3_FRACTIONS_BEHIND,.str "mirror" tk3_FRACTIONS_BEHIND,.int 3 tv3_FRACTIONS_BEHIND⟩,⟨h4_FRACTIONS_BEHIND,.str "invert" tk4_FRACTIONS_BEHIND,.int 3 tv4_FRACTIONS_BEHIND⟩] ko,#[]⟩) (sm_FRACTIONS_BEHIND:(ck == sysModules)=false) (hh0_FRACTIONS_BEHIND:h0_FRACTIONS_BEHIND=hashStr w "shift") (hh1_FRACTIONS_BEHIND:h1_FRACTIONS_BEHIND=hashStr w "grow") (hh2_FRACTIONS_BEHIND:h2_FRACTIONS_BEHIND=hashStr w "turn") (hh3_FRACTIONS_BEHIND:h3_FRACTIONS_BEHIND=hashStr w "mirror") (hh4_FRACTIONS_BEHIND:h4_FRACTIONS_BEHIND=hashStr w "invert")
  (u4:PySem.W.nsIn K mainGlobals "ONE"=some (some (.ref Ac))) (vK:K.lookup Ac=some ⟨.type "tuple",Ev,.seq #[.int 1 D',.int 1 Ft] Hr,EB⟩)
  (zk:PySem.W.nsIn K mainGlobals "abs"=some none) (iq:PySem.W.nsIn K mainGlobals "isinstance"=some none) (u7:PySem.W.nsIn K mainGlobals "bool"=some none) (z7:PySem.W.nsIn K mainGlobals "int"=some none) (zM:PySem.W.nsIn K mainGlobals "len"=some none) (sI:PySem.W.nsIn K mainGlobals "tuple"=some none) (jA:PySem.W.nsIn K mainGlobals "enumerate"=some none) (zQ:PySem.W.nsIn K mainGlobals "str"=some none) (kR:PySem.W.nsIn K mainGlobals "reversed"=some none) (sG:PySem.W.nsIn K mainGlobals "range"=some none) (zn:PySem.W.nsIn K mainGlobals "all"=some none) (pe:PySem.W.nsIn K mainGlobals "sorted"=some none) (vf:PySem.W.nsIn K mainGlobals "dict"=some none) (Ak:PySem.W.nsIn K mainGlobals "max"=some none) (zO:PySem.W.nsIn K mainGlobals "min"=some none) (vU:PySem.W.nsIn K mainGlobals "list"=some none):
  ∃ fd:FuncData,(∀ (s:KL) (v:KM),BindsTo s fd ⟨[v],[]⟩ [("script",v)])/\∀ base:KT,K.In base->base.Ns mainGlobals mg->aQ l.prog w K mg base b8 8 fa fd ["script"] (ca K tD):=by
 have e:=hfa.symm.trans (PySem.W.mg_of X G d71.a);cases e;have eW:=Kt X G zk;have aw:=Kt X G iq;have nE:=Kt X G u7;have eI:=Kt X G z7;have aM:=Kt X G zM;have aK:=Kt X G sI;have du:=Kt X G jA;have jq:=Kt X G zQ;have kG:=Kt X G kR;have bH:=Kt X G sG;have z6:=Kt X G zn;have ig:=Kt X G pe;have mV:=Kt X G vf;have rJ:=Kt X G Ak;have yQ:=Kt X G zO;have vm:=Kt X G vU;have mz:Ez mg "FIGURES" "0123456789":=⟨_,PySem.W.mg_of X G kT⟩
 have kM:A7 K mg w "WHOLE_AT" [("crank",.tup (List.map D.int [1])),("pair",.tup (List.map D.int [1,2,5])),("like",.tup (List.map D.int [1,2]))]:=⟨iz,_,_,_,PySem.W.mg_of X G jR,ju,⟨rfl,rfl,rfl⟩,rfl,sm_WHOLE_AT,.cons hh0_WHOLE_AT (ly.tup ⟨_,_,_,lg0_WHOLE_AT,rfl,rfl,Kb rfl,.cons ⟨_,rfl⟩ (.nil)⟩) (.cons hh1_WHOLE_AT (ly.tup ⟨_,_,_,lg1_WHOLE_AT,rfl,rfl,Kb rfl,.cons ⟨_,rfl⟩ (.cons ⟨_,rfl⟩ (.cons ⟨_,rfl⟩ (.nil)))⟩) (.cons hh2_WHOLE_AT (ly.tup ⟨_,_,_,lg2_WHOLE_AT,rfl,rfl,Kb rfl,.cons ⟨_,rfl⟩ (.cons ⟨_,rfl⟩ (.nil))⟩) (.nil))),by decide⟩
 have db:A7 K mg w "FRACTIONS_BEHIND" [("shift",.int 2),("grow",.int 3),("turn",.int 4),("mirror",.int 3),("invert",.int 3)]:=⟨ck,_,_,_,PySem.W.mg_of X G cW,cX,⟨rfl,rfl,rfl⟩,rfl,sm_FRACTIONS_BEHIND,.cons hh0_FRACTIONS_BEHIND ly.int (.cons hh1_FRACTIONS_BEHIND ly.int (.cons hh2_FRACTIONS_BEHIND ly.int (.cons hh3_FRACTIONS_BEHIND ly.int (.cons hh4_FRACTIONS_BEHIND ly.int (.nil))))),by decide⟩
 have jj:vd mg "MOST_STEPS" 7:=⟨_,PySem.W.mg_of X G gM⟩
 have lw:vd mg "BLOCK" 64:=⟨_,PySem.W.mg_of X G oP⟩
 have jg:vd mg "MOST_LEADS" 6:=⟨_,PySem.W.mg_of X G gD⟩
 have zD:Fe K mg "ONE" [1,1]:=⟨Ac,_,_,_,PySem.W.mg_of X G u4,vK,rfl,rfl,Kb rfl,.cons ⟨_,rfl⟩ (.cons ⟨_,rfl⟩ (.nil))⟩
 obtain⟨fd,Fn,hc,hb⟩:=d71.fn;refine⟨fd,hb,λbase _ _=>?_⟩
 have zb:Bs l.prog w base:=.mk;have aZ:=d1.own zb X G λ_ F _=>lK F eW
 have e_:=d2.own zb X G λ_ F _=>AG F aZ
 have wl:=d3.own zb X G λ_ F _=>BL F e_
 have oA:=d4.own zb X G λ_ F _=>yA F e_
 have wc:=d5.own zb X G λ_ F _=>Cj F e_
 have bQ:=d6.own zb X G λ_ F _=>oa F eW
 have iX:=d7.own zb X G λ_ F _=>qm F
 have bR:=d8.own zb X G λ_ F _=>iA F iX
 have fA:=d9.own zb X G λ_ F _=>vQ F bR
 have bz:=d10.own zb X G λ_ F _=>tI F
 have im:=d11.own zb X G λ_ F _=>ur F aw nE eI
 have b5:=d12.own zb X G λ_ F _=>oR F im aZ aM aw aK
 have jF:=d13.own zb X G λ_ F _=>sJ F b5 fA bQ bz aM aw aK
 have jU:=d14.own zb X G λ_ F _=>sj F bz fA wc bQ
 have dS:=d15.own zb X G λ_ F _=>kU F wl oA
 have bg:=d11.own zb X G λ_ F _=>sY F aw nE eI
 have aX:=d12.own zb X G λ_ F _=>om F bg aZ aM aw aK
 have bj:=d16.own zb X G λ_ F _=>kJ F aX
 have df:=d17.own zb X G λ_ F _=>uh F bg
 have bp:=d18.own zb X G λ_ F _=>jQ F df
 have oT:=d19.own zb X G λ_ F _=>x6 F aX aM
 have lh:=d20.own zb X G λ_ F _=>t_ F df bj aM
 have nh:=d21.own zb X G λ_ F _=>va F bp bj bg aM
 have mC:=d22.own zb X G λ_ F _=>v5 F bp aX aM
 have mJ:=d23.own zb X G λ_ F _=>vA F oT lh nh mC aM aw aK
 have iU:=d24.own zb X G λ_ F _=>qw F mJ aM aw aK du jj
 have a9:=d25.own zb X G λ_ F _=>qk F eW jq kG
 have aT:=d26.own zb X G λ_ F _=>nv F a9
 have eC:=d27.own zb X G λ_ F _=>pI F bz aT
 have iC:=d28.own zb X G λ_ F _=>qj F eC
 have mD:=d29.own zb X G λ_ F _=>v8 F bg a9 aT
 have eB:=d30.own zb X G λ_ F _=>tV F mD
 have fC:=d31.own zb X G λ_ F _=>n4 F eB
 have eZ:=d32.own zb X G λ_ F _=>qt F eB
 have fW:=d33.own zb X G λ_ F _=>oe F aM eI bH lw
 have bi:=d34.own zb X G λ_ F _=>qy F fW z6 mz
 have aJ:=d35.own zb X G λ_ F _=>mE F bi b5
 have eE:=d36.own zb X G λ_ F _=>oJ F aJ bz jF
 have eo:=d37.own zb X G λ_ F _=>uz F aw jq
 have je:=d38.own zb X G λ_ F _=>p4 F eo eE jU aM
 have cP:=d39.own zb X G λ_ F _=>vN F eo
 have jG:=d40.own zb X G λ_ F _=>sA F bi aJ du aK kM
 have fV:=d41.own zb X G λ_ F _=>ox F cP jG iU aK
 have nH:=d42.own zb X G λ_ F _=>wj F dS aM db zD
 have j5:=d43.own zb X G λ_ F _=>s9 F aJ nH aK
 have iw:=d44.own zb X G λ_ F _=>p6 F cP j5 aM jg
 have fc:=d45.own zb X G λ_ F _=>pX F bi aM
 have ip:=d46.own zb X G λ_ F _=>qc F a9 aT ig
 have iW:=d47.own zb X G λ_ F _=>qv F cP aJ fc aM
 have fU:=d48.own zb X G λ_ F _=>og F aM
 have ir:=d49.own zb X G λ_ F _=>pW F fU
 have ax:=d50.own zb X G λ_ F _=>sX F
 have fF:=d51.own zb X G λ_ F _=>n9 F eW
 have bL:=d52.own zb X G λ_ F _=>qz F fF
 have fg:=d53.own zb X G λ_ F _=>qf F bL
 have aq:=d54.own zb X G λ_ F _=>mY F bL ax
 have b6:=d55.own zb X G λ_ F _=>pk F aq
 have jf:=d56.own zb X G λ_ F _=>p7 F mV
 have iY:=d57.own zb X G λ_ F _=>qb F ax aq b6 jf bH
 have fv:=d58.own zb X G λ_ F _=>qd F fg eW
 have jE:=d59.own zb X G λ_ F _=>rM F ax
 have di:=d60.own zb X G λ_ F _=>kj F fv
 have dA:=d61.own zb X G λ_ F _=>k7 F ax aq bH aK
 have jB:=d62.own zb X G λ_ F _=>rP F ax aq b6
 have iP:=d63.own zb X G λ_ F _=>p8 F ax jB bH eI
 have dE:=d64.own zb X G λ_ F _=>qr F bL ax
 have fD:=d65.own zb X G λ_ F _=>on F aq ax dE bH aM rJ aK
 have cK:=d66.own zb X G λ_ F _=>si F aw aK jq
 have cJ:=d67.own zb X G λ_ F _=>sk F cK
 have dO:=d68.own zb X G λ_ F _=>kZ F cJ ig
 have cg:=d69.own zb X G λ_ F _=>km F cK eI
 have dM:=d70.own zb X G λ_ F _=>kW F cg
 exact Ds Fn ir jE fD iP iY di dA dM dO cJ iC ip eZ fC je iW iw fV bH rJ yQ aM aw mV vm aK
theorem walk {l:PySem.W.OpenLaw} {q:KQ} {loose:List Str} {XP:(Str->KO KM)->KT->Prop} {YP:KS->KT->Prop} {d:DefRec} {K:Params->Fg} (hn:l.most=some 63) (hdf:d.params.defaults=[])
  (hY:∀ (w:KS) (h:KT),YP w h->(K w.params).In h)
  (F:∀ (w:KS) (mg:Str->KO KM) (fa:KN) (h:KT),(K w.params).In h->h.Ns mainGlobals mg->mg d.name=some (.ref fa)->
   ∃ fd:FuncData,(∀ (s:KL) (u:KM),BindsTo s fd ⟨[u],[]⟩ [("script",u)])/\∀ base:KT,(K w.params).In base->base.Ns mainGlobals mg->aQ l.prog w (K w.params) mg base b8 8 fa fd ["script"] (ca (K w.params) tD)):
  PySem.W.WalkO q loose XP YP l.row.toRowW d [] (λf vs=>PySem.call f vs):=
 L2.Cf (n:=63) (k:=8) (x:="script") (CX:=λ_=>b8) (sp:=λw=>ca (K w.params) tD) hn (by decide) hdf ⟨rfl,by decide,by decide⟩ hY F
  (λw H a ns hl ho hS=>DL.C' ho hS (BO ns hl)) λ_ _ _ _ _ z=>z
end My
open PySem PySem.W PyProof.Rows
set_option maxRecDepth 100000 in
set_option maxHeartbeats 0 in
theorem PySem.Challenge.cw_hingedraw_k91_texts_written_and_read_holds : PySem.Challenge.rw_hingedraw_k91_texts_written_and_read.Holds := by
 w_on; o_law; k_head; (case hw=>w_witness2)
 k_fill
 refine My.walk (l := PySem.Challenge.rw_hingedraw_k91_texts_written_and_read) rfl rfl (λw h Y => PySem.W.kIn_of Y) ?F
 case F=>
  intro w mg fa h KX G hmg;refine' My.Db KX G hmg ?d1 ?d2 ?d3 ?d4 ?d5 ?d6 ?d7 ?d8 ?d9 ?d10 ?d11 ?d12 ?d13 ?d14 ?d15 ?d16 ?d17 ?d18 ?d19 ?d20 ?d21 ?d22 ?d23 ?d24 ?d25 ?d26 ?d27 ?d28 ?d29 ?d30 ?d31 ?d32 ?d33 ?d34 ?d35 ?d36 ?d37 ?d38 ?d39 ?d40 ?d41 ?d42 ?d43 ?d44 ?d45 ?d46 ?d47 ?d48 ?d49 ?d50 ?d51 ?d52 ?d53 ?d54 ?d55 ?d56 ?d57 ?d58 ?d59 ?d60 ?d61 ?d62 ?d63 ?d64 ?d65 ?d66 ?d67 ?d68 ?d69 ?d70 ?d71 ?gM ?oP ?gD ?kT ?jR ?ju ?sm_WHOLE_AT ?lg0_WHOLE_AT ?hh0_WHOLE_AT ?lg1_WHOLE_AT ?hh1_WHOLE_AT ?lg2_WHOLE_AT ?hh2_WHOLE_AT ?cW ?cX ?sm_FRACTIONS_BEHIND ?hh0_FRACTIONS_BEHIND ?hh1_FRACTIONS_BEHIND ?hh2_FRACTIONS_BEHIND ?hh3_FRACTIONS_BEHIND ?hh4_FRACTIONS_BEHIND ?u4 ?vK ?zk ?iq ?u7 ?z7 ?zM ?sI ?jA ?zQ ?kR ?sG ?zn ?pe ?vf ?Ak ?zO ?vU
  case d1 | d2 | d3 | d4 | d5 | d6 | d7 | d8 | d9 | d10 | d11 | d12 | d13 | d14 | d15 | d16 | d17 | d18 | d19 | d20 | d21 | d22 | d23 | d24 | d25 | d26 | d27 | d28 | d29 | d30 | d31 | d32 | d33 | d34 | d35 | d36 | d37 | d38 | d39 | d40 | d41 | d42 | d43 | d44 | d45 | d46 | d47 | d48 | d49 | d50 | d51 | d52 | d53 | d54 | d55 | d56 | d57 | d58 | d59 | d60 | d61 | d62 | d63 | d64 | d65 | d66 | d67 | d68 | d69 | d70 | d71=>refine' ⟨?a,.mk ?l,?e,?k⟩; (case a=>k_is); (case l=>k_is); (case e=>k_is); (case k=>k_is)
  (case gM=>k_is)
  (case oP=>k_is)
  (case gD=>k_is)
  (case kT=>k_is)
  (case jR=>k_is)
  (case ju=>k_is)
  (case sm_WHOLE_AT=>kernel_rfl)
  (case lg0_WHOLE_AT=>k_is)
  (case hh0_WHOLE_AT=>kernel_rfl)
  (case lg1_WHOLE_AT=>k_is)
  (case hh1_WHOLE_AT=>kernel_rfl)
  (case lg2_WHOLE_AT=>k_is)
  (case hh2_WHOLE_AT=>kernel_rfl)
  (case cW=>k_is)
  (case cX=>k_is)
  (case sm_FRACTIONS_BEHIND=>kernel_rfl)
  (case hh0_FRACTIONS_BEHIND=>kernel_rfl)
  (case hh1_FRACTIONS_BEHIND=>kernel_rfl)
  (case hh2_FRACTIONS_BEHIND=>kernel_rfl)
  (case hh3_FRACTIONS_BEHIND=>kernel_rfl)
  (case hh4_FRACTIONS_BEHIND=>kernel_rfl)
  (case u4=>k_is)
  (case vK=>k_is)
  (case zk=>k_is)
  (case iq=>k_is)
  (case u7=>k_is)
  (case z7=>k_is)
  (case zM=>k_is)
  (case sI=>k_is)
  (case jA=>k_is)
  (case zQ=>k_is)
  (case kR=>k_is)
  (case sG=>k_is)
  (case zn=>k_is)
  (case pe=>k_is)
  (case vf=>k_is)
  (case Ak=>k_is)
  (case zO=>k_is)
  (case vU=>k_is)
