import PyProof.Rows.All
import Wide.All
import OpenK.AllK
import Wide.FinOn
import Lean
import PyProof.EqAt
import PyProof.EqKinds
import PyProof.TupleCall
import PyProof.ExcArgs
import KE.KSortKey
import KE.KIsAll
import PyProof.ExcInit
import PyProof.StationsW
import PyProof.NsDelKeeps
import PyProof.RulesAs
import PyProof.PassesOwn
import PyProof.ExcBaseAll.ValueError
import PyProof.InstStoreFacts
import PyProof.Rows.EqDataRows
import PyProof.ReprRoads
import PyProof.Rows.Range3
import PyProof.ConsumeWalk
import PyProof.FString5
import PyProof.ReprLen
import PyProof.Rows.TupAdd
import PyProof.Rows.RuleIs
import PyProof.ListNew
import KE.KRevIter
import PyProof.Rows.SeqMore2
import PyProof.ListRange
import KE.KEqDict
import PyProof.NeKinds
import PyProof.CallStr
import PyProof.ListMulAny
import PyProof.Rows.SetFrom
import PyProof.SetRoads
import KE.KSortTup
import PySem.Challenge.RW_ringloads_k48_ways_for_a_wish
set_option Elab.async false
set_option linter.all false
set_option maxRecDepth 100000
set_option maxHeartbeats 0
theorem z_ {α:Sort _} {a b:α} (h:a=b:=by kernel_rfl):a=b:=h
theorem y_ {p:Prop} [Decidable p] (h:decide p=true:=by decide +kernel):p:=of_decide_eq_true h
theorem xp {p:Prop} [Decidable p] (h:decide p=true:=by decide):p:=of_decide_eq_true h
theorem xL{p:Prop}(h:p:=by omega):p:=h
theorem x_{p:Prop}(h:p:=by simp):p:=h
section
open PySem PySem.Spec PyProof.Rows PySem.W
theorem gV:type_of% @List.getElem?_eq_getElem:=@List.getElem?_eq_getElem
theorem kS:type_of% @wpAny_bind:=@wpAny_bind
theorem k4:type_of% @List.getElem?_eq_some_iff:=@List.getElem?_eq_some_iff
theorem k5:type_of% @List.mem_cons_of_mem:=@List.mem_cons_of_mem
theorem p4:type_of% @Heap.get?_push_of_some:=@Heap.get?_push_of_some
theorem so:type_of% @Nat.lt_of_lt_of_le:=@Nat.lt_of_lt_of_le
theorem tu:type_of% @List.getD_eq_getElem?_getD:=@List.getD_eq_getElem?_getD
theorem tv:type_of% @List.mem_cons_self:=@List.mem_cons_self
theorem Up:type_of% @List.length_map:=@List.length_map
theorem Uq:type_of% @List.mem_cons:=@List.mem_cons
theorem Ur:type_of% @Nat.le_trans:=@Nat.le_trans
theorem Us:type_of% @Nat.pow_le_pow_right:=@Nat.pow_le_pow_right
theorem Ut:type_of% @Heap.lt_size:=@Heap.lt_size
theorem Uu:type_of% @Nat.le_refl:=@Nat.le_refl
theorem Uv:type_of% @Nat.lt_of_le_of_lt:=@Nat.lt_of_le_of_lt
theorem Uw:type_of% @wpAny_pure:=@wpAny_pure
end
namespace L2
open PySem PySem.Spec PyProof.Rows
noncomputable abbrev Pz:=Sum Int Str
noncomputable def KN:Pz->Value->Bool
 |.inl k,v=>Value.isInt k v
 |.inr x,v=>Value.isStrOf x v
noncomputable def OT(w:World):Pz->Int
 |.inl k=>hashInt k
 |.inr x=>hashStr w x
theorem bX:∀{k:Pz}{v:Value},KN k v=true->(∃i t,k=Sum.inl i/\v=Value.int i t)∨(∃x t,k=Sum.inr x/\v=Value.str x t)
 | .inl i,v,h=>by obtain⟨t,e⟩:=Value.isInt_shape (k:=i) (v:=v) h;exact .inl ⟨i,t,rfl,e⟩
 | .inr x,v,h=>by obtain⟨t,e⟩:=Value.isStrOf_shape (x:=x) (v:=v) h;exact .inr ⟨x,t,rfl,e⟩
theorem KO(a b:Int):decide ((Sum.inl a:Pz)=Sum.inl b)=(a == b):=by
 by_cases e:a=b
 . subst e;simp
 . have h:¬(Sum.inl a:Pz)=Sum.inl b:=λq=>e (Sum.inl.inj q);rw[decide_eq_false h];exact(beq_eq_false_iff_ne.mpr e).symm
theorem KP(a b:Str):decide ((Sum.inr a:Pz)=Sum.inr b)=decide (a=b):=by
 by_cases e:a=b
 . subst e;simp
 . have h:¬(Sum.inr a:Pz)=Sum.inr b:=λq=>e (Sum.inr.inj q);rw[decide_eq_false h,decide_eq_false e]
theorem KQ(a:Int)(b:Str):decide ((Sum.inl a:Pz)=Sum.inr b)=false:=decide_eq_false (λq=>nomatch q)
theorem KR(a:Str)(b:Int):decide ((Sum.inr a:Pz)=Sum.inl b)=false:=decide_eq_false (λq=>nomatch q)
noncomputable def yw(prog:Program)(w:World):PySem.KeyKind prog w Pz where
 is:=KN
 hash:=OT w
 inj:=λv a b ha hb=>by
  rcases bX ha with⟨i,t,rfl,rfl⟩|⟨x,t,rfl,rfl⟩
  .
   rcases bX hb with⟨j,u,rfl,e⟩|⟨y,u,rfl,e⟩
   . injection e with e1 _;rw[e1]
   . exact nomatch e
  .
   rcases bX hb with⟨j,u,rfl,e⟩|⟨y,u,rfl,e⟩
   . exact nomatch e
   . injection e with e1 _;rw[e1]
 byValue:=λk v h=>by rcases bX h with⟨i,t,rfl,rfl⟩|⟨x,t,rfl,rfl⟩<;>rfl
 pyHash:=λhv h=>by
  rcases bX hv with⟨i,t,rfl,rfl⟩|⟨x,t,rfl,rfl⟩
  . exact wpAny_pyHash_int h
  . exact wpAny_pyHash_str h
 eqBool:=λhu hv h=>by
  rcases bX hu with⟨i,t,rfl,rfl⟩|⟨x,t,rfl,rfl⟩
  .
   rcases bX hv with⟨j,u,rfl,rfl⟩|⟨y,u,rfl,rfl⟩
   . rw[KO]at h;exact wpAny_eqBool_int h
   . rw[KQ]at h;exact SeqAt.EqAt.int_str i t y u _ _ _ _ h
  .
   rcases bX hv with⟨j,u,rfl,rfl⟩|⟨y,u,rfl,rfl⟩
   . rw[KR]at h;exact SeqAt.EqAt.str_int x t j u _ _ _ _ h
   . rw[KP]at h;exact wpAny_eqBool_str h
 «strs»:=λk x t v h=>by
  rcases bX h with⟨i,u,rfl,e⟩|⟨y,u,rfl,e⟩
  . exact nomatch e
  . injection e with e1 _;subst e1;cases v<;>rfl
inductive V where
 |non|bl (b:Bool)|int (i:Int)|str (x:Str)|byt (b:Array UInt8)|flt (b:UInt64)|ref (a:Addr)|ty (n:String)
 deriving DecidableEq
def cJ:V->Value->Prop
 |.non,u=>u=Value.none
 |.bl b,u=>u=Value.bool b
 |.int i,u=>∃t,u=Value.int i t
 |.str x,u=>∃t,u=Value.str x t
 |.byt b,u=>∃t,u=Value.bytes b t
 |.flt b,u=>∃t,u=Value.float b t
 |.ref a,u=>u=Value.ref a
 |.ty n,u=>u=Value.type n
abbrev ck:List V->List Value->Prop:=Paired cJ
theorem ck.length{xs:List V}{us:List Value}(r:ck xs us):xs.length=us.length:=Paired.length r
theorem ck.get:∀{xs:List V}{us:List Value}{i:Nat}{x:V},ck xs us->xs[i]?=some x->∃u,us[i]?=some u/\cJ x u
 |_,_,_,_,.nil,e=>by simp at e
 |_,_,0,_,.cons r _,e=>by simp at e;subst e;exact⟨_,rfl,r⟩
 | _,_,i+1,x,.cons _ t,e=>by obtain⟨u,h1,h2⟩:=ck.get (i:=i) (x:=x) t (by simpa using e);exact⟨u,by simpa using h1,h2⟩
theorem ck.set{x:V}{u:Value}(r:cJ x u):∀{xs:List V}{us:List Value}(i:Nat),ck xs us->ck (xs.set i x) (us.set i u)
 |_,_,_,.nil=>.nil
 |_,_,0,.cons _ t=>.cons r t
 |_,_,i+1,.cons q t=>.cons q (ck.set r i t)
theorem ck.append:∀{xs ys:List V}{us ws:List Value},ck xs us->ck ys ws->ck (xs++ys) (us++ws)
 |_,_,_,_,.nil,s=>s
 |_,_,_,_,.cons r t,s=>.cons r (ck.append t s)
theorem ck.take:∀{xs:List V}{us:List Value}(n:Nat),ck xs us->ck (xs.take n) (us.take n)
 |_,_,0,_=>.nil
 |_,_,_+1,.nil=>.nil
 |_,_,n+1,.cons r t=>.cons r (ck.take n t)
theorem ck.drop:∀{xs:List V}{us:List Value}(n:Nat),ck xs us->ck (xs.drop n) (us.drop n)
 |_,_,0,r=>r
 |_,_,_+1,.nil=>.nil
 |_,_,n+1,.cons _ t=>ck.drop n t
def MW:Option V->Option Value->Prop
 |some v,some u=>cJ v u
 |none,none=>True
 |_,_=>False
def KV{κ:Type}:List (κ×V)->List (κ×Value)->Prop:=Paired λ(p:κ×V) (q:κ×Value)=>p.1=q.1/\cJ p.2 q.2
noncomputable def kV:Pz->V
 |.inl i=>.int i
 |.inr x=>.str x
inductive HO where
 |lst (xs:List V)
 |tup (xs:List V)
 |dK (kvs:List (Pz×V))|dT (kvs:List (List Pz×V))
 |set (S:Int->Bool) (n:Nat)
 |ins (C dx:Addr) (fs:List (Str×V))
 |own (x:Addr)
 |xd (fs:List (Str×V))
 |met (f x:Addr)
 |rng (lo hi:Int)
 |frz (o:Obj) (u:HO)
 |tbl (q:Str)
 |ext (φ:Heap->Prop)
noncomputable abbrev Hp:=Addr->Option HO
noncomputable def PD(H:Hp)(a:Addr)(o:HO):Hp:=λb=>if b=a then some o else H b
theorem bG{H:Hp}{a:Addr}{o:HO}:PD H a o a=some o:=by unfold PD;rw[if_pos rfl]
theorem aE{H:Hp}{a b:Addr}{o:HO}(h:b≠a):PD H a o b=H b:=by unfold PD;rw[if_neg h]
theorem bK{H:Hp}{a b:Addr}{o:HO}(h:H a=some o)(h':H b=none):a≠b:=by intro e;subst e;rw[h]at h';cases h'
def Ab(oc:Obj)(q:Str):Prop:=∃vs t,oc.data=.fields vs/\vs[1]?=some (.str q t)
section
variable(P:Program)(w:World)
def g9(H:Hp)(h:Heap)(a:Addr):HO->Prop
 |.lst xs=>xs.length<=sizeLine/\∃(its:List Value)(n:Nat),ck xs its/\h.get? a=some {cls:=.type "list",data:=.seq its.toArray n}
 |.tup xs=>xs.length<=sizeLine/\∃its:List Value,ck xs its/\IsTup h a its.toArray
 |.dK kvs=>kvs.length<=sizeLine/\(a == sysModules)=false/\∃vs,KV kvs vs/\h.DictOf (yw P w) a vs
 | .dT kvs=>kvs.length<=sizeLine/\(a == sysModules)=false/\∃xs:List (List Pz×Addr×Value),
   Paired (λ(p:List Pz×V) (q:List Pz×Addr×Value)=>p.1=q.1/\H q.2.1=some (.tup (p.1.map kV))/\cJ p.2 q.2.2) kvs xs /\
   ∃o es ep,h.get? a=some o/\o.ExactDict/\o.data=.dict es ep/\es.toList=xs.map (entryOfKey (tupleKind (yw P w)))/\(xs.map (·.1)).Nodup
 |.set S n=>h.SetOf (intKind P w) a S n
 | .ins C dx fs=>H dx=some (.own a)/\fs.length<=1000/\dx≠a/\h.get? a=some (PySem.W.instObj C dx) /\
   ∃mA,h.Ns1 dx mA/\(∀f,MW (fs.lookup f) (mA f))/\PySem.Within mA (fs.map (·.1))
 |.own _=>∃o,h.get? a=some o
 |.xd fs=>∃mA,h.Ns1 a mA/\∀f,MW (fs.lookup f) (mA f)
 |.rng lo hi=>∃ t u v,h.get? a=some {cls:=.type "range",data:=.fields #[.int lo t,.int hi u,.int 1 v] }
 |.frz o u=>h.get? a=some o/\g9 H h a u
 |.tbl q=>∃ps:Array Value,h.get? a=some {cls:=.none,data:=.fields ps}/\TriplesOk ps.toList/\∀pos cv,codeAmong pos ps.toList=some cv->∃c' oc,cv=.ref c'/\H c'=some (.frz oc (.own c'))/\Ab oc q
 |.met f x=>h.get? a=some (PySem.W.methodObj (.ref f) (.ref x))
 |.ext φ=>φ h/\(∃o,h.get? a=some o)/\∀h1 h2:Heap,φ h1->(∀o,h1.get? a=some o->h2.get? a=some o)->φ h2
def PF(H:Hp)(h:Heap):Prop:=∀a o,H a=some o->g9 P w H h a o
end
section
variable{P:Program}{w:World}{H H':Hp}{h h':Heap}{a:Addr}{o:HO}
theorem g9.lt(x:g9 P w H h a o):a<h.objs.size:=by
 cases o with
 |lst xs=>obtain⟨_,_,_,_,e⟩:=x;exact Ut e
 |tup xs=>obtain⟨_,_,_,p⟩:=x;exact p.lt
 |dK kvs=>obtain⟨_,_,_,_,o,_,_,e,_⟩:=x;exact Ut e
 |dT kvs=>obtain⟨_,_,_,_,o,_,_,e,_⟩:=x;exact Ut e
 |set S n=>obtain⟨o,_,_,_,e,_⟩:=x;exact Ut e
 |ins C dx fs=>obtain⟨_,_,_,e,_⟩:=x;exact Ut e
 |own y=>obtain⟨_,e⟩:=x;exact Ut e
 |xd fs=>obtain⟨_,⟨_,_,_,e,_⟩,_⟩:=x;exact Ut e
 |rng lo hi=>obtain⟨_,_,_,e⟩:=x;exact Ut e
 |frz ob u=>obtain⟨e,_⟩:=x;exact Ut e
 |tbl q=>obtain⟨_,e,_⟩:=x;exact Ut e
 |met f y=>exact Ut (show h.get? a=some _ from x)
 |ext φ=>obtain⟨_,⟨_,e⟩,_⟩:=x;exact Ut e
theorem Paired.mapP{α β:Type}{F G:α->β->Prop}:∀{l₁:List α}{l₂:List β},Paired F l₁ l₂->(∀a b,F a b->G a b)->Paired G l₁ l₂
 |_,_,.nil,_=>.nil
 |_,_,.cons r t,f=>.cons (f _ _ r) (Paired.mapP t f)
theorem g9.stay(x:g9 P w H h a o)(k:∀b u,(b=a∨H b=some (.own a))->h.get? b=some u->h'.get? b=some u)
  (ho:∀b,H b=some (.own a)->H' b=some (.own a)) (ht:∀b xs,H b=some (.tup xs)->H' b=some (.tup xs)) (hf:∀b o q,Ab o q->H b=some (.frz o (.own b))->H' b=some (.frz o (.own b))):g9 P w H' h' a o:=by
 induction o with
 |lst xs=>obtain⟨z,its,n,r,e⟩:=x;exact⟨z,its,n,r,k _ _ (.inl rfl) e⟩
 |tup xs=>obtain⟨z,its,r,ob,e,c⟩:=x;exact⟨z,its,r,ob,k _ _ (.inl rfl) e,c⟩
 |dK kvs=>obtain⟨z,y,vs,r,ob,es,ep,e,c⟩:=x;exact⟨z,y,vs,r,ob,es,ep,k _ _ (.inl rfl) e,c⟩
 | dT kvs =>
  obtain⟨z,y,xs,r,ob,es,ep,e,c⟩:=x;exact⟨z,y,xs,Paired.mapP r λp q z=>⟨z.1,ht _ _ z.2.1,z.2.2⟩,ob,es,ep,k _ _ (.inl rfl) e,c⟩
 |set S n=>obtain⟨ob,es,ep,t,e,c⟩:=x;exact⟨ob,es,ep,t,k _ _ (.inl rfl) e,c⟩
 | ins C dx fs =>
  obtain⟨d,z,ne,e,mA,⟨od,es,ep,e2,c⟩,r⟩:=x;exact⟨ho _ d,z,ne,k _ _ (.inl rfl) e,mA,⟨od,es,ep,k _ _ (.inr d) e2,c⟩,r⟩
 |own y=>obtain⟨ob,e⟩:=x;exact⟨ob,k _ _ (.inl rfl) e⟩
 |xd fs=>obtain⟨mA,⟨od,es,ep,e,c⟩,r⟩:=x;exact⟨mA,⟨od,es,ep,k _ _ (.inl rfl) e,c⟩,r⟩
 |rng lo hi=>obtain⟨t,u,v,e⟩:=x;exact⟨t,u,v,k _ _ (.inl rfl) e⟩
 |frz ob u ih=>obtain⟨e,q⟩:=x;exact⟨k _ _ (.inl rfl) e,ih q⟩
 | tbl q =>
  obtain⟨ps,e,tr,m⟩:=x
  exact⟨ps,k a _ (.inl rfl) e,tr,λpos cv z=>let ⟨c',oc,a1,a2,a3⟩:=m pos cv z;⟨c',oc,a1,hf _ _ _ a3 a2,a3⟩⟩
 | met f y =>
  have e:h.get? a=some (PySem.W.methodObj (.ref f) (.ref y)):=x;show h'.get? a=some (PySem.W.methodObj (.ref f) (.ref y));exact k a _ (.inl rfl) e
 |ext φ=>obtain⟨p,⟨o,e⟩,st⟩:=x;exact⟨st _ _ p λo q=>k _ _ (.inl rfl) q,⟨o,k _ _ (.inl rfl) e⟩,st⟩
theorem PF.lt(x:PF P w H h)(e:H a=some o):a<h.objs.size:=(x a o e).lt
theorem PF.fresh(x:PF P w H h)(e:h.objs.size<=a):H a=none:=by
 cases q:H a with
 |none=>rfl
 |some u=>exact absurd (so (x.lt q) e) (Nat.lt_irrefl _)
theorem PF.kept(x:PF P w H h)(k:∀b u,h.get? b=some u->h'.get? b=some u):PF P w H h':=λa o e =>
 (x a o e).stay (λb u _ q=>k b u q) (λ_ q=>q) (λ_ _ q=>q) λ_ _ _ _ q=>q
theorem PF.laid(x:PF P w H h)(k:∀b u,h.get? b=some u->h'.get? b=some u)(hp:h.objs.size<=a)(new:g9 P w (PD H a o) h' a o):PF P w (PD H a o) h':=λb u e=>by
 have hn:=x.fresh hp;by_cases hb:b=a
 . subst hb;rw[bG]at e;cases e;exact new
 . rw[aE hb]at e;exact(x b u e).stay (λc v _ q=>k c v q) (λc q=>by rw[aE (bK q hn)];exact q) (λc xs q=>by rw[aE (bK q hn)];exact q) λc ob _ _ q=>by rw[aE (bK q hn)];exact q
end
def Rd(H:Hp)(a:Addr)(u:HO):Prop:=H a=some u∨∃o,H a=some (.frz o u)
theorem Rd.ok{P:Program}{w:World}{H:Hp}{h:Heap}{a:Addr}{u:HO}(r:Rd H a u)(x:PF P w H h):g9 P w H h a u:=by
 rcases r with r|⟨o,r⟩
 . exact x a u r
 . obtain⟨_,q⟩:=x a _ r;exact q
def PH:Option HO->Prop
 |some (.lst _)=>True
 |some (.dK _)=>True
 |some (.dT _)=>True
 |some (.set _ _)=>True
 |some (.ins _ _ _)=>True
 |some (.ext _)=>True
 |_=>False
section
variable{P:Program}{w:World}{H:Hp}{h h':Heap}{x e:Addr}{o':HO}
theorem PF.write(ok:PF P w H h)(mu:PH (H x))(he:e=x∨H e=some (.own x))(k:∀b u,b≠e->h.get? b=some u->h'.get? b=some u)(heo:∃u,h'.get? e=some u)
  (new:g9 P w (PD H x o') h' x o'):PF P w (PD H x o') h':=λb u q=>by
 have nown:∀c y,H c=some (.own y)->c≠x:=λc y r z=>by subst z;rw[r]at mu;exact mu
 have ntup:∀c xs,H c=some (.tup xs)->c≠x:=λc xs r z=>by subst z;rw[r]at mu;exact mu
 have nfrz:∀c o u,H c=some (.frz o u)->c≠x:=λc o u r z=>by subst z;rw[r]at mu;exact mu
 by_cases hb:b=x
 . subst hb;rw[bG]at q;cases q;exact new
 .
  rw[aE hb]at q;by_cases hbe:b=e
  .
   have q':H b=some (.own x):=by
    rcases he with z|z
    . exact absurd (hbe.trans z) hb
    . rw[hbe];exact z
   rw[q]at q';cases q';obtain⟨v,hv⟩:=heo;exact⟨v,by rw[hbe];exact hv⟩
  .
   refine(ok b u q).stay (λc v hc r=>k c v ?_ r) (λc r=>by rw[aE (nown c b r)];exact r) (λc xs r=>by rw[aE (ntup c xs r)];exact r) λc ob _ _ r=>by rw[aE (nfrz c ob _ r)];exact r
   rcases hc with rfl|hc
   . exact hbe
   .
    rintro rfl;rcases he with z|z
    . exact nown c b hc z
    . rw[hc]at z;cases z;exact hb rfl
end
structure Un (fs ex:List Addr) (H H':Hp) (h h':Heap):Prop where
 keep:∀b o,h.get? b=some o->H b=none->b∉fs->b∉ex->h'.get? b=some o
 slot:∀b o,h.get? b=some o->H b=none->b∈fs->b∉ex->∃sl,h'.get? b=some {o with slots:=sl}
 free:∀b o,h.get? b=some o->H b=none->b∉ex->H' b=none
 there:∀b o,h.get? b=some o->b∉ex->∃o',h'.get? b=some o'
 tups:∀b xs,H b=some (.tup xs)->H' b=some (.tup xs)
 frzs:∀b o u,H b=some (.frz o u)->H' b=some (.frz o u)
 tbls:∀b q,H b=some (.tbl q)->H' b=some (.tbl q)
section
variable{fs ex:List Addr}{H H1:Hp}{h h1 h':Heap}{a x e:Addr}{o:HO}
theorem Un.any(u:Un fs ex H H1 h h1){b:Addr}{ob:Obj}(q:h.get? b=some ob)(n:H b=none)(hx:b∉ex):∃sl,h1.get? b=some {ob with slots:=sl}:=by
 by_cases hb:b∈fs
 . exact u.slot b ob q n hb hx
 . exact⟨ob.slots,u.keep b ob q n hb hx⟩
theorem Un.kept(k:∀b u,h.get? b=some u->h'.get? b=some u):Un fs ex H H h h' :=
 ⟨λb ob q _ _ _=>k b ob q,λb ob q _ _ _=>⟨ob.slots,k b ob q⟩,λ_ _ _ n _=>n,λb ob q _=>⟨ob,k b ob q⟩,λ_ _ q=>q,λ_ _ _ q=>q,λ_ _ q=>q⟩
theorem Un.refl:Un fs ex H H h h:=Un.kept λ_ _ q=>q
theorem Un.laid(k:∀b u,h.get? b=some u->h'.get? b=some u)(hp:h.objs.size<=a)(hn:H a=none):Un fs ex H (PD H a o) h h' where
 keep:=λb u q _ _ _=>k b u q
 slot:=λb u q _ _ _=>⟨u.slots,k b u q⟩
 free:=λb u q n _=>by rw[aE (Nat.ne_of_lt (so (Ut q) hp))];exact n
 there:=λb u q _=>⟨u,k b u q⟩
 tups:=λb xs q=>by rw[aE (bK q hn)];exact q
 frzs:=λb u xs q=>by rw[aE (bK q hn)];exact q
 tbls:=λb ps q=>by rw[aE (bK q hn)];exact q
theorem Un.write(mu:PH (H x))(he:e=x∨H e=some (.own x))(k:∀b u,b≠e->h.get? b=some u->h'.get? b=some u)(heo:∃u,h'.get? e=some u):Un fs ex H (PD H x o) h h':=by
 have hx:∀b,H b=none->b≠x:=λb n z=>by subst z;rw[n]at mu;exact mu
 have hb:∀b,H b=none->b≠e:=λb n z=>by
  subst z;rcases he with r|r
  . exact hx b n r
  . rw[n]at r;cases r
 have hm:∀b u,H b=some u->¬PH (some u)->b≠x:=λb u q nm z=>by subst z;rw[q]at mu;exact nm mu
 refine⟨λb u q n _ _=>k b u (hb b n) q,λb u q n _ _=>⟨u.slots,k b u (hb b n) q⟩,λb u q n _=>by rw[aE (hx b n)];exact n,λb u q _=>?_,
  λb xs q=>by rw[aE (hm b _ q λz=>z)];exact q,λb u xs q=>by rw[aE (hm b _ q λz=>z)];exact q,λb ps q=>by rw[aE (hm b _ q λz=>z)];exact q⟩
 by_cases hbe:b=e
 . subst hbe;exact heo
 . exact⟨u,k b u hbe q⟩
end
noncomputable def PJ(h:Heap)(H:Hp):List Addr:=(List.range h.objs.size).filter λa=>(H a).isSome
noncomputable def Fh(h:Heap)(H:Hp):Heap:=PySem.W.hideAll h (PJ h H)
theorem B6(h:Heap)(H:Hp):(Fh h H).objs.size=h.objs.size:=PySem.W.hideAll_size _ _
theorem Fi{h:Heap}{H:Hp}{b:Addr}{o:Obj}(e:h.get? b=some o)(n:H b=none):(Fh h H).get? b=some o :=
 PySem.W.hideAll_get _ e λhm=>by have q:(H b).isSome=true:=(List.mem_filter.mp hm).2;rw[n]at q;simp at q
theorem HW{h:Heap}{H:Hp}{b:Addr}{o:Obj}(e:(Fh h H).get? b=some o):h.get? b=some o/\H b=none:=by
 have e':h.get? b=some o:=PySem.W.of_hideAll (PJ h H) e;refine⟨e',?_⟩
 cases q:H b with
 |none=>rfl
 | some x =>
  have hm:b∈PJ h H:=List.mem_filter.mpr ⟨List.mem_range.mpr (Ut e'),by simp[q]⟩;have z:(Fh h H).get? b=none:=PySem.W.hideAll_none (PJ h H) hm;rw[z]at e;cases e
noncomputable def HX(g h:Heap)(L:Addr):List (Addr×Obj):=(List.range h.objs.size).filterMap λa=>if a=L∨(g.get? a).isSome=true then none else(h.get? a).map λo=>(a,o)
noncomputable def dF(g h:Heap)(L d:Addr):List (Addr×Obj):=(HX g h L).filter λp=>decide (p.1≠d)
def KS(mg:Str->Option Value)(h:Heap):Prop:=∃ bm ob,mg "__builtins__"=some (.ref bm)/\bm≠builtinsNs/\h.get? bm=some ob/\ob.cls=.type "module"/\ob.dict=some builtinsNs/\ob.data=.plain
noncomputable def lamNames:List Str:=["look_at_asks","by_lesser_place","look_at_string"]
noncomputable def KU(x:Str):Str:=(x++".<locals>.")++"<lambda>"
def PN(K:PySem.W.Frag)(H:Hp):Prop:=∀x∈lamNames,∀c P,PySem.W.tabIn K x=some (c,P)->H P=some (.tbl (KU x))
theorem PN.un{K:PySem.W.Frag}{fs ex:List Addr}{H H':Hp}{h h':Heap}(t:PN K H)(u:Un fs ex H H' h h'):PN K H':=λx hx c P e=>u.tbls _ _ (t x hx c P e)
structure Mod (K:PySem.W.Frag) (mg:Str->Option Value) (base:Heap):Prop where
 kin:K.In base
 glob:base.Ns mainGlobals mg
 blt:∃ mb,base.Ns builtinsNs mb/\∀ x:Str,x≠"__name__"->mb x=bootBuiltins x
 nolimit:base.NoLimit
 sysm:∃mm,base.Ns sysModules mm
 bmn:KS mg base
 cds:∀x∈lamNames,∀c P,PySem.W.tabIn K x=some (c,P)->PySem.W.CodeHd base c P
/-- the context: a def's body (or a comprehension's HY) running. base: fixed through the whole law;s₀,H₀: the entry;outer: the frames whose slots others may change (a def's callers);stack: all frames that run;
  ex: iterators that were made ahead of the entry and are walked here (a comprehension's);fn: the names whose cells were made at the entry (a def: all;a comprehension's HY: its own);calm: not kj an except suite;pn: ab that every state bears;xe: what is wanted of an exception that leaves the code -/
structure Cx where
 prog:Program
 w:World
 K:PySem.W.Frag
 mg:Str->Option Value
 base:Heap
 A:Around
 N:List Str
 s₀:Shared
 H₀:Hp
 env:Env
 outer:List Env
 stack:List Env
 ex:List Addr
 fn:Str->Bool
 calm:Bool
 pn:List (Addr×Obj)
 xe:Value->Shared->Prop
noncomputable def PP(l:List Env):List Addr:=l.filterMap (·.frame)
noncomputable abbrev Cx.fs(X:Cx):List Addr:=PP X.outer
def PQ(sc:Scope)(x:Str):Prop:=sc.names.lookup x=some .local∨sc.names.lookup x=some .cell∨sc.names.lookup x=some .free
def PR(sc:Scope)(x:Str):Prop:=sc.names.lookup x=some .local∨sc.names.lookup x=some .cell
def OU(env:Env)(h:Heap)(m:Str->Option Value)(x:Str)(u:Value):Prop :=
 (env.kindOf x=some .local/\m x=some u)∨((env.kindOf x=some .cell∨env.kindOf x=some .free)/\∃c,env.cells.lookup x=some c/\h.IsCell c (some u))
structure Cx.Ok (X:Cx):Prop where
 mod:Mod X.K X.mg X.base
 kind:X.env.scope.kind=.function
 glob:X.env.globals=mainGlobals
 blt:X.env.builtins=builtinsNs
 above:X.s₀.heap.objs.size<=X.env.locals
 inj:∀x y c,X.env.cells.lookup x=some c->X.env.cells.lookup y=some c->x=y
 has:∀x,(X.env.kindOf x=some .cell∨X.env.kindOf x=some .free)->∃c,X.env.cells.lookup x=some c
 cab:∀x c,X.fn x=true->X.env.cells.lookup x=some c->X.s₀.heap.objs.size<=c
 hd:X.calm=true->X.A.handled=none
 frames:X.A.frames=some X.stack
 stk:X.stack=X.outer∨(X.stack=X.env::X.outer/\X.env.frame=some X.env.locals)
 exf:∀b∈X.ex,b≠X.env.locals/\∀x c,X.env.cells.lookup x=some c->c≠b
 bs:∀b o,X.base.get? b=some o->X.s₀.heap.get? b=some o/\X.H₀ b=none
 bsz:X.base.objs.size<=X.s₀.heap.objs.size
 noex:∀b o,X.base.get? b=some o->b∉X.ex
 exfs:∀b∈X.ex,b∉X.fs
 funs:X.s₀.heap.FunFrames X.base X.outer
 frf:∀b∈X.fs,X.H₀ b=none
 tbs:PN X.K X.H₀
structure PU (X:Cx) (ab:List (Addr×Obj)) (σ:List (Option V)) (H:Hp) (s:Shared):Prop where
 ok:X.Ok
 os:s.os=X.s₀.os
 bare:AllBare s.gens
 base:Un X.fs X.ex X.H₀ H X.s₀.heap s.heap
 loc:∃m,s.heap.Ns X.env.locals m/\∀(i:Nat)(x:Str)(v:V),X.N[i]?=some x->σ[i]?=some (some v)->PQ X.env.scope x->∃u,cJ v u/\OU X.env s.heap m x u
 cell:∀x c,X.env.cells.lookup x=some c->∃v,s.heap.IsCell c v
 free:H X.env.locals=none
 freeC:∀x c,X.env.cells.lookup x=some c->H c=none∨(X.fn x=false/\∃o,H c=some (.frz o (.own c)))
 pin:∀p∈X.pn++ab,s.heap.get? p.1=some p.2/\H p.1=none/\p.1≠X.env.locals/\p.1∉X.fs/\∀v,p.2.data≠.cell v
 hok:PF X.prog X.w H s.heap
 len:σ.length=X.N.length
section
variable{X:Cx}{ab:List (Addr×Obj)}{σ:List (Option V)}{H H':Hp}{s:Shared}{h':Heap}
theorem Cx.Ok.nofr(ok:X.Ok){b:Addr}{o:Obj}(e:X.base.get? b=some o):b∉X.fs:=λhb=>by have:=(ok.funs.mem hb).1;rw[e]at this;cases this
theorem PU.bs(I:PU X ab σ H s):∀b o,X.base.get? b=some o->s.heap.get? b=some o/\H b=none:=λb o e =>
 ⟨I.base.keep b o (I.ok.bs b o e).1 (I.ok.bs b o e).2 (I.ok.nofr e) (I.ok.noex b o e),I.base.free b o (I.ok.bs b o e).1 (I.ok.bs b o e).2 (I.ok.noex b o e)⟩
theorem PU.bk(I:PU X ab σ H s):∀b o,X.base.get? b=some o->s.heap.get? b=some o:=λb o e=>(I.bs b o e).1
theorem PU.tbs(I:PU X ab σ H s):PN X.K H:=I.ok.tbs.un I.base
theorem PU.mod(I:PU X ab σ H s):Mod X.K X.mg X.base:=I.ok.mod
theorem PU.kIn(I:PU X ab σ H s):X.K.In s.heap:=I.ok.mod.kin.keeps I.bk
theorem PU.lt(I:PU X ab σ H s):X.env.locals<s.heap.objs.size:=let ⟨_,hn,_⟩:=I.loc;hn.lt
theorem PU.sz(I:PU X ab σ H s):X.s₀.heap.objs.size<=s.heap.objs.size:=Ur I.ok.above (Nat.le_of_lt I.lt)
theorem PU.nofs(I:PU X ab σ H s){a:Addr}(h:s.heap.objs.size<=a):a∉X.fs:=λhb=>by obtain⟨_,o,ho,_⟩:=I.ok.funs.mem hb;exact absurd (so (Ut ho) (Ur I.sz h)) (Nat.lt_irrefl _)
theorem PU.cne(I:PU X ab σ H s):∀x c,X.env.cells.lookup x=some c->c≠X.env.locals:=λx c e z=>by obtain⟨v,o,ho,hd⟩:=I.cell x c e;obtain⟨m,⟨o',es,ep,ho',hd',_⟩,_⟩:=I.loc;rw[z,ho']at ho;cases ho;rw[hd']at hd;cases hd
theorem PU.funs(I:PU X ab σ H s):s.heap.FunFrames X.base X.outer:=by
 have all:∀(l:List Env),(∀b∈PP l,b∈X.fs)->X.s₀.heap.FunFrames X.base l->s.heap.FunFrames X.base l:=by
  intro l
  induction l with
  |nil=>intro _ _;trivial
  | cons env r ih =>
   intro hs hl;obtain⟨hk,⟨L,o,hf,hn,ho,hd⟩,hr⟩:=hl;have hL:L∈X.fs:=hs L (by unfold PP;rw[List.filterMap_cons,hf];exact tv);obtain⟨sl,e⟩:=I.base.slot L o ho (I.ok.frf L hL) hL λz=>I.ok.exfs L z hL;exact⟨hk,⟨L,_,hf,hn,e,hd⟩,ih (λb hb=>hs b (by unfold PP;rw[List.filterMap_cons,hf];exact k5 _ hb)) hr⟩
 exact all X.outer (λ_ hb=>hb) I.ok.funs
theorem PU.stack(I:PU X ab σ H s):s.heap.FunFrames X.base X.stack:=by
 rcases I.ok.stk with e|⟨e,hf⟩
 . rw[e];exact I.funs
 . rw[e];obtain⟨m,hn,_⟩:=I.loc;refine .cons (by rw[I.ok.kind];decide) hf hn ?_ I.funs;exact Heap.get?_none_of_le (Ur I.ok.bsz I.ok.above)
theorem PU.stkSub(I:PU X ab σ H s):∀b∈PP X.stack,b∈X.env.locals::X.fs:=λb hb=>by
 rcases I.ok.stk with e|⟨e,hf⟩
 . rw[e]at hb;exact k5 _ hb
 . rw[e]at hb;unfold PP at hb;rw[List.filterMap_cons,hf]at hb;exact hb
theorem PU.stkFree(I:PU X ab σ H s):∀b∈PP X.stack,H b=none:=λb hb=>by
 rcases Uq.mp (I.stkSub b hb)with e|hb
 . rw[e];exact I.free
 . obtain⟨_,o,ho,_⟩:=I.ok.funs.mem hb;exact I.base.free b o ho (I.ok.frf b hb) λz=>I.ok.exfs b z hb
theorem PU.step{g':Array GenState}{t':Nat}{d':Drawn}{ch:List Addr}(I:PU X ab σ H s)
  (hch:∀b∈ch,(b∈X.ex∨X.s₀.heap.objs.size<=b)/\b≠X.env.locals/\(∀x c,X.env.cells.lookup x=some c->c≠b)/\∀p∈X.pn++ab,p.1≠b)
  (keep:∀b o,b≠X.env.locals->b∉X.fs->b∉ch->s.heap.get? b=some o->H b=none->h'.get? b=some o)
  (slot:∀b o,b≠X.env.locals->b∈X.fs->b∉ch->s.heap.get? b=some o->H b=none->∃sl,h'.get? b=some {o with slots:=sl}) (free:∀b o,b∉ch->s.heap.get? b=some o->H b=none->H' b=none)
  (there:∀b o,b∉ch->s.heap.get? b=some o->∃o',h'.get? b=some o')
  (tups:∀b xs,H b=some (.tup xs)->H' b=some (.tup xs)) (frzs:∀b o u,H b=some (.frz o u)->H' b=some (.frz o u)) (tbls:∀b q,H b=some (.tbl q)->H' b=some (.tbl q))
  (ns:∀m,s.heap.Ns X.env.locals m->h'.Ns X.env.locals m) (hok:PF X.prog X.w H' h') (hg:AllBare g') :
  PU X ab σ H' {s with heap:=h',gens:=g',drawn:=d',toks:=t' }:=by
 have neL:∀b o,X.s₀.heap.get? b=some o->b≠X.env.locals:=λb o e=>Nat.ne_of_lt (so (Ut e) I.ok.above)
 have neC:∀b o,X.s₀.heap.get? b=some o->b∉X.ex->b∉ch:=λb o e hx hb=>by
  rcases(hch b hb).1 with z|z
  . exact hx z
  . exact absurd (so (Ut e) z) (Nat.lt_irrefl _)
 have cellK:∀x c,X.env.cells.lookup x=some c->∀v,s.heap.IsCell c v->h'.IsCell c v:=λx c e v ⟨o,ho,hd⟩=>by
  have nch:c∉ch:=λz=>(hch c z).2.2.1 x c e rfl;rcases I.freeC x c e with hn|⟨_,o2,hz⟩
  .
   by_cases hc:c∈X.fs
   . obtain⟨sl,q⟩:=slot c o (I.cne x c e) hc nch ho hn;exact⟨_,q,hd⟩
   . exact⟨o,keep c o (I.cne x c e) hc nch ho hn,hd⟩
  . have e1:=(I.hok c _ hz).1;rw[ho]at e1;cases e1;exact⟨o,(hok c _ (frzs c _ _ hz)).1,hd⟩
 refine⟨I.ok,I.os,hg,⟨λb o e n hb hx=>?_,λb o e n hb hx=>?_,λb o e n hx=>?_,λb o e hx=>?_,λb xs e=>tups b xs (I.base.tups b xs e),λb o xs e=>frzs b o xs (I.base.frzs b o xs e),λb ps e=>?_⟩,?_,λx c e=>?_,?_,λx c e=>?_,λp hp=>?_,hok,I.len⟩
 . exact keep b o (neL b o e) hb (neC b o e hx) (I.base.keep b o e n hb hx) (I.base.free b o e n hx)
 . obtain⟨sl,e1⟩:=I.base.slot b o e n hb hx;obtain⟨sl',e2⟩:=slot b _ (neL b o e) hb (neC b o e hx) e1 (I.base.free b o e n hx);exact⟨sl',e2⟩
 . obtain⟨o',e1⟩:=I.base.there b o e hx;exact free b o' (neC b o e hx) e1 (I.base.free b o e n hx)
 . obtain⟨o',e1⟩:=I.base.there b o e hx;exact there b o' (neC b o e hx) e1
 . exact tbls b ps (I.base.tbls b ps e)
 .
  obtain⟨m,hn,hl⟩:=I.loc;refine⟨m,ns m hn,λi x v e1 e2 e3=>?_⟩;obtain⟨u,r,l⟩:=hl i x v e1 e2 e3;refine⟨u,r,?_⟩;rcases l with l|⟨k,c,e,z⟩
  . exact .inl l
  . exact .inr ⟨k,c,e,cellK x c e _ z⟩
 . obtain⟨v,z⟩:=I.cell x c e;exact⟨v,cellK x c e v z⟩
 . obtain⟨m,⟨o,_,_,ho,_⟩,_⟩:=I.loc;exact free _ o (λz=>(hch _ z).2.1 rfl) ho I.free
 .
  obtain⟨v,o,ho,hd⟩:=I.cell x c e;rcases I.freeC x c e with hn|⟨hf,o2,hz⟩
  . exact .inl (free c o (λz=>(hch c z).2.2.1 x c e rfl) ho hn)
  . exact .inr ⟨hf,o2,frzs c _ _ hz⟩
 . obtain⟨e,n,ne,nf,d⟩:=I.pin p hp;have nch:p.1∉ch:=λz=>(hch p.1 z).2.2.2 p hp rfl;exact⟨keep p.1 p.2 ne nf nch e n,free p.1 p.2 nch e n,ne,nf,d⟩
theorem PU.un{t':Nat}(I:PU X ab σ H s)(u:Un X.fs [] H H' s.heap h')(hok:PF X.prog X.w H' h'):PU X ab σ H' {s with heap:=h',toks:=t' }:=by
 obtain⟨m,⟨o,es,ep,ho,r⟩,_⟩:=id I.loc;obtain⟨sl,hL⟩:=u.any ho I.free x_
 exact I.step (g':=s.gens) (d':=s.drawn) (ch:=[]) (λ_ z=>nomatch z) (λb o _ hb _ e n=>u.keep b o e n hb x_) (λb o _ hb _ e n=>u.slot b o e n hb x_) (λb o _ e n=>u.free b o e n x_) (λb o _ e=>u.there b o e x_) u.tups u.frzs u.tbls (λm' hm=>by
  obtain⟨o',es',ep',ho',r'⟩:=hm;rw[ho]at ho';cases ho'
  exact⟨_,es',ep',hL,r'⟩) hok I.bare
theorem PU.call{g':Array GenState}{t':Nat}{d':Drawn}{ch:List Addr}(I:PU X ab σ H s)(u:Un (PP X.stack) ch H H' s.heap h')(hok:PF X.prog X.w H' h')(hg:AllBare g')
  (hch:∀b∈ch,(b∈X.ex∨X.s₀.heap.objs.size<=b)/\b≠X.env.locals/\(∀x c,X.env.cells.lookup x=some c->c≠b)/\∀p∈X.pn++ab,p.1≠b) :
  PU X ab σ H' {s with heap:=h',gens:=g',drawn:=d',toks:=t' }:=by
 obtain⟨m,⟨o,es,ep,ho,r⟩,_⟩:=id I.loc;obtain⟨sl,hL⟩:=u.any ho I.free λz=>(hch _ z).2.1 rfl
 exact I.step (ch:=ch) hch (λb o hL hb hc e n=>u.keep b o e n (λz=>(Uq.mp (I.stkSub b z)).elim hL hb) hc) (λb o _ _ hc e n=>u.any e n hc) (λb o hc e n=>u.free b o e n hc) (λb o hc e=>u.there b o e hc) u.tups u.frzs u.tbls (λm' hm=>by
  obtain⟨o',es',ep',ho',r'⟩:=hm;rw[ho]at ho';cases ho'
  exact⟨_,es',ep',hL,r'⟩) hok hg
theorem PU.turned{t':Nat}{it:Addr}(I:PU X ab σ H s)(k:∀b o,b≠it->s.heap.get? b=some o->h'.get? b=some o)(hn:H it=none)(hL:it≠X.env.locals)
  (h1:it∈X.ex∨X.s₀.heap.objs.size<=it) (h2:∀x c,X.env.cells.lookup x=some c->c≠it) (h3:∀p∈X.pn++ab,p.1≠it):PU X ab σ H {s with heap:=h',toks:=t' }:=by
 have nit:∀b u,H b=some u->b≠it:=λb u e z=>by rw[z,hn]at e;cases e
 refine I.step (g':=s.gens) (d':=s.drawn) (ch:=[it]) (λb hb=>?_) (λb o _ _ hc e _=>k b o (λz=>hc (by simp[z])) e) (λb o _ _ hc e _=>⟨o.slots,k b o (λz=>hc (by simp[z])) e⟩) (λ_ _ _ _ n=>n)
  (λb o hc e=>⟨o,k b o (λz=>hc (by simp[z])) e⟩) (λ_ _ e=>e) (λ_ _ _ e=>e) (λ_ _ e=>e) (λm hm=>?_) (λb u e=>?_) I.bare
 .
  have e:b=it:=by simpa using hb
  subst e;exact⟨h1,hL,h2,h3⟩
 . obtain⟨o,es,ep,ho,r⟩:=hm;exact⟨o,es,ep,k _ o (Ne.symm hL) ho,r⟩
 .
  refine(I.hok b u e).stay (λc v hc q=>k c v ?_ q) (λ_ q=>q) (λ_ _ q=>q) λ_ _ _ _ q=>q;rcases hc with z|z
  . rw[z];exact nit b u e
  . exact nit c _ z
theorem PU.tok(I:PU X ab σ H s)(t:Nat):PU X ab σ H {s with toks:=t}:=I.un (h':=s.heap) (t':=t) Un.refl I.hok
theorem PU.kept{t':Nat}(I:PU X ab σ H s)(k:∀b u,s.heap.get? b=some u->h'.get? b=some u):PU X ab σ H {s with heap:=h',toks:=t' }:=I.un (Un.kept k) (I.hok.kept k)
theorem PU.laid{a:Addr}{o:HO}{t':Nat}(I:PU X ab σ H s)(k:∀b u,s.heap.get? b=some u->h'.get? b=some u)(hp:s.heap.objs.size<=a)(new:g9 X.prog X.w (PD H a o) h' a o) :
  PU X ab σ (PD H a o) {s with heap:=h',toks:=t' }:=I.un (Un.laid k hp (I.hok.fresh hp)) (I.hok.laid k hp new)
theorem PU.write{x e:Addr}{o:HO}{t':Nat}(I:PU X ab σ H s)(mu:PH (H x))(he:e=x∨H e=some (.own x))(k:∀b u,b≠e->s.heap.get? b=some u->h'.get? b=some u)(heo:∃u,h'.get? e=some u)
  (new:g9 X.prog X.w (PD H x o) h' x o):PU X ab σ (PD H x o) {s with heap:=h',toks:=t' }:=I.un (Un.write mu he k heo) (I.hok.write mu he k heo new)
theorem PU.pins_of{pins':List (Addr×Obj)}(I:PU X ab σ H s)(h:∀p∈pins',s.heap.get? p.1=some p.2/\H p.1=none/\p.1≠X.env.locals/\p.1∉X.fs/\∀v,p.2.data≠.cell v):PU X pins' σ H s :=
 ⟨I.ok,I.os,I.bare,I.base,I.loc,I.cell,I.free,I.freeC,λp hp=>(List.mem_append.mp hp).elim (λz=>I.pin p (List.mem_append_left _ z)) (h p),I.hok,I.len⟩
theorem Ac{N:List Str}(hN:N.Nodup){i j:Nat}{x:Str}(a:N[i]?=some x)(b:N[j]?=some x):i=j:=by obtain⟨h1,e1⟩:=k4.mp a;obtain⟨h2,e2⟩:=k4.mp b;exact(List.getElem_inj hN).mp (e1.trans e2.symm)
theorem wu{M:Model}{A:Around}{E:Value->Shared->Prop}{i:Nat}{x:Str}{v:V}{u:Value}{Q:Unit->Shared->Prop}(I:PU X ab σ H s)(hN:X.N.Nodup)(hi:X.N[i]?=some x)(hx:PR X.env.scope x)(r:cJ v u)
  (h:∀s',PU X ab (σ.set i (some v)) H s'->(∃a,Heap.SameBut a s.heap s'.heap/\(a=X.env.locals∨X.env.cells.lookup x=some a))->Q () s') (hf:X.fn x=true∨X.env.scope.names.lookup x=some .local:=by first|exact .inl rfl|exact .inr rfl|assumption):wpAny M A (storeName X.env x u) Q E s:=by
 obtain⟨m,hn,hl⟩:=id I.loc;have hcls:(X.env.scope.kind == .class ||(X.env.scope.kind == .module && X.env.locals != X.env.globals))=false:=by rw[I.ok.kind];rfl
 have hiσ:i<σ.length:=by rw[I.len];exact(k4.mp hi).1
 have cne:=I.cne
 have tracked:∀{a:Addr}{h':Heap},(∃o,s.heap.get? a=some o/\H a=none)->Heap.SameBut a s.heap h'->PF X.prog X.w H h':=λ{a h'} ha hs b ob e=>by
  obtain⟨_,_,hfree⟩:=ha;refine(I.hok b ob e).stay (λc w' hc q=>(hs.2 c ?_).trans q) (λ_ q=>q) (λ_ _ q=>q) λ_ _ _ _ q=>q;rintro rfl;rcases hc with rfl|hc
  . rw[hfree]at e;cases e
  . rw[hfree]at hc;cases hc
 rcases hx with hk|hk
 .
  refine wpAny_storeName_local hk hn (λh' hn' hs=>?_) hcls;obtain⟨oL,_,_,hoL,_⟩:=id hn;refine h _ ⟨I.ok,I.os,I.bare,⟨λb o e n hb hx=>?_,λb o e n hb hx=>?_,I.base.free,λb o e hx=>?_,I.base.tups,I.base.frzs,I.base.tbls⟩,⟨_,hn',λj y v' e1 e2 e3=>?_⟩,λy c e=>?_,I.free,I.freeC,λp hp=>?_,tracked ⟨oL,hoL,I.free⟩ hs,by simpa using I.len⟩ ⟨_,hs,.inl rfl⟩
  . exact(hs.2 b (Nat.ne_of_lt (so (Ut e) I.ok.above))).trans (I.base.keep b o e n hb hx)
  . obtain⟨sl,e1⟩:=I.base.slot b o e n hb hx;exact⟨sl,(hs.2 b (Nat.ne_of_lt (so (Ut e) I.ok.above))).trans e1⟩
  . obtain⟨o',e1⟩:=I.base.there b o e hx;exact⟨o',(hs.2 b (Nat.ne_of_lt (so (Ut e) I.ok.above))).trans e1⟩
  .
   by_cases hj:j=i
   . subst hj;rw[hi]at e1;cases e1;rw[List.getElem?_set_self hiσ]at e2;cases e2;exact⟨u,r,.inl ⟨hk,x_⟩⟩
   .
    rw[List.getElem?_set_ne (Ne.symm hj)]at e2;obtain⟨u',r',q⟩:=hl j y v' e1 e2 e3;refine⟨u',r',?_⟩;rcases q with⟨k,e⟩|⟨k,c,e,z⟩
    . refine .inl ⟨k,?_⟩;have:y≠x:=λe=>hj (Ac hN e1 (e ▸ hi));simp[this,e]
    . exact .inr ⟨k,c,e,z.sameBut hs (cne y c e)⟩
  . obtain⟨w',z⟩:=I.cell y c e;exact⟨w',z.sameBut hs (cne y c e)⟩
  . obtain⟨e,n,ne,nf,d⟩:=I.pin p hp;exact⟨(hs.2 p.1 ne).trans e,n,ne,nf,d⟩
 .
  have hfn:X.fn x=true:=by
   rcases hf with z|z
   . exact z
   . rw[z]at hk;cases hk
  obtain⟨c,hc⟩:=I.ok.has x (.inl hk);obtain⟨w',z⟩:=I.cell x c hc;refine wpAny_storeName_cell I.ok.kind hk hc z (λh' hc' hs=>?_);obtain⟨oc,hoc,hocd⟩:=id z;refine h {s with heap:=h' } ⟨I.ok,I.os,I.bare,⟨λb o e n hb hx=>?_,λb o e n hb hx=>?_,I.base.free,λb o e hx=>?_,I.base.tups,I.base.frzs,I.base.tbls⟩,⟨m,hn.sameBut hs (Ne.symm (cne x c hc)),λj y v' e1 e2 e3=>?_⟩,λy c' e=>?_,I.free,I.freeC,λp hp=>?_,tracked ⟨oc,hoc,(I.freeC x c hc).resolve_right λz=>by rw[hfn]at z;exact absurd z.1 xp⟩ hs,by simpa using I.len⟩ ⟨c,hs,.inr hc⟩
  . exact(hs.2 b (Nat.ne_of_lt (so (Ut e) (I.ok.cab x c hfn hc)))).trans (I.base.keep b o e n hb hx)
  . obtain⟨sl,e1⟩:=I.base.slot b o e n hb hx;exact⟨sl,(hs.2 b (Nat.ne_of_lt (so (Ut e) (I.ok.cab x c hfn hc)))).trans e1⟩
  . obtain⟨o',e1⟩:=I.base.there b o e hx;exact⟨o',(hs.2 b (Nat.ne_of_lt (so (Ut e) (I.ok.cab x c hfn hc)))).trans e1⟩
  .
   by_cases hj:j=i
   . subst hj;rw[hi]at e1;cases e1;rw[List.getElem?_set_self hiσ]at e2;cases e2;exact⟨u,r,.inr ⟨.inl hk,c,hc,hc'⟩⟩
   .
    rw[List.getElem?_set_ne (Ne.symm hj)]at e2;obtain⟨u',r',q⟩:=hl j y v' e1 e2 e3;refine⟨u',r',?_⟩;rcases q with q|⟨k,c',e,z'⟩
    . exact .inl q
    . refine .inr ⟨k,c',e,z'.sameBut hs ?_⟩;rintro rfl;exact hj (Ac hN e1 (I.ok.inj _ _ _ e hc ▸ hi))
  .
   by_cases hcc:c'=c
   . subst hcc;exact⟨_,hc'⟩
   . obtain⟨w2,z2⟩:=I.cell y c' e;exact⟨w2,z2.sameBut hs hcc⟩
  . obtain⟨e,n,ne,nf,d⟩:=I.pin p hp;refine⟨(hs.2 p.1 ?_).trans e,n,ne,nf,d⟩;intro q;rw[q,hoc]at e;have q':oc=p.2:=Option.some.inj e;exact d w' (by rw[<- q'];exact hocd)
theorem mh{M:Model}{A:Around}{E:Value->Shared->Prop}{i:Nat}{x:Str}{v:V}{u:Value}{Q:Unit->Shared->Prop}(I:PU X ab σ H s)(hN:X.N.Nodup)(hi:X.N[i]?=some x)(hx:PR X.env.scope x)(r:cJ v u)
  (h:∀s',PU X ab (σ.set i (some v)) H s'->Q () s') (hf:X.fn x=true∨X.env.scope.names.lookup x=some .local:=by first|exact .inl rfl|exact .inr rfl|assumption):wpAny M A (storeName X.env x u) Q E s :=
 wu I hN hi hx r (λs' I' _=>h s' I') hf
theorem PU.call'{s':Shared}{ch:List Addr}(I:PU X ab σ H s)(ho:s'.os=s.os)(u:Un (PP X.stack) ch H H' s.heap s'.heap)(hok:PF X.prog X.w H' s'.heap)(hg:AllBare s'.gens)
  (hch:∀b∈ch,(b∈X.ex∨X.s₀.heap.objs.size<=b)/\b≠X.env.locals/\(∀x c,X.env.cells.lookup x=some c->c≠b)/\∀p∈X.pn++ab,p.1≠b):PU X ab σ H' s':=by
 obtain⟨h',g',d',t',o'⟩:=s';have e:o'=s.os:=ho;subst e;exact I.call (g':=g') (t':=t') (d':=d') u hok hg hch
end
noncomputable abbrev XK:=Value->Option Addr->Hp->Prop
noncomputable abbrev St:=List (Option V)
noncomputable abbrev VK:=V->Hp->Prop
abbrev TE:=St->Hp->VK->Prop
noncomputable abbrev TT:=St->Hp->(Bool->Hp->Prop)->Prop
noncomputable abbrev TA:=St->Hp->(List V->Hp->Prop)->Prop
structure Kz where
 nx:St->Hp->Prop
 rt:VK
 bk:St->Hp->Prop:=λ_ _=>False
 ct:St->Hp->Prop:=λ_ _=>False
abbrev TS:=Kz->St->Hp->Prop
def EP(X:Cx)(ab:List (Addr×Obj))(σ:St)(Q:VK)(u:Value)(s':Shared):Prop:=∃v H',PU X ab σ H' s'/\cJ v u/\Q v H'
def TP(X:Cx)(ab:List (Addr×Obj))(σ:St)(Q:Bool->Hp->Prop)(b:Bool)(s':Shared):Prop:=∃H',PU X ab σ H' s'/\Q b H'
def AP(X:Cx)(ab:List (Addr×Obj))(σ:St)(Q:List V->Hp->Prop)(us:List Value)(s':Shared):Prop:=∃vs H',PU X ab σ H' s'/\ck vs us/\Q vs H'
def SP(X:Cx)(ab:List (Addr×Obj))(D:Kz)(f:Flow)(s':Shared):Prop :=
 match f with
 |.next=>∃σ' H',PU X ab σ' H' s'/\D.nx σ' H'
 |.brk=>∃σ' H',PU X ab σ' H' s'/\D.bk σ' H'
 |.cont=>∃σ' H',PU X ab σ' H' s'/\D.ct σ' H'
 |.ret u=>∃v σ' H',PU X ab σ' H' s'/\cJ v u/\D.rt v H'
def PE(X:Cx)(e:Expr)(t:TE):Prop :=
 ∀(ab:List (Addr×Obj))(s:Shared)(σ:St)(H:Hp)(Q:VK),PU X ab σ H s->t σ H Q->wpAny (model X.prog X.w) X.A (eval e X.env) (EP X ab σ Q) X.xe s
def PT(X:Cx)(e:Expr)(t:TT):Prop :=
 ∀(ab:List (Addr×Obj))(s:Shared)(σ:St)(H:Hp)(Q:Bool->Hp->Prop),PU X ab σ H s->t σ H Q->wpAny (model X.prog X.w) X.A (isTrue e X.env (eval e X.env)) (TP X ab σ Q) X.xe s
def PA(X:Cx)(es:List Expr)(t:TA):Prop :=
 ∀(pos:Pos)(ab:List (Addr×Obj))(s:Shared)(σ:St)(H:Hp)(Q:List V->Hp->Prop),PU X ab σ H s->t σ H Q->wpAny (model X.prog X.w) X.A (spliced (backTo pos (starEach es X.env))) (AP X ab σ Q) X.xe s
def PS(X:Cx)(st:Stmt)(t:TS):Prop :=
 ∀(ab:List (Addr×Obj))(s:Shared)(σ:St)(H:Hp)(D:Kz),PU X ab σ H s->t D σ H->wpAny (model X.prog X.w) X.A (exec st X.env) (SP X ab D) X.xe s
def PV(X:Cx)(st:List Stmt)(t:TS):Prop :=
 ∀(ab:List (Addr×Obj))(s:Shared)(σ:St)(H:Hp)(D:Kz),PU X ab σ H s->t D σ H->wpAny (model X.prog X.w) X.A (execs st X.env) (SP X ab D) X.xe s
theorem PX{α:Type}{t:Sem α}{Q Q':α->Shared->Prop}{M:Model}{A:Around}{E:Value->Shared->Prop}{s:Shared}(h:wpAny M A t Q E s)(hQ:∀a s,Q a s->Q' a s):wpAny M A t Q' E s:=wpAny_mono h hQ λ_ _ x=>x
section
variable{X:Cx}
theorem PY{a b:Expr}{ta tb:TE}(ha:PE X a ta)(hb:PE X b tb){ab:List (Addr×Obj)}{s:Shared}{σ:St}{H:Hp}{R:V->V->Hp->Prop}(I:PU X ab σ H s)(h:ta σ H λx H1=>tb σ H1 λy H2=>R x y H2)
  {α:Type} {Q:α->Shared->Prop} {f:Value->Value->Sem α}
  (hf:∀v u s2 x y H2,PU X ab σ H2 s2->cJ x v->cJ y u->R x y H2->wpAny (model X.prog X.w) X.A (f v u) Q X.xe s2) :
  wpAny (model X.prog X.w) X.A (eval a X.env) (λv s₁=>wpAny (model X.prog X.w) X.A (eval b X.env) (λu s₂=>wpAny (model X.prog X.w) X.A (f v u) Q X.xe s₂) X.xe s₁) X.xe s:=by
 refine PX (ha ab s σ H _ I h) λv s1 ⟨x,H1,I1,r1,q1⟩=>?_;refine PX (hb ab s1 σ H1 _ I1 q1) λu s2 ⟨y,H2,I2,r2,q2⟩=>?_;exact hf v u s2 x y H2 I2 r1 r2 q2
def OV(i:Nat):TE:=λσ H Q=>∃v,σ[i]?=some (some v)/\Q v H
def tC(v:V):TE:=λ_ H Q=>Q v H
theorem d4{i:Nat}{x:Str}{pos:Pos}(hN:X.N[i]?=some x)(hv:PQ X.env.scope x) (hd:(x == ("__debug__" : Str))=false:=by decide) (hcd:(x == ("__classdict__" : Str))=false:=by decide):PE X (.Name x pos) (OV i):=by
 intro ab s σ H Q I h;obtain⟨v,e,h⟩:=h;obtain⟨m,hn,hl⟩:=I.loc;obtain⟨u,r,l⟩:=hl i x v hN e hv;have PZ:EP X ab σ Q u s:=⟨v,H,I,r,h⟩;rcases l with⟨hk,hm⟩|⟨hk,c,hc,hcell⟩
 . exact wpAny_Name (wpAny_loadName_local I.ok.kind hk hn hm PZ) hd
 .
  rcases hk with hk|hk
  . exact wpAny_Name (wpAny_loadName_cell I.ok.kind hk hc hcell PZ) hd
  . exact wpAny_Name (wpAny_loadName_free I.ok.kind hk hc hcell PZ hcd) hd
theorem Hq {i j pos}:PE X (.Constant (.int i) j pos) (tC (.int i)):=λ_ _ _ H _ I h=>wpAny_Constant_int ⟨.int i,H,I.tok _,⟨_,rfl⟩,h⟩
theorem Nn {b j pos}:PE X (.Constant (.bool b) j pos) (tC (.bl b)):=λ_ _ _ H _ I h=>Constant_bool ⟨.bl b,H,I,rfl,h⟩
theorem KW {j pos}:PE X (.Constant .none j pos) (tC .non):=λ_ _ _ H _ I h=>Constant_none ⟨.non,H,I,rfl,h⟩
theorem Hr {x j pos}:PE X (.Constant (.str x) j pos) (tC (.str x)):=λ_ _ _ H _ I h=>Calls.Constant_str ⟨.str x,H,I.tok _,⟨_,rfl⟩,h⟩
def Gl(X:Cx)(x:Str):Prop:=X.env.kindOf x=some .globalImplicit
theorem yx{E:Value->Shared->Prop}{ab:List (Addr×Obj)}{s:Shared}{σ:St}{H:Hp}{x:Str}{u:Value}{pos:Pos}{Q:Value->Shared->Prop}(I:PU X ab σ H s)(hg:Gl X x)(hm:X.mg x=some u)(h:Q u s)
  (hd:(x == ("__debug__" : Str))=false:=by decide):wpAny (model X.prog X.w) X.A (eval (.Name x pos) X.env) Q E s :=
 Calls.Name_function_global I.ok.kind hg (Calls.loadGlobal_global (by rw[I.ok.glob];exact I.mod.glob.keeps I.bk) hm h) hd
theorem iQ{E:Value->Shared->Prop}{ab:List (Addr×Obj)}{s:Shared}{σ:St}{H:Hp}{x:Str}{u:Value}{pos:Pos}{Q:Value->Shared->Prop}(I:PU X ab σ H s)(hg:Gl X x)(hm:X.mg x=none)(hv:bootBuiltins x=some u)(h:Q u s)
  (hn:x≠"__name__":=by decide) (hd:(x == ("__debug__" : Str))=false:=by decide):wpAny (model X.prog X.w) X.A (eval (.Name x pos) X.env) Q E s:=by
 obtain⟨mb,h1,h2⟩:=I.mod.blt;exact Calls.Name_function_global I.ok.kind hg (Calls.loadGlobal_builtin (by rw[I.ok.glob];exact I.mod.glob.keeps I.bk) hm (by rw[I.ok.blt];exact h1.keeps I.bk) ((h2 x hn).trans hv) h) hd
theorem Ib{x:Str}{v:V}{u:Value}{pos:Pos}(hg:Gl X x)(hm:X.mg x=some u)(r:cJ v u) (hd:(x == ("__debug__" : Str))=false:=by decide):PE X (.Name x pos) (tC v) :=
 λ_ _ _ H _ I h=>yx I hg hm ⟨v,H,I,r,h⟩ hd
theorem Ic{x:Str}{v:V}{u:Value}{pos:Pos}(hg:Gl X x)(hm:X.mg x=none)(hv:bootBuiltins x=some u)(r:cJ v u) (hn:x≠"__name__":=by decide) (hd:(x == ("__debug__" : Str))=false:=by decide):PE X (.Name x pos) (tC v) :=
 λ_ _ _ H _ I h=>iQ I hg hm hv ⟨v,H,I,r,h⟩ hn hd
variable{a b:Expr}{ta tb:TE}{pos:Pos}
noncomputable def tB(t:TE):TT:=λσ H Q=>t σ H λx H1=>∃c,x=.bl c/\Q c H1
end
def P0(K:PySem.W.Frag)(H:Hp)(a:Addr)(xs:List V):Prop :=
 Rd H a (.lst xs) ∨
  ∃(o:Obj)(its:Array Value)(n:Nat),K.lookup a=some o/\o.cls=.type "list"/\o.dict=none/\o.data=.seq its n/\its.size<=sizeLine/\ck xs its.toList
def P1(K:PySem.W.Frag)(H:Hp)(a:Addr)(xs:List V):Prop :=
 Rd H a (.tup xs) ∨
  ∃(o:Obj)(its:Array Value)(n:Nat),K.lookup a=some o/\o.cls=.type "tuple"/\o.data=.seq its n/\its.size<=sizeLine/\ck xs its.toList
noncomputable def OW:Value->Option V
 |.none=>some .non
 |.bool b=>some (.bl b)
 |.int i _=>some (.int i)
 |.str x _=>some (.str x)
 |.bytes b _=>some (.byt b)
 |.float b _=>some (.flt b)
 |.ref a=>some (.ref a)
 |.type n=>some (.ty n)
 |_=>none
theorem cJ.abs{x:V}{u:Value}(r:cJ x u):OW u=some x:=by
 cases x with
 |non=>cases r;rfl
 |bl _=>cases r;rfl
 |int _=>obtain⟨t,rfl⟩:=r;rfl
 |str _=>obtain⟨t,rfl⟩:=r;rfl
 |byt _=>obtain⟨t,rfl⟩:=r;rfl
 |flt _=>obtain⟨t,rfl⟩:=r;rfl
 |ref _=>cases r;rfl
 |ty _=>cases r;rfl
theorem cJ.inj{x y:V}{u:Value}(r:cJ x u)(q:cJ y u):x=y:=Option.some.inj (r.abs.symm.trans q.abs)
theorem ck.inj:∀{xs ys:List V}{us:List Value},ck xs us->ck ys us->xs=ys
 |_,_,_,.nil,.nil=>rfl
 |_,_,_,.cons r t,.cons r' t'=>by rw[r.inj r',ck.inj t t']
section
variable{X:Cx}{ab:List (Addr×Obj)}{σ:St}{H:Hp}{s:Shared}{a:Addr}{xs ys:List V}
theorem P0.of{K:PySem.W.Frag}(h:H a=some (.lst xs)):P0 K H a xs:=.inl (.inl h)
theorem P1.of{K:PySem.W.Frag}(h:H a=some (.tup xs)):P1 K H a xs:=.inl (.inl h)
theorem PU.list(I:PU X ab σ H s)(h:P0 X.K H a xs):∃its:List Value,ck xs its/\PlainL s.heap a its.toArray/\xs.length<=sizeLine:=by
 rcases h with h|⟨o,its,n,hk,hc,hd,hs,hz,r⟩
 . obtain⟨z,its,n,r,e⟩:=h.ok I.hok;exact⟨its,r,⟨_,n,e,rfl,rfl,rfl⟩,z⟩
 . refine⟨its.toList,r,⟨o,n,I.kIn a o hk,hc,hd,by simpa using hs⟩,?_⟩;have e:=r.length;simp only[Array.length_toList]at e;omega
theorem PU.tuple(I:PU X ab σ H s)(h:P1 X.K H a xs):∃its:List Value,ck xs its/\IsTup s.heap a its.toArray/\xs.length<=sizeLine:=by
 rcases h with h|⟨o,its,n,hk,hc,hs,hz,r⟩
 . obtain⟨z,its,r,p⟩:=h.ok I.hok;exact⟨its,r,p,z⟩
 . refine⟨its.toList,r,⟨o,I.kIn a o hk,hc,n,by simpa using hs⟩,?_⟩;have e:=r.length;simp only[Array.length_toList]at e;omega
theorem PU.list_inj(I:PU X ab σ H s)(h:P0 X.K H a xs)(h':P0 X.K H a ys):xs=ys:=by
 obtain⟨its,r,⟨o,n,e,_,_,d⟩,_⟩:=I.list h;obtain⟨its',r',⟨o',n',e',_,_,d'⟩,_⟩:=I.list h';rw[e]at e';cases e';rw[d]at d';injection d' with d1 _;have:its=its':=by simpa using congrArg Array.toList d1
 subst this;exact r.inj r'
theorem PU.tuple_inj(I:PU X ab σ H s)(h:P1 X.K H a xs)(h':P1 X.K H a ys):xs=ys:=by
 obtain⟨its,r,⟨o,e,_,n,d⟩,_⟩:=I.tuple h;obtain⟨its',r',⟨o',e',_,n',d'⟩,_⟩:=I.tuple h';rw[e]at e';cases e';rw[d]at d';injection d' with d1 _;have:its=its':=by simpa using congrArg Array.toList d1
 subst this;exact r.inj r'
end
noncomputable abbrev Cx.wish(X:Cx)(E:Value->Shared->Prop):Cx:={X with xe:=E}
noncomputable abbrev Cx.nox(X:Cx):Cx:=X.wish λ_ _=>False
theorem Cx.Ok.wish{X:Cx}(ok:X.Ok)(E:Value->Shared->Prop):(X.wish E).Ok :=
 ⟨ok.mod,ok.kind,ok.glob,ok.blt,ok.above,ok.inj,ok.has,ok.cab,ok.hd,ok.frames,ok.stk,ok.exf,ok.bs,ok.bsz,ok.noex,ok.exfs,ok.funs,ok.frf,ok.tbs⟩
theorem Cx.Ok.unwish{X:Cx}{E:Value->Shared->Prop}(ok:(X.wish E).Ok):X.Ok :=
 ⟨ok.mod,ok.kind,ok.glob,ok.blt,ok.above,ok.inj,ok.has,ok.cab,ok.hd,ok.frames,ok.stk,ok.exf,ok.bs,ok.bsz,ok.noex,ok.exfs,ok.funs,ok.frf,ok.tbs⟩
section
variable{X:Cx}{ab:List (Addr×Obj)}{σ:St}{H:Hp}{s:Shared}{E:Value->Shared->Prop}
theorem PU.wish(I:PU X ab σ H s)(E:Value->Shared->Prop):PU (X.wish E) ab σ H s:=⟨I.ok.wish E,I.os,I.bare,I.base,I.loc,I.cell,I.free,I.freeC,I.pin,I.hok,I.len⟩
theorem PU.unwish(I:PU (X.wish E) ab σ H s):PU X ab σ H s:=⟨I.ok.unwish,I.os,I.bare,I.base,I.loc,I.cell,I.free,I.freeC,I.pin,I.hok,I.len⟩
theorem SP.unwish{D:Kz}{f:Flow}{s':Shared}(h:SP (X.wish E) ab D f s'):SP X ab D f s':=by
 cases f with
 |next=>obtain⟨σ',H',I,q⟩:=h;exact⟨σ',H',I.unwish,q⟩
 |brk=>obtain⟨σ',H',I,q⟩:=h;exact⟨σ',H',I.unwish,q⟩
 |cont=>obtain⟨σ',H',I,q⟩:=h;exact⟨σ',H',I.unwish,q⟩
 |ret u=>obtain⟨v,σ',H',I,r,q⟩:=h;exact⟨v,σ',H',I.unwish,r,q⟩
theorem PV.nox{st:List Stmt}{t:TS}(h:PV X.nox st t):PV X st t:=λab s σ H D I hw =>
 wpAny_mono (h ab s σ H D (I.wish _) hw) (λ_ _ q=>q.unwish) λ_ _ z=>False.elim z
end
section
variable{X:Cx}
theorem PU.quiet{ab:List (Addr×Obj)}{σ:St}{H:Hp}{s:Shared}(I:PU X ab σ H s):interactive X.env=false:=by simp[interactive,I.ok.kind]
end
noncomputable abbrev TG:=V->St->Hp->(St->Hp->Prop)->Prop
noncomputable abbrev P2:=List V->St->Hp->(St->Hp->Prop)->Prop
def PG(X:Cx)(target:Expr)(t:TG):Prop :=
 ∀(ab:List (Addr×Obj))(s:Shared)(σ:St)(H:Hp)(v:V)(u:Value)(Q:St->Hp->Prop),PU X ab σ H s->cJ v u->t v σ H Q ->
  wpAny (model X.prog X.w) X.A (assign target X.env u) (λ_ s'=>∃σ' H',PU X ab σ' H' s'/\Q σ' H') X.xe s
def P4(X:Cx)(ts:List Expr)(t:P2):Prop :=
 ∀(ab:List (Addr×Obj))(s:Shared)(σ:St)(H:Hp)(vs:List V)(us:List Value)(Q:St->Hp->Prop),PU X ab σ H s->ck vs us->t vs σ H Q ->
  wpAny (model X.prog X.w) X.A (assignInOrder ((assignEach ts X.env).map (·.2)) us) (λ_ s'=>∃σ' H',PU X ab σ' H' s'/\Q σ' H') X.xe s
noncomputable abbrev Np:=V->V->V->Hp->(Hp->Prop)->Prop
def Oq(X:Cx)(t:Np):Prop :=
 ∀(ab:List (Addr×Obj))(s:Shared)(σ:St)(H:Hp)(o i v:V)(ov iv u:Value)(Q:Hp->Prop),PU X ab σ H s->cJ o ov->cJ i iv->cJ v u->t o i v H Q ->
  wpAny (model X.prog X.w) X.A (setItem ov iv u) (λ_ s'=>∃H',PU X ab σ H' s'/\Q H') X.xe s
noncomputable abbrev P5:=V->V->Hp->VK->Prop
def P6(X:Cx)(op:Operator)(t:P5):Prop :=
 ∀(ab:List (Addr×Obj))(s:Shared)(σ:St)(H:Hp)(x y:V)(v u:Value)(Q:VK),PU X ab σ H s->cJ x v->cJ y u->t x y H Q ->
  wpAny (model X.prog X.w) X.A (inplaceOp op v u) (EP X ab σ Q) X.xe s
section
variable{X:Cx}{pos:Pos}
noncomputable def Nq(i:Nat):TG:=λv σ H Q=>Q (σ.set i (some v)) H
theorem uF{i:Nat}{x:Str}(hN:X.N.Nodup)(hi:X.N[i]?=some x)(hx:PR X.env.scope x)(hf:X.fn x=true∨X.env.scope.names.lookup x=some .local:=by first|exact .inl rfl|exact .inr rfl|assumption):PG X (.Name x pos) (Nq i):=by intro ab s σ H v u Q I r h;exact wpAny_assign_Name (mh I hN hi hx r (λs' I'=>⟨_,H,I',h⟩) hf)
noncomputable def OX:P2:=λvs σ H Q=>vs=[]/\Q σ H
noncomputable def Nr(t:TG)(u:P2):P2:=λvs σ H Q=>∃v r,vs=v::r/\t v σ H λσ' H'=>u r σ' H' Q
theorem B7:P4 X [] OX:=by intro ab s σ H vs us Q I r h;obtain⟨e,h⟩:=h;subst e;cases r;exact assignInOrder_nil ⟨σ,H,I,h⟩
theorem Ad{e:Expr}{es:List Expr}{t:TG}{u:P2}(h1:PG X e t)(h2:P4 X es u)
  (hs:(assignEach (e::es) X.env).map (·.2)=assign e X.env::(assignEach es X.env).map (·.2):=by rfl):P4 X (e::es) (Nr t u):=by
 intro ab s σ H vs us Q I r h;obtain⟨v,vr,e1,h⟩:=h;subst e1
 cases r with
 | cons r rr =>
  rw[hs];refine assignInOrder_cons (PX (h1 ab s σ H _ _ _ I r h) λ_ s1 ⟨σ1,H1,I1,q1⟩=>?_);exact h2 ab s1 σ1 H1 _ _ Q I1 rr q1
noncomputable def OY(K:PySem.W.Frag)(n:Nat)(t:P2):TG:=λv σ H Q=>∃a xs,v=.ref a/\P1 K H a xs/\xs.length=n/\t xs σ H Q
theorem Hs{es:List Expr}{k:Nat}{t:P2}{n:Nat}(hc:X.calm=true)(h:P4 X es t)
  (hn:(assignEach es X.env).length=n:=by rfl) (hst:(assignEach es X.env).findIdx? (·.1)=none:=by rfl):PG X (.Tuple es k pos) (OY X.K n t):=by
 intro ab s σ H v u Q I r hw;obtain⟨a,xs,e1,hq,hl,hw⟩:=hw;subst e1;cases r;obtain⟨its,rv,ht,hz⟩:=I.tuple hq;refine assign_Tuple_tuple (I.ok.hd hc) ht (by simp[hn,<- hl,rv.length]) hst λh' hx=>?_;have I1:PU X ab σ H {s with heap:=h' }:=I.kept (t':=s.toks) λb o e=>hx b o (Nat.ne_of_lt (Ut e)) e;exact h ab _ σ H xs _ Q I1 (by simpa using rv) hw
noncomputable def OZ(to ti:TE)(t:Np):TG:=λv σ H Q=>to σ H λo H1=>ti σ H1 λi H2=>t o i v H2 λH3=>Q σ H3
theorem KY{o i:Expr}{to ti:TE}{t:Np}(ho:PE X o to)(hi:PE X i ti)(hs:Oq X t)
  (ha:∀v,assign (.Subscript o i pos) X.env v=(do
   let ov <- holding [v] (eval o X.env)
   let iv <- holding [v,ov] (eval i X.env)
   standAt pos
   holding [v,ov,iv] (setItem ov iv v)
   release [v,ov,iv] []):=by intro _;rfl):PG X (.Subscript o i pos) (OZ to ti t):=by
 intro ab s σ H v u Q I r h;rw[ha];refine kS (wpAny_holding (PX (ho ab s σ H _ I h) λov s1 ⟨x,H1,I1,r1,q1⟩=>?_));refine kS (wpAny_holding (PX (hi ab s1 σ H1 _ I1 q1) λiv s2 ⟨y,H2,I2,r2,q2⟩=>?_));refine kS (wpAny_standAt (kS (wpAny_holding (PX (hs ab s2 σ H2 x y v ov iv u _ I2 r1 r2 r q2) λ_ s3 ⟨H3,I3,q3⟩=>?_))));exact wpAny_release ⟨σ,H3,I3,q3⟩
def O0(te:TE)(g:TG):TS:=λD σ H=>te σ H λx H1=>g x σ H1 D.nx
theorem KZ{tg e:Expr}{te:TE}{g:TG}(he:PE X e te)(hg:PG X tg g)(hs:swapsWithSole [tg] e pos.line X.env=pure false:=by rfl)(hw:swappedStores [tg] e X.env=pure none:=by rfl)
  (h1:(assignEach [tg] X.env).map (·.2)=[assign tg X.env]:=by rfl):PS X (.Assign [tg] e pos) (O0 te g):=by
 intro ab s σ H D I h;refine wpAny_Assign_stores (PX (he ab s σ H _ I h) λv s1 ⟨x,H1,I1,r1,q1⟩=>?_) hs hw;rw[h1];exact PX (hg ab s1 σ H1 x v _ I1 r1 q1) λ_ s2 q=>q
def O1(i j:Nat)(ta:TA):TS:=λD σ H=>ta σ H λvs H1=>∃v w,vs=[v,w]/\D.nx ((σ.set i (some v)).set j (some w)) H1
theorem K0{i j:Nat}{x y:Str}{a b:Expr}{ta:TA}{px py pt:Pos} {kt k2 pt2} (hc:X.calm=true) (hN:X.N.Nodup) (hi:X.N[i]?=some x) (hj:X.N[j]?=some y) (hij:i≠j)
  (hx:X.env.scope.names.lookup x=some .local) (hy:X.env.scope.names.lookup y=some .local) (ha:PA X [a,b] ta)
  (hw:swappedStores [.Tuple [.Name x px,.Name y py] kt pt] (.Tuple [a,b] k2 pt2) X.env=pure (some [x,y]))
  (hs:swapsWithSole [.Tuple [.Name x px,.Name y py] kt pt] (.Tuple [a,b] k2 pt2) pos.line X.env=pure false:=by rfl) :
  PS X (.Assign [.Tuple [.Name x px,.Name y py] kt pt] (.Tuple [a,b] k2 pt2) pos) (O1 i j ta):=by
 intro ab s σ H D I h;rw[exec_Assign_arm];refine kS (wpAny_standAt ?_);rw[hs];refine kS (Uw ?_);rw[if_neg (by decide)];refine kS (Tuple_ (PX (ha _ ab s σ H _ I h) λus s1 ⟨vs,H1,I1,r1,q1⟩=>?_));obtain⟨v,w,e1,q1⟩:=q1;subst e1
 obtain⟨u1,u2,rfl,rv,rw'⟩:∃u1 u2,us=[u1,u2]/\cJ v u1/\cJ w u2:=by
  cases r1 with
  | cons p q =>
   cases q with
   | cons p' q' =>
    cases q';exact⟨_,_,rfl,p,p'⟩
 refine wpAny_newObj_type ?_ (by show 2<=sizeLine;decide);have I2:PU X ab σ H1 {s1 with heap:=s1.heap.push {cls:=.type "tuple",data:=.seq [u1,u2].toArray} }:=I1.kept (t':=s1.toks) λb o e=>p4 _ e;rw[hw];refine kS (Uw ?_)
 show wpAny (model X.prog X.w) X.A (do rule "assign.swapped-stores"; let items <- unpackItems (.ref s1.heap.objs.size) 2 none; assignInOrder [λv=>bindName X.env y v,λv=>bindName X.env x v] items.reverse; pure Flow.next) _ _ _
 refine kS (wpAny_rule (kS (unpackItems_tuple (items:=#[u1,u2]) (I.ok.hd hc) (IsTup.new s1.heap _) λh' hx'=>?_)));have I3:=I2.kept (h':=h') (t':=s1.toks) λb o e=>hx' b o (Nat.ne_of_lt (Ut e)) e
 show wpAny _ _ (assignInOrder [λv=>bindName X.env y v,λv=>bindName X.env x v] [u2,u1] >>= λ_=>pure Flow.next) _ _ _
 refine kS (assignInOrder_cons (wpAny_bindName (mh I3 hN hj (.inl hy) rw' (λs2 I4=>?_) (.inr hy))));refine assignInOrder_cons (wpAny_bindName (mh I4 hN hi (.inl hx) rv (λs3 I5=>assignInOrder_nil (Uw ?_)) (.inr hx)));rw[List.set_comm _ _ (Ne.symm hij)]at I5;exact⟨_,H1,I5,q1⟩
def O2(i:Nat)(te:TE)(ti:P5):TS:=λD σ H=>∃x,σ[i]?=some (some x)/\te σ H λy H1=>ti x y H1 λz H2=>D.nx (σ.set i (some z)) H2
theorem K1{i:Nat}{x:Str}{e:Expr}{te:TE}{op:Operator}{ti:P5}{pos':Pos}(hN:X.N.Nodup)(hi:X.N[i]?=some x)(hx:PR X.env.scope x)(he:PE X e te)(ho:P6 X op ti)(hf:X.fn x=true∨X.env.scope.names.lookup x=some .local:=by first|exact .inl rfl|exact .inr rfl|assumption) :
  PS X (.AugAssign (.Name x pos') op e pos) (O2 i te ti):=by
 intro ab s σ H D I h;obtain⟨v,e1,h⟩:=h;obtain⟨m,hn,hl⟩:=I.loc;have P7:PQ X.env.scope x:=by rcases hx with k|k;exact .inl k;exact .inr (.inl k)
 obtain⟨u,r,l⟩:=hl i x v hi e1 P7;refine wpAny_AugAssign_Name ?_
 have go:wpAny (model X.prog X.w) X.A (eval e X.env) (λw s₂=>wpAny (model X.prog X.w) X.A (inplaceOp op u w) (λr s₃=>wpAny (model X.prog X.w) X.A (storeName X.env x r) (λ_=>SP X ab D .next) X.xe s₃) X.xe s₂) X.xe s:=by refine PX (he ab s σ H _ I h) λw s1 ⟨y,H1,I1,r1,q1⟩=>?_;refine PX (ho ab s1 σ H1 v y u w _ I1 r r1 q1) λz s2 ⟨zv,H2,I2,r2,q2⟩=>?_;exact mh I2 hN hi hx r2 (λs3 I3=>⟨_,H2,I3,q2⟩) hf
 rcases l with⟨hk,hm⟩|⟨hk,c,hc,hcell⟩
 . exact wpAny_loadName_local I.ok.kind hk hn hm go
 .
  rcases hk with hk|hk
  . exact wpAny_loadName_cell I.ok.kind hk hc hcell go
  .
   rcases hx with k|k
   . have:X.env.scope.names.lookup x=some .free:=hk;rw[k]at this;cases this
   . have:X.env.scope.names.lookup x=some .free:=hk;rw[k]at this;cases this
noncomputable def P8(f:Int->Int->Int):P5:=λx y H Q=>∃i j,x=.int i/\y=.int j/\Q (.int (f i j)) H
theorem K2:P6 X .Add (P8 λi j=>i+j):=by intro ab s σ H x y v u Q I r1 r2 h;obtain⟨i,j,e1,e2,q⟩:=h;subst e1;subst e2;obtain⟨t,rfl⟩:=r1;obtain⟨t',rfl⟩:=r2;exact iadd_int ⟨.int _,H,I.tok _,⟨_,rfl⟩,q⟩
end
section
variable{X:Cx}{pos:Pos}
def K3(c:TT)(tb:TS):TS:=λD σ H=>∃W:Nat->St->Hp->Prop,(∃m,W m σ H)/\∀m σ H,W m σ H ->
 c σ H λb H1=>if b=true then ∃N:St->Hp->Prop,(∀σ' H',N σ' H'->∃m',m' < m/\W m' σ' H')/\tb {D with nx:=N,ct:=N,bk:=D.nx} σ H1 else D.nx σ H1
theorem Fj{c:Expr}{body:List Stmt}{tc:TT}{tb:TS}(hp:PassesOwn (model X.prog X.w) X.A X.env X.xe)(hc:PT X c tc)(hb:PV X body tb):PS X (.While c body [] pos) (K3 tc tb):=by
 intro ab s σ H D I h;obtain⟨W,⟨m0,w0⟩,turn⟩:=h;refine wpAny_While (codeAny_whileLoop (λn s'=>∃σ' H',PU X ab σ' H' s'/\W n σ' H') ?_ m0 ⟨σ,H,I,w0⟩);rintro n s1 ⟨σ1,H1,I1,w1⟩;refine wpAny_passesOwn hp (PX (hc ab s1 σ1 H1 _ I1 (turn n σ1 H1 w1)) λb s2 ⟨H2,I2,q2⟩=>?_)
 cases b with
 | true =>
  obtain⟨N,hN,q2⟩:=q2;rw[if_pos rfl];refine wpAny_passesOwn hp (PX (hb ab s2 σ1 H2 _ I2 q2) λf s3 q3=>?_)
  cases f with
  | next =>
   obtain⟨σ3,H3,I3,n3⟩:=q3;obtain⟨m',hm,w3⟩:=hN σ3 H3 n3;exact⟨m',hm,σ3,H3,I3,w3⟩
  | cont =>
   obtain⟨σ3,H3,I3,n3⟩:=q3;obtain⟨m',hm,w3⟩:=hN σ3 H3 n3;exact⟨m',hm,σ3,H3,I3,w3⟩
  |brk=>exact q3
  |ret v=>exact q3
 | false =>
  rw[if_neg Bool.false_ne_true];exact wpAny_execs_nil ⟨σ1,H2,I2,q2⟩
end
structure It where
 go:Nat->Hp->Prop
 yld:Nat->Hp->V->Hp->Prop
 stop:Nat->Hp->Prop
def B2(X:Cx)(ab:List (Addr×Obj))(H:Hp)(b:Addr):Prop :=
 H b=none/\b≠X.env.locals/\b∉X.fs/\(b∈X.ex∨X.s₀.heap.objs.size<=b)/\(∀x c,X.env.cells.lookup x=some c->c≠b)/\∀p∈X.pn++ab,p.1≠b
theorem PU.fpOk{X:Cx}{ab:List (Addr×Obj)}{σ:St}{H H':Hp}{s:Shared}{b:Addr}(I:PU X ab σ H s)(hb:s.heap.objs.size<=b)(hn:H' b=none):B2 X ab H' b:=by
 refine⟨hn,Nat.ne_of_gt (so I.lt hb),I.nofs hb,.inr (Ur I.sz hb),λx c e z=>?_,λp hp z=>?_⟩
 . obtain⟨v,q⟩:=I.cell x c e;exact absurd (so q.lt (by rw[z];exact hb)) (Nat.lt_irrefl _)
 . exact absurd (so (Ut (I.pin p hp).1) (by rw[z];exact hb)) (Nat.lt_irrefl _)
structure Ht (P:Program) (w:World) (K:PySem.W.Frag) (tg:Expr) (J:It) (fp:List Addr) (it:Addr) (tn:Nat->Heap->Prop):Prop where
 mem:it∈fp
 obj:∀i h,tn i h->∀b∈fp,∃o,h.get? b=some o/\∀v,o.data≠.cell v
 keep:∀i h h',tn i h->(∀b∈fp,∀o,h.get? b=some o->h'.get? b=some o)->tn i h'
 item:∀(X:Cx),X.prog=P->X.w=w->X.K=K->X.calm=true->∀(i:Nat)(ab:List (Addr×Obj))(s:Shared)(σ:St)(H:Hp)(E:Value->Shared->Prop),PU X ab σ H s->(∀b∈fp,B2 X ab H b)->tn i s.heap->J.go i H ->
  wpAny (model P w) X.A (pyNext (.ref it)) (λr s1=>∃u,r=some u /\
   wpAny (model P w) X.A (letOwnedTupleGo tg (.ref it) u) (λ_ s2=>∃x H',PU X ab σ H' s2/\cJ x u/\J.yld i H x H'/\tn (i+1) s2.heap/\∀b∈fp,H' b=none) E s1) E s
 done:∀(X:Cx),X.prog=P->X.w=w->X.K=K->X.calm=true->∀(i:Nat)(ab:List (Addr×Obj))(s:Shared)(σ:St)(H:Hp)(E:Value->Shared->Prop),PU X ab σ H s->(∀b∈fp,B2 X ab H b)->tn i s.heap->J.stop i H ->
  wpAny (model P w) X.A (pyNext (.ref it)) (λr s1=>r=none/\PU X ab σ H s1) E s
 self:∀(A:Around)(i:Nat)(s:Shared)(Q:Value->Shared->Prop)(E:Value->Shared->Prop),tn i s.heap->Q (.ref it) s->wpAny (model P w) A (pyIter (.ref it)) Q E s
noncomputable abbrev TI:=St->Hp->(It->Hp->Prop)->Prop
def P9(X:Cx)(ab:List (Addr×Obj))(σ:St)(tg:Expr)(R:It->Hp->Prop)(itv:Value)(s2:Shared):Prop :=
 ∃(it:Addr)(fp:List Addr)(tn:Nat->Heap->Prop)(J:It)(H':Hp),itv=.ref it/\PU X ab σ H' s2/\Ht X.prog X.w X.K tg J fp it tn/\tn 0 s2.heap/\(∀b∈fp,B2 X ab H' b)/\R J H'
def PI(X:Cx)(tg iter:Expr)(wi:TI):Prop :=
 ∀(ab:List (Addr×Obj))(s:Shared)(σ:St)(H:Hp)(R:It->Hp->Prop),PU X ab σ H s->wi σ H R ->
  wpAny (model X.prog X.w) X.A (eval iter X.env) (λv s1=>wpAny (model X.prog X.w) X.A (pyIter v) (P9 X ab σ tg R) X.xe s1) X.xe s
theorem Fk {M : Model} {A : Around} {E : Value → Shared → Prop} {s : Shared} {tg : Expr} {it : Addr} {u : Value} {o : Obj} {n : String} {vs : Array Value} {Q : Unit → Shared → Prop} (ho : s.heap.get? it = some o) (hc : o.cls = .type n) (hd : o.data = .fields vs)
    (hn : ["enumerate", "zip", "dict_itemiterator", "dict_reverseitemiterator", "odict_iterator", "itertools.zip_longest", "itertools.pairwise"].contains n = false) (hQ : Q () s) : wpAny M A (letOwnedTupleGo tg (.ref it) u) Q E s := by
  unfold letOwnedTupleGo
  cases tg<;>first
    |exact Uw hQ
    | (cases u<;>first
        |exact Uw hQ
        | (refine kS (wpAny_load ho ?_)
           rw[hc, hd]
           show wpAny M A (if(["enumerate", "zip", "dict_itemiterator", "dict_reverseitemiterator", "odict_iterator", "itertools.zip_longest", "itertools.pairwise"].contains n && vs[0]? == some (rawInt _)) = true then _ else _) Q E s
           rw[if_neg (by intro h;rw[hn, Bool.false_and]at h;cases h)]
           exact Uw hQ))
noncomputable def Qa(K:PySem.W.Frag)(a:Addr):It :=
 ⟨λi H=>∃xs x,P0 K H a xs/\xs[i]?=some x,λi H x H'=>H'=H/\∀xs,P0 K H a xs->xs[i]?=some x,λi H=>∃xs,P0 K H a xs/\xs.length<=i⟩
noncomputable def Qb(K:PySem.W.Frag)(a:Addr):It :=
 ⟨λi H=>∃xs x,P1 K H a xs/\xs[i]?=some x,λi H x H'=>H'=H/\∀xs,P1 K H a xs->xs[i]?=some x,λi H=>∃xs,P1 K H a xs/\xs.length<=i⟩
noncomputable def Qc(lo:Int)(n:Nat):It:=⟨λi _=>i<n,λi H x H'=>H'=H/\x=.int (lo+i),λi _=>n<=i⟩
theorem B8{P:Program}{w:World}{K:PySem.W.Frag}{tg:Expr}(a it:Addr):Ht P w K tg (Qa K a) [it] it (λi h=>h.IsListIter it a i) where
 mem:=by simp
 obj:=λi h st b hb=>by
  have e:b=it:=by simpa using hb
  subst e;obtain⟨o,e,c,d⟩:=st;exact⟨o,e,λv z=>by rw[d]at z;cases z⟩
 keep:=λi h h' st k=>st.at λo e=>k it x_ o e
 item:=by intro X hP hw hK hc i ab s σ H E I hf st hg;subst hP hw hK;obtain⟨xs,x,hq,hx⟩:=hg;obtain⟨its,rv,p,hz⟩:=I.list hq;obtain⟨u,hu,ru⟩:=rv.get hx;obtain⟨f0,f1,f2,f3,f4,f5⟩:=hf it x_;refine wpAny_pyNext_list_item st p.isList (x:=u) (by simpa using hu) λh' st' sb=>?_;have I1:PU X ab σ H {s with heap:=h' }:=I.turned (t':=s.toks) (λb o hb e=>(sb.2 b hb).trans e) f0 f1 f3 f4 f5;obtain⟨o,e,c,d⟩:=id st';exact⟨u,rfl,Fk (s:={s with heap:=h' }) e c d xp ⟨x,H,I1,ru,⟨rfl,λys hy=>by rw[I.list_inj hy hq];exact hx⟩,st',λb hb=>(hf b hb).1⟩⟩
 done:=by intro X hP hw hK hc i ab s σ H E I hf st hg;subst hP hw hK;obtain⟨xs,hq,hx⟩:=hg;obtain⟨its,rv,p,hz⟩:=I.list hq;obtain⟨f0,f1,f2,f3,f4,f5⟩:=hf it x_;have hl:=rv.length;exact wpAny_pyNext_list_end (I.ok.hd hc) st p.isList (by simp;omega) λh' eb=>⟨rfl,I.turned (t':=s.toks) (λb o hb e=>eb b o hb e) f0 f1 f3 f4 f5⟩
 self:=λ_ _ _ _ _ st h=>wpAny_pyIter_listiter st h
theorem A3{P:Program}{w:World}{K:PySem.W.Frag}{tg:Expr}(a it:Addr):Ht P w K tg (Qb K a) [it] it (λi h=>h.IsTupleIter it a i) where
 mem:=by simp
 obj:=λi h st b hb=>by
  have e:b=it:=by simpa using hb
  subst e;obtain⟨o,e,c,d⟩:=st;exact⟨o,e,λv z=>by rw[d]at z;cases z⟩
 keep:=λi h h' st k=>st.at λo e=>k it x_ o e
 item:=by intro X hP hw hK hc i ab s σ H E I hf st hg;subst hP hw hK;obtain⟨xs,x,hq,hx⟩:=hg;obtain⟨its,rv,p,hz⟩:=I.tuple hq;obtain⟨u,hu,ru⟩:=rv.get hx;obtain⟨f0,f1,f2,f3,f4,f5⟩:=hf it x_;refine wpAny_pyNext_tuple_item st (show s.heap.IsTuple a its.toArray from p) (x:=u) (by simpa using hu) λh' st' sb=>?_;have I1:PU X ab σ H {s with heap:=h' }:=I.turned (t':=s.toks) (λb o hb e=>(sb.2 b hb).trans e) f0 f1 f3 f4 f5;obtain⟨o,e,c,d⟩:=id st';exact⟨u,rfl,Fk (s:={s with heap:=h' }) e c d xp ⟨x,H,I1,ru,⟨rfl,λys hy=>by rw[I.tuple_inj hy hq];exact hx⟩,st',λb hb=>(hf b hb).1⟩⟩
 done:=by intro X hP hw hK hc i ab s σ H E I hf st hg;subst hP hw hK;obtain⟨xs,hq,hx⟩:=hg;obtain⟨its,rv,p,hz⟩:=I.tuple hq;obtain⟨f0,f1,f2,f3,f4,f5⟩:=hf it x_;have hl:=rv.length;exact wpAny_pyNext_tuple_end (I.ok.hd hc) st (show s.heap.IsTuple a its.toArray from p) (by simp;omega) λh' eb=>⟨rfl,I.turned (t':=s.toks) (λb o hb e=>eb b o hb e) f0 f1 f3 f4 f5⟩
 self:=λ_ _ _ _ _ st h=>wpAny_pyIter_tupleiter st h
theorem n5{P:Program}{w:World}{K:PySem.W.Frag}{tg:Expr}(it:Addr)(lo:Int)(n:Nat):Ht P w K tg (Qc lo n) [it] it (λi h=>IsRangeIter h it (lo+(i:Nat)*1) ((n:Int)-(i:Nat)) 1) where
 mem:=by simp
 obj:=λi h st b hb=>by
  have e:b=it:=by simpa using hb
  subst e
  exact⟨_,st,λv z=>by
   have z':Data.fields _=Data.cell v:=z
   cases z'⟩
 keep:=λi h h' st k=>k it x_ _ st
 item:=by intro X hP hw hK hc i ab s σ H E I hf st hg;subst hP hw hK;obtain⟨f0,f1,f2,f3,f4,f5⟩:=hf it x_;have W:=Walks.range (prog:=X.prog) (w:=X.w) (I.ok.hd hc) it lo 1 n;refine W.item i s _ _ hg st λv h' tk hv st' kk=>?_;obtain⟨t,rfl⟩:=hv;have I1:PU X ab σ H {s with heap:=h',toks:=tk}:=I.turned (λb o hb e=>kk b o (by simpa using hb) e) f0 f1 f3 f4 f5;refine⟨_,rfl,Fk (s:={s with heap:=h',toks:=tk}) (n:="range_iterator") st' rfl rfl xp ⟨.int (lo+i),H,I1,⟨t,?_⟩,⟨rfl,rfl⟩,st',λb hb=>(hf b hb).1⟩⟩;rw[Int.mul_one]
 done:=by intro X hP hw hK hc i ab s σ H E I hf st hg;subst hP hw hK;obtain⟨f0,f1,f2,f3,f4,f5⟩:=hf it x_;exact wpAny_pyNext_range_end (I.ok.hd hc) st (by have:n<=i:=hg;omega) λh' eb=>⟨rfl,I.turned (t':=s.toks) (λb o hb e=>eb b o hb e) f0 f1 f3 f4 f5⟩
 self:=λ_ _ _ _ _ st h=>wpAny_pyIter_rangeiter st h
section
variable{X:Cx}{tg:Expr}
theorem Ae{ab:List (Addr×Obj)}{σ:St}{H:Hp}{s:Shared}{R:It->Hp->Prop}{E:Value->Shared->Prop}{lo hi:Int}{t u v:Tok}{tk:Nat}(I:PU X ab σ H s)(h1 : -(2^62)<=lo)(h2:lo<2^62)(h3 : -(2^62)<=hi)(h4:hi<2^62)
  (q:R (Qc lo (hi-lo).toNat) H):wpAny (model X.prog X.w) X.A (pyIter (.ref s.heap.objs.size)) (P9 X ab σ tg R) E {s with heap:=s.heap.push {cls:=.type "range",data:=.fields #[.int lo t,.int hi u,.int 1 v] },toks:=tk}:=by
 refine wpAny_pyIter_range (IsRange.new ..) (small_one h1 h2 h3 h4) ?_;have I1:PU X ab σ H {s with heap:=s.heap.push {cls:=.type "range",data:=.fields #[.int lo t,.int hi u,.int 1 v] },toks:=tk}:=I.kept λb o e=>p4 _ e
 refine⟨(s.heap.push {cls:=.type "range",data:=.fields #[.int lo t,.int hi u,.int 1 v] }).objs.size,[(s.heap.push {cls:=.type "range",data:=.fields #[.int lo t,.int hi u,.int 1 v] }).objs.size],_,_,H,rfl,
  I1.kept (t':=tk) λb o e=>p4 _ e,n5 _ lo (hi-lo).toNat,?_,λb hb=>?_,q⟩
 .
  have e1:lo+((0:Nat):Int)*1=lo:=by simp
  have e2:(((hi-lo).toNat:Nat):Int)-((0:Nat):Int)=Builtin.Range.rangeSize lo hi 1:=by rw[rangeSize_one];split<;>omega
  show IsRangeIter _ _ (lo+((0:Nat):Int)*1) ((((hi-lo).toNat:Nat):Int)-((0:Nat):Int)) 1;rw[e1,e2];exact Heap.get?_push_size _ rfl
 .
  have e:b=(s.heap.push {cls:=.type "range",data:=.fields #[.int lo t,.int hi u,.int 1 v] }).objs.size:=by simpa using hb
  subst e;exact I1.fpOk (Uu _) (I1.hok.fresh (Uu _))
noncomputable def Nu(ta:TA):TI:=λσ H R=>ta σ H λvs H1=>∃j:Int,vs=[.int j]/\-(2^62)<=j/\j<2^62/\R (Qc 0 j.toNat) H1
noncomputable def Nv(ta:TA):TI:=λσ H R=>ta σ H λvs H1=>∃i j:Int,vs=[.int i,.int j]/\(-(2^62)<=i/\i<2^62/\-(2^62)<=j/\j<2^62)/\R (Qc i (j-i).toNat) H1
theorem B9{a:Expr}{ta:TA}{p pos:Pos} (hg:Gl X "range") (hm:X.mg "range"=none) (ha:PA X [a] ta) (hs:starEach [a] X.env=[(false,eval a X.env)]:=by rfl):PI X tg (.Call (.Name "range" p) [a] [] pos) (Nu ta):=by
 intro ab s σ H R I h;refine Call_ (iQ I hg hm boot_range (PyProof.Rows.callWith_type1 (PX (ha pos ab s σ H _ I h) λus s1 ⟨vs,H1,I1,r1,q1⟩=>?_) hs rfl));obtain⟨j,e,q1,q2,q⟩:=q1;subst e
 cases r1 with
 | cons r rr =>
  cases rr;obtain⟨t,rfl⟩:=r;exact call_range_1 (Ae I1 xL xL q1 q2 (by simpa using q))
theorem Ca{a b:Expr}{ta:TA}{p pos:Pos} (hg:Gl X "range") (hm:X.mg "range"=none) (ha:PA X [a,b] ta) (hs:starEach [a,b] X.env=[(false,eval a X.env),(false,eval b X.env)]:=by rfl) (hs2:starEach [b] X.env=[(false,eval b X.env)]:=by rfl) :
  PI X tg (.Call (.Name "range" p) [a,b] [] pos) (Nv ta):=by
 intro ab s σ H R I h;refine Call_ (iQ I hg hm boot_range (PyProof.Rows.callWith_type1 (PX (ha pos ab s σ H _ I h) λus s1 ⟨vs,H1,I1,r1,q1⟩=>?_) (by rw[hs,hs2]) (by rw[hs2];rfl)));obtain⟨i,j,e,⟨q1,q2,q3,q4⟩,q⟩:=q1;subst e
 cases r1 with
 | cons r rr =>
  cases rr with
  | cons r' rr =>
   cases rr;obtain⟨t,rfl⟩:=r;obtain⟨t',rfl⟩:=r';exact call_range_2 (Ae I1 q1 q2 q3 q4 q)
noncomputable def tY(fp:List Addr)(h:Heap):List (Addr×Obj):=fp.filterMap λb=>(h.get? b).map λo=>(b,o)
theorem eV{fp:List Addr}{h:Heap}{b:Addr}{o:Obj}(hb:b∈fp)(e:h.get? b=some o):(b,o)∈tY fp h:=List.mem_filterMap.mpr ⟨b,hb,by rw[e];rfl⟩
theorem Cb{fp:List Addr}{h:Heap}{p:Addr×Obj}(hp:p∈tY fp h):p.1∈fp/\h.get? p.1=some p.2:=by
 obtain⟨b,hb,e⟩:=List.mem_filterMap.mp hp
 cases q:h.get? b with
 |none=>rw[q]at e;cases e
 | some o =>
  rw[q]at e;have e':(b,o)=p:=Option.some.inj e;subst e';exact⟨hb,q⟩
theorem PU.pinned{ab:List (Addr×Obj)}{σ:St}{H:Hp}{s:Shared}{fp:List Addr}(I:PU X ab σ H s)(hf:∀b∈fp,B2 X ab H b)(ho:∀b∈fp,∃o,s.heap.get? b=some o/\∀v,o.data≠.cell v):PU X (ab++tY fp s.heap) σ H s :=
 I.pins_of λp hp=>(List.mem_append.mp hp).elim (λz=>I.pin p (List.mem_append_right _ z)) λz=>by obtain⟨hb,e⟩:=Cb z;obtain⟨f0,f1,f2,_⟩:=hf p.1 hb;obtain⟨o,e',d⟩:=ho p.1 hb;rw[e]at e';cases e';exact⟨e,f0,f1,f2,d⟩
theorem PU.unpinned{ab pl:List (Addr×Obj)}{σ:St}{H:Hp}{s:Shared}(I:PU X (ab++pl) σ H s):PU X ab σ H s:=I.pins_of λp hp=>I.pin p (List.mem_append_right _ (List.mem_append_left _ hp))
end
abbrev R2:=V->V->Hp->VK->Prop
def Qd(X:Cx)(f:Value->Value->Sem Value)(r:R2):Prop :=
 ∀(ab:List (Addr×Obj))(s:Shared)(σ:St)(H:Hp)(x y:V)(v u:Value)(Q:VK),PU X ab σ H s->cJ x v->cJ y u->r x y H Q ->
  wpAny (model X.prog X.w) X.A (f v u) (EP X ab σ Q) X.xe s
def Qe(X:Cx)(f:Value->Sem Value)(r:V->Hp->VK->Prop):Prop :=
 ∀(ab:List (Addr×Obj))(s:Shared)(σ:St)(H:Hp)(x:V)(v:Value)(Q:VK),PU X ab σ H s->cJ x v->r x H Q ->
  wpAny (model X.prog X.w) X.A (f v) (EP X ab σ Q) X.xe s
def iX(X:Cx)(f:Value)(r:List V->Hp->VK->Prop):Prop :=
 ∀(ab:List (Addr×Obj))(s:Shared)(σ:St)(H:Hp)(xs:List V)(us:List Value)(Q:VK),PU X ab σ H s->ck xs us->r xs H Q ->
  wpAny (model X.prog X.w) X.A (call f us) (EP X ab σ Q) X.xe s
def O3(X:Cx)(r:V->Hp->(Bool->Hp->Prop)->Prop):Prop :=
 ∀(ab:List (Addr×Obj))(s:Shared)(σ:St)(H:Hp)(x:V)(v:Value)(Q:Bool->Hp->Prop),PU X ab σ H s->cJ x v->r x H Q ->
  wpAny (model X.prog X.w) X.A (truthy v) (TP X ab σ Q) X.xe s
def Qf(r:R2)(ta tb:TE):TE:=λσ H Q=>ta σ H λx H1=>tb σ H1 λy H2=>r x y H2 Q
def rI(C:Int->Int->Prop)(g:Int->Int->V):R2:=λx y H Q=>∃i j,x=.int i/\y=.int j/\C i j/\Q (g i j) H
def Qg(g:Int->Int->V):R2:=λx y H Q=>∃i j,x=.int i/\y=.int j/\Q (g i j) H
def rU(g:Int->V):V->Hp->VK->Prop:=λx H Q=>∃i,x=.int i/\Q (g i) H
section
variable{X:Cx}{a b:Expr}{ta tb:TE}{pos:Pos}
theorem Os(ha:PE X a ta)(hb:PE X b tb){ab:List (Addr×Obj)}{s:Shared}{σ:St}{H:Hp}{R:V->V->Hp->Prop}(I:PU X ab σ H s)
  (h:ta σ H λx H1=>tb σ H1 λy H2=>R x y H2) {Q:Value->Shared->Prop} {f:Value->Value->Sem Value}
  (hf:∀v u s2 x y H2,PU X ab σ H2 s2->cJ x v->cJ y u->R x y H2->wpAny (model X.prog X.w) X.A (f v u) Q X.xe s2) :
  wpAny (model X.prog X.w) X.A (eval a X.env) (λv s₁=>wpAny (model X.prog X.w) X.A (eval b X.env) (λu s₂=>wpAny (model X.prog X.w) X.A (f v u) Q X.xe s₂) X.xe s₁) X.xe s:=by
 refine PX (ha ab s σ H _ I h) λv s1 ⟨x,H1,I1,r1,q1⟩=>?_;refine PX (hb ab s1 σ H1 _ I1 q1) λu s2 ⟨y,H2,I2,r2,q2⟩=>?_;exact hf v u s2 x y H2 I2 r1 r2 q2
theorem Nw{op:Operator}{r:R2}(ho:Qd X (binaryOp op) r)(ha:PE X a ta)(hb:PE X b tb):PE X (.BinOp a op b pos) (Qf r ta tb):=by intro ab s σ H Q I h;exact wpAny_BinOp (Os ha hb I h λv u s2 x y H2 I2 rx ry q=>ho ab s2 σ H2 x y v u Q I2 rx ry q)
theorem Qh{f:Value->Value->Sem Value}{C:Int->Int->Prop}{g:Int->Int->Int}
  (rule:∀(i j:Int)(t u:Tok)(s:Shared)(Q:Value->Shared->Prop)(E:Value->Shared->Prop),C i j->Q (.int (g i j) s.toks) {s with toks:=s.toks+1}->wpAny (model X.prog X.w) X.A (f (.int i t) (.int j u)) Q E s) :
  Qd X f (rI C λi j=>.int (g i j)):=by
 intro ab s σ H x y v u Q I rx ry h;obtain⟨i,j,rfl,rfl,hc,q⟩:=h;obtain⟨t,rfl⟩:=rx;obtain⟨t',rfl⟩:=ry;exact rule i j t t' s _ _ hc ⟨.int (g i j),H,I.tok _,⟨_,rfl⟩,q⟩
theorem Ot{f:Value->Value->Sem Value}{g:Int->Int->Int}
  (rule:∀(i j:Int)(t u:Tok)(s:Shared)(Q:Value->Shared->Prop)(E:Value->Shared->Prop),Q (.int (g i j) s.toks) {s with toks:=s.toks+1}->wpAny (model X.prog X.w) X.A (f (.int i t) (.int j u)) Q E s) :
  Qd X f (Qg λi j=>.int (g i j)):=by
 intro ab s σ H x y v u Q I rx ry h;obtain⟨i,j,rfl,rfl,q⟩:=h;obtain⟨t,rfl⟩:=rx;obtain⟨t',rfl⟩:=ry;exact rule i j t t' s _ _ ⟨.int (g i j),H,I.tok _,⟨_,rfl⟩,q⟩
theorem MX{f:Value->Value->Sem Value}{g:Int->Int->Bool}
  (rule:∀(i j:Int)(t u:Tok)(s:Shared)(Q:Value->Shared->Prop)(E:Value->Shared->Prop),Q (.bool (g i j)) s->wpAny (model X.prog X.w) X.A (f (.int i t) (.int j u)) Q E s) :
  Qd X f (Qg λi j=>.bl (g i j)):=by
 intro ab s σ H x y v u Q I rx ry h;obtain⟨i,j,rfl,rfl,q⟩:=h;obtain⟨t,rfl⟩:=rx;obtain⟨t',rfl⟩:=ry;exact rule i j t t' s _ _ ⟨.bl (g i j),H,I,rfl,q⟩
def O4(i j:Int):Prop:=0<=j/\j<=1000000/\i.natAbs<2^64
def Ou(i j:Int):Prop:=(-(2^64)<i/\i<2^64)∨(-(2^64)<j/\j<2^64)
theorem Ou.ok{i j:Int}(h:Ou i j):IntMulOk i j:=by
 rcases h with⟨h1,h2⟩|⟨h1,h2⟩
 . exact .of_left (intBits_le_64 h1 h2)
 . exact .of_right (intBits_le_64 h1 h2)
theorem K4:Qd X (binaryOp .Add) (Qg λi j=>.int (i+j)):=Ot λ_ _ _ _ _ _ _ q=>add_int q
theorem K5:Qd X (binaryOp .Sub) (Qg λi j=>.int (i-j)):=Ot λ_ _ _ _ _ _ _ q=>sub_int q
theorem Ie:Qd X (binaryOp .Mod) (rI (λ_ j=>j≠0) λi j=>.int (i.fmod j)):=Qh λ_ _ _ _ _ _ _ hc q=>mod_int' hc q
theorem K6:Qd X (binaryOp .Pow) (rI O4 λi j=>.int (i^j.toNat)):=Qh λ_ _ _ _ _ _ _ hc q=>pow_int_small hc.1 hc.2.1 hc.2.2 q
theorem Qi{f:Value->Sem Value}{g:Int->Int}
  (rule:∀(i:Int)(t:Tok)(s:Shared)(Q:Value->Shared->Prop)(E:Value->Shared->Prop),Q (.int (g i) s.toks) {s with toks:=s.toks+1}->wpAny (model X.prog X.w) X.A (f (.int i t)) Q E s) :
  Qe X f (rU λi=>.int (g i)):=by
 intro ab s σ H x v Q I rx h;obtain⟨i,rfl,q⟩:=h;obtain⟨t,rfl⟩:=rx;exact rule i t s _ _ ⟨.int (g i),H,I.tok _,⟨_,rfl⟩,q⟩
theorem K7:Qe X (unaryOp .USub) (rU λi=>.int (-i)):=Qi λ_ _ _ _ _ q=>neg_int q
end
section
variable{X:Cx}{a b c:Expr}{ta tb tc:TE}{pos:Pos}
theorem Hu{ab:List (Addr×Obj)}{σ:St}{H:Hp}{s:Shared}{Q:VK}{k k':Bool}(I:PU X ab σ H s)(q:Q (.bl k) H)(e:k=k'):EP X ab σ Q (.bool k') s:=by subst e;exact⟨.bl k,H,I,rfl,q⟩
theorem K8:Qd X (compareOp .Lt) (Qg λi j=>.bl (decide (i<j))):=MX λ_ _ _ _ _ _ _ q=>lt_int q
theorem K9:Qd X (compareOp .LtE) (Qg λi j=>.bl (decide (i<=j))):=MX λ_ _ _ _ _ _ _ q=>le_int q
theorem Nx:Qd X (compareOp .Gt) (Qg λi j=>.bl (decide (j<i))):=MX λ_ _ _ _ _ _ _ q=>gt_int q
theorem Ny:Qd X (compareOp .GtE) (Qg λi j=>.bl (decide (j<=i))):=MX λ_ _ _ _ _ _ _ q=>ge_int q
theorem La:Qd X (compareOp .Is) (λx y H Q=>y=.non/\Q (.bl (decide (x=.non))) H):=by
 intro ab s σ H x y v u Q I rx ry h;obtain⟨rfl,q⟩:=h;cases ry;refine is_none_gen (Hu I q ?_)
 cases x<;>first
  |(cases rx;rfl)
  |(obtain⟨t,rfl⟩:=rx;rfl)
theorem Ig:Qd X (compareOp .IsNot) (λx y H Q=>y=.non/\Q (.bl (!decide (x=.non))) H):=by
 intro ab s σ H x y v u Q I rx ry h;obtain⟨rfl,q⟩:=h;cases ry;refine isnot_none_gen (Hu I q ?_)
 cases x<;>first
  |(cases rx;rfl)
  |(obtain⟨t,rfl⟩:=rx;rfl)
theorem aO(b:Expr){op:CmpOp}(h:op≠.In:=by decide)(h2:op≠.NotIn:=by decide):behindInMarks op b=false:=by
 have e1:(op == CmpOp.In)=false:=by cases op<;>first|rfl|exact absurd rfl h
 have e2:(op == CmpOp.NotIn)=false:=by cases op<;>first|rfl|exact absurd rfl h2
 cases b<;>simp[behindInMarks,e1,e2]
def Hv(r r':R2)(ta tb tc:TE):TE:=λσ H Q=>ta σ H λx H1=>tb σ H1 λy H2=>r x y H2 λz H3=>∃k,z=.bl k /\
 (if k=true then tc σ H3 λw' H4=>r' y w' H4 Q else Q (.bl false) H3)
theorem Fm{op op':CmpOp}{r r':R2}(ho:Qd X (compareOp op) r)(ho':Qd X (compareOp op') r')(ha:PE X a ta)(hb:PE X b tb)(hc:PE X c tc)
  (hm:lastMarks [op,op'] [b,c]=false:=by with_unfolding_all rfl):PE X (.Compare a [op,op'] [b,c] pos) (Hv r r' ta tb tc):=by
 intro ab s σ H Q I h
 refine Compare_chain (PX (ha ab s σ H _ I h) λv s1 ⟨x,H1,I1,r1,q1⟩=>chain_link (PX (hb ab s1 σ H1 _ I1 q1) λu s2 ⟨y,H2,I2,r2,q2⟩ =>
  PX (ho ab s2 σ H2 x y v u _ I2 r1 r2 q2) λd s3 ⟨z,H3,I3,r3,k,e,q3⟩=>?_)) hm
 subst e;cases r3;refine wpAny_truthy_bool ?_
 cases k with
 |false=>exact ite_ff ⟨.bl false,H3,I3,rfl,q3⟩
 |true=>exact ite_tt (chain_last (PX (hc ab s3 σ H3 _ I3 q3) λw' s4 ⟨z',H4,I4,r4,q4⟩=>ho' ab s4 σ H4 y z' u w' Q I4 r2 r4 q4))
def Ov(K:PySem.W.Frag)(x:V)(H:Hp)(k:Bool):Prop :=
 match x with
 |.non=>k=false
 |.bl b=>k=b
 |.int i=>k=(i != 0)
 |.str y=>y.length<=sizeLine/\k=((y.length:Int) != 0)
 |.byt y=>y.size<=sizeLine/\k=((y.size:Int) != 0)
 |.ref p=>(∃xs,P0 K H p xs/\k=!xs.isEmpty)∨(∃xs,P1 K H p xs/\k=!xs.isEmpty)∨∃kvs,H p=some (.dK kvs)/\k=!kvs.isEmpty
 |_=>False
theorem A4{κ:Type}{kvs:List (κ×V)}{vs:List (κ×Value)}(r:KV kvs vs):(!vs.isEmpty)=!kvs.isEmpty:=by cases r<;>rfl
theorem tZ{xs:List V}{its:List Value}(r:ck xs its):(!its.toArray.isEmpty)=!xs.isEmpty:=by cases r<;>simp
theorem qF:(sizeLine:Nat)<2^63:=by rw[sizeLine_eq];decide
theorem Lb:O3 X (λx H Q=>∃k,Ov X.K x H k/\Q k H):=by
 intro ab s σ H x v Q I rx h;obtain⟨k,e,q⟩:=h;have hl:=qF;have hs:sizeLine=16777216:=sizeLine_eq
 cases x with
 | non =>
  cases rx;have e':k=false:=e;subst e';exact truthy_none ⟨H,I,q⟩
 | bl b =>
  cases rx;have e':k=b:=e;subst e';exact wpAny_truthy_bool ⟨H,I,q⟩
 | int i =>
  obtain⟨t,rfl⟩:=rx;have e':k=(i != 0):=e;subst e';exact PySem.P.truthy_int ⟨H,I,q⟩
 | str y =>
  obtain⟨t,rfl⟩:=rx;obtain⟨hy,e'⟩:y.length<=sizeLine/\k=((y.length:Int) != 0):=e;subst e';exact PySem.P.truthy_str xL ⟨H,I.tok _,q⟩
 | byt y =>
  obtain⟨t,rfl⟩:=rx;obtain⟨hy,e'⟩:y.size<=sizeLine/\k=((y.size:Int) != 0):=e;subst e';exact PySem.W.truthy_bytes xL ⟨H,I.tok _,q⟩
 | ref p =>
  cases rx;have e':(∃xs,P0 X.K H p xs/\k=!xs.isEmpty)∨(∃xs,P1 X.K H p xs/\k=!xs.isEmpty)∨∃kvs,H p=some (.dK kvs)/\k=!kvs.isEmpty:=e;rcases e' with⟨xs,hx,e'⟩|⟨xs,hx,e'⟩|⟨kvs,hx,e'⟩
  . subst e';obtain⟨its,r,pl,hz⟩:=I.list hx;have fI:=r.length;exact wpAny_truthy_list pl.isList (by simp only[List.size_toArray];omega) ⟨H,I.tok _,by rw[tZ r];exact q⟩
  . subst e';obtain⟨its,r,pl,hz⟩:=I.tuple hx;have fI:=r.length;exact truthy_tuple pl (by simp only[List.size_toArray];omega) ⟨H,I.tok _,by rw[tZ r];exact q⟩
  . subst e';obtain⟨hz,hS,vs,r,m⟩:kvs.length<=sizeLine/\(p == sysModules)=false/\∃vs,KV kvs vs/\s.heap.DictOf (yw X.prog X.w) p vs:=I.hok p _ hx;have fI:kvs.length=vs.length:=Paired.length r;exact wpAny_truthy_dict hS m xL ⟨H,I.tok _,by rw[A4 r];exact q⟩
 |_=>exact(show False from e).elim
theorem Fn(ha:PE X a ta)(he:∀whole,isTrue a X.env whole=(do let v <- whole;standAt a.pos;holding [v] (truthy v))) :
  PT X a (λσ H Q=>ta σ H λx H'=>∃k,Ov X.K x H' k/\Q k H'):=by
 intro ab s σ H Q I h;exact isTrue_plain (PX (ha ab s σ H _ I h) λv s1 ⟨x,H1,I1,r1,q1⟩=>Lb ab s1 σ H1 x v Q I1 r1 q1) (he _)
theorem A5:Qd X (binaryOp .Add) (λx y H Q=>∃i j,x=.str i/\y=.str j/\i.length+j.length<=sizeLine/\Q (.str (i++j)) H):=by intro ab s σ H x y v u Q I rx ry h;obtain⟨i,j,rfl,rfl,hz,q⟩:=h;obtain⟨t,rfl⟩:=rx;obtain⟨t',rfl⟩:=ry;exact add_str (λt' tk=>⟨.str (i++j),H,I.tok _,⟨_,rfl⟩,q⟩) hz
theorem sY{x:V}{us:List Value}(r:ck [x] us):∃u,us=[u]/\cJ x u:=by
 cases r with
 |cons r1 r2=>cases r2;exact⟨_,rfl,r1⟩
theorem Ih{x y:V}{us:List Value}(r:ck [x,y] us):∃u w',us=[u,w']/\cJ x u/\cJ y w':=by
 cases r with
 | cons r1 r2 =>
  cases r2 with
  |cons r3 r4=>cases r4;exact⟨_,_,rfl,r1,r3⟩
theorem Fo:iX X (.builtin "abs") (λxs H Q=>∃ i,xs=[.int i]/\Q (.int (if i < 0 then -i else i)) H):=by
 intro ab s σ H xs us Q I r h;obtain⟨i,rfl,q⟩:=h;obtain⟨u,rfl,t,rfl⟩:=sY r
 exact call_abs_int λu tk=>⟨.int (if i<0 then -i else i),H,I.tok _,⟨_,rfl⟩,q⟩
theorem Cc(hc:X.calm=true):iX X (.builtin "max") (λxs H Q=>∃ i j,xs=[.int i,.int j]/\Q (.int (if j > i then j else i)) H):=by
 intro ab s σ H xs us Q I r h;obtain⟨i,j,rfl,q⟩:=h;obtain⟨u,w',rfl,⟨t,rfl⟩,⟨t',rfl⟩⟩:=Ih r;refine max_two_ints (I.ok.hd hc) λh' tk k=>⟨_,H,I.kept k,?_,q⟩;by_cases hj:j > i
 . rw[if_pos hj,if_pos hj];exact⟨_,rfl⟩
 . rw[if_neg hj,if_neg hj];exact⟨_,rfl⟩
theorem Cd(hc:X.calm=true):iX X (.builtin "min") (λxs H Q=>∃ i j,xs=[.int i,.int j]/\Q (.int (if j < i then j else i)) H):=by
 intro ab s σ H xs us Q I r h;obtain⟨i,j,rfl,q⟩:=h;obtain⟨u,w',rfl,⟨t,rfl⟩,⟨t',rfl⟩⟩:=Ih r;refine min_two_ints (I.ok.hd hc) λh' tk k=>⟨_,H,I.kept k,?_,q⟩;by_cases hj:j<i
 . rw[if_pos hj,if_pos hj];exact⟨_,rfl⟩
 . rw[if_neg hj,if_neg hj];exact⟨_,rfl⟩
theorem Ce:iX X (.type "int") (λxs H Q=>(∃ i,xs=[.int i]/\Q (.int i) H)∨∃ k,xs=[.bl k]/\Q (.int (if k then 1 else 0)) H):=by
 intro ab s σ H xs us Q I r h;rcases h with⟨i,rfl,q⟩|⟨k,rfl,q⟩
 . obtain⟨u,rfl,t,rfl⟩:=sY r;exact call_int_int ⟨.int i,H,I,⟨_,rfl⟩,q⟩
 .
  obtain⟨u,rfl,r1⟩:=sY r;cases r1
  exact call_int_bool ⟨.int (if k then 1 else 0),H,I.tok _,⟨_,rfl⟩,q⟩
end
structure Qj (K:PySem.W.Frag) (C:Addr):Prop where
 pg:PySem.W.plainGet K C Str.empty=true
 hd:PySem.W.hasDictIn K C=true
 po:PySem.W.plainOver K C=true
 sa:PySem.W.findIn K (.ref C) "__setattr__"=some (some (.builtin "object.__setattr__"))
theorem Qj.get{K:PySem.W.Frag}{C:Addr}(c:Qj K C)(f:Str):PySem.W.plainGet K C f=true:=c.pg
structure td (k:Nat) (A:Around):Prop where
 hd:A.handled=none
 dp:A.depth+3*k+5<recursionLimit
 un:A.units+16*k+200<cLine
 gd:A.guards=some []
theorem td.mono{j k:Nat}{A:Around}(r:td k A)(h:j<=k):td j A:=⟨r.hd,by have:=r.dp;omega,by have:=r.un;omega,r.gd⟩
theorem td.deeper{k:Nat}{A:Around}(r:td (k+1) A)(env:Env):td k (A.deeper env) :=
 ⟨r.hd,by have:=r.dp;show A.depth+1+3*k+5<_;omega,by have:=r.un;show A.units+3+16*k+200<_;omega,r.gd⟩
theorem td.depth{k:Nat}{A:Around}(r:td k A):A.depth<recursionLimit:=by have:=r.dp;omega
theorem td.units{k:Nat}{A:Around}(r:td k A):A.units+64<cLine:=by have:=r.un;omega
noncomputable def O5:TA:=λ_ H Q=>Q [] H
noncomputable def Nz(ta:TE)(tr:TA):TA:=λσ H Q=>ta σ H λx H1=>tr σ H1 λxs H2=>Q (x::xs) H2
section
variable{X:Cx}{e:Expr}{es:List Expr}{te:TE}{t:TA}{pos:Pos}
theorem mi:PA X [] O5:=λ_ _ _ _ H Q I h=>Calls.spliced_nil ⟨[],H,I,.nil,h⟩
theorem eD(ha:PE X e te)(hr:PA X es t)(hs:starEach (e::es) X.env=(false,eval e X.env)::starEach es X.env:=by rfl):PA X (e::es) (Nz te t):=by intro pos ab s σ H Q I h;rw[hs];show wpAny _ _ (spliced ((false,eval e X.env)::backTo pos (starEach es X.env))) _ _ s;refine Calls.spliced_cons (PX (ha ab s σ H _ I h) λu s1 ⟨x,H1,I1,r1,q1⟩=>?_);exact PX (hr pos ab s1 σ H1 _ I1 q1) λus s2 ⟨xs,H2,I2,r2,q2⟩=>⟨x::xs,H2,I2,.cons r1 r2,q2⟩
end
noncomputable abbrev Sp:=List V->Hp->VK->XK->Prop
noncomputable abbrev Qk:=List Env->Hp->Shared->XK->Value->Shared->Prop
structure MY (P:Program) (w:World) (K:PySem.W.Frag) (mg:Str->Option Value) (base:Heap) (A:Around) (outer:List Env) (s:Shared) (H:Hp):Prop where
 frames:A.frames=some outer
 mod:Mod K mg base
 bs:∀b o,base.get? b=some o->s.heap.get? b=some o/\H b=none
 bsz:base.objs.size<=s.heap.objs.size
 funs:s.heap.FunFrames base outer
 frf:∀b∈PP outer,H b=none
 hok:PF P w H s.heap
 bare:AllBare s.gens
 tbs:PN K H
def CE(outer:List Env)(P:Program)(w:World)(H:Hp)(s:Shared)(Q:VK)(u:Value)(s':Shared):Prop :=
 ∃v H',s'.os=s.os/\AllBare s'.gens/\Un (PP outer) [] H H' s.heap s'.heap/\PF P w H' s'.heap/\cJ v u/\Q v H'
def CR(CX:Qk)(outer:List Env)(P:Program)(w:World)(H:Hp)(s:Shared)(Q:VK)(E:XK)(r:Result)(s':Shared):Prop :=
 match r with
 |.ok (.ret u)=>CE outer P w H s Q u s'
 |.ok _=>False
 |.error e=>CX outer H s E e s'
structure FnOk (P:Program) (w:World) (K:PySem.W.Frag) (mg:Str->Option Value) (base:Heap) (CX:Qk) (k:Nat) (f:Addr) (fd:FuncData) (ps:List Str) (sp:Sp):Prop where
 len:∀vs H Q E,sp vs H Q E->vs.length=ps.length
 run:∀(A:Around)(outer:List Env)(s:Shared)(H:Hp)(args:Args)(us:List Value)(vs:List V)(Q:VK)(E:XK),td k A->MY P w K mg base A outer s H->BindsTo s fd args (ps.zip us)->ck vs us->sp vs H Q E ->
  codeAny (model P w) A (.call (.ref f) args) (CR CX outer P w H s Q E) s
section
variable{X:Cx}{ab:List (Addr×Obj)}{σ:St}{H:Hp}{s s':Shared}
theorem PU.env0(I:PU X ab σ H s):MY X.prog X.w X.K X.mg X.base X.A X.stack s H :=
 ⟨I.ok.frames,I.ok.mod,I.bs,Ur I.ok.bsz I.sz,I.stack,I.stkFree,I.hok,I.bare,I.tbs⟩
theorem PU.after{Q:VK}{u:Value}(I:PU X ab σ H s)(h:CE X.stack X.prog X.w H s Q u s'):EP X ab σ Q u s':=by obtain⟨v,H',os,bare,un,hok,r,q⟩:=h;obtain⟨hh,g,d,t,os'⟩:=s';obtain rfl:os'=s.os:=os;exact⟨v,H',I.call (h':=hh) (g':=g) (d':=d) (t':=t) (ch:=[]) un hok bare (λb z=>absurd z x_),r,q⟩
end
def yz(K:PySem.W.Frag)(fd:FuncData)(ps:List Str)(ds:List Value):Prop :=
 ∀(s:Shared)(us:List Value),K.In s.heap->(us++ds).length=ps.length->BindsTo s fd ⟨us,[]⟩ (ps.zip (us++ds))
theorem yz.all{K:PySem.W.Frag}{fd:FuncData}{ps:List Str}(h:∀us:List Value,us.length=ps.length->bindArgs fd ⟨us,[]⟩=pure (ps.zip us)):yz K fd ps []:=λs us _ hl=>by rw[List.append_nil]at hl ⊢;exact .of_eq (h us hl)
def Af(CX:Qk)(X:Cx)(E:XK):Prop:=∀(ab:List (Addr×Obj))(σ:St)(H:Hp)(s:Shared)(e:Value)(s':Shared),PU X ab σ H s->CX X.stack H s E e s'->X.xe e s'
section
variable{X:Cx}{CX:Qk}{k:Nat}{f:Addr}{fd:FuncData}{ps:List Str}{sp:Sp}{dvs:List V}{ds:List Value}{E:XK}{e:Expr}
theorem Hw{ab:List (Addr×Obj)}{σ:St}{H:Hp}{s:Shared}{Q:VK}{us:List Value}{vs:List V}(F:FnOk X.prog X.w X.K X.mg X.base CX k f fd ps sp)(hr:td k X.A)(hb:yz X.K fd ps ds)(hd:ck dvs ds)(hx:Af CX X E)
  (I:PU X ab σ H s) (r:ck vs us) (h:sp (vs++dvs) H Q E):wpAny (model X.prog X.w) X.A (call (.ref f) us) (EP X ab σ Q) X.xe s:=by
 have r2:ck (vs++dvs) (us++ds):=r.append hd;have hl:(us++ds).length=ps.length:=by rw[<- r2.length];exact F.len _ _ _ _ h
 refine wpAny_call (codeAny_mono (F.run X.A X.stack s H ⟨us,[]⟩ (us++ds) (vs++dvs) Q E hr I.env0 (hb s us I.kIn hl) r2 h) λr s' hq=>?_)
 cases r with
 |error e=>exact hx ab σ H s e s' I hq
 | ok fl =>
  cases fl with
  |ret u=>exact I.after hq
  |next=>exact False.elim hq
  |brk=>exact False.elim hq
  |cont=>exact False.elim hq
end
structure aB (N P:List Str) (sc:Scope):Prop where
 kind:sc.kind=.function
 co:sc.isCoroutine=false
 gen:sc.isGenerator=false
 nd:N.Nodup
 pre:N.take P.length=P
 par:∀x∈P,sc.names.lookup x=some .local∨sc.names.lookup x=some .cell
 nofree:∀y∈sc.names,y.2≠.free
theorem wx{kindOf:Str->Option NameKind}{x:Str}:∀{binds:List (Str×Value)}{m:Str->Option Value},(∀v,(x,v)∉binds)->bindL kindOf binds m x=m x
 |[],_,_=>rfl
 | (n,v)::r,m,h=>by
  unfold bindL;rw[wx λw hw=>h w (k5 _ hw)];split
  .
   have:x≠n:=by rintro rfl;exact h v tv
   simp[this]
  . rfl
theorem wy{kindOf:Str->Option NameKind}{x:Str}:∀{binds:List (Str×Value)}{m:Str->Option Value},(∀v,(x,v)∉binds)->bindC kindOf binds m x=m x
 |[],_,_=>rfl
 | (n,v)::r,m,h=>by
  unfold bindC;rw[wy λw hw=>h w (k5 _ hw)];split
  . rfl
  .
   have:x≠n:=by rintro rfl;exact h v tv
   simp[this]
theorem wz{kindOf:Str->Option NameKind}{x:Str}{v:Value}:∀{P:List Str}{vs:List Value}{i:Nat}{m:Str->Option Value},P.Nodup->P[i]?=some x->vs[i]?=some v->kindOf x=some .local ->
  bindL kindOf (P.zip vs) m x=some v
 |[],_,_,_,_,h,_,_=>by simp at h
 |_::_,[],_,_,_,_,h,_=>by simp at h
 | p::P,w::vs,0,m,nd,h1,h2,hk=>by simp at h1 h2;subst h1;subst h2;show bindL kindOf ((p,w)::P.zip vs) m p=_;unfold bindL;rw[wx λv hv=>(List.nodup_cons.mp nd).1 (List.of_mem_zip hv).1,if_pos hk];simp
 | p::P,w::vs,i+1,m,nd,h1,h2,hk=>by show bindL kindOf ((p,w)::P.zip vs) m x=_;unfold bindL;exact wz (i:=i) (List.nodup_cons.mp nd).2 (by simpa using h1) (by simpa using h2) hk
theorem wA{kindOf:Str->Option NameKind}{x:Str}{v:Value}:∀{P:List Str}{vs:List Value}{i:Nat}{m:Str->Option Value},P.Nodup->P[i]?=some x->vs[i]?=some v->kindOf x≠some .local ->
  bindC kindOf (P.zip vs) m x=some v
 |[],_,_,_,_,h,_,_=>by simp at h
 |_::_,[],_,_,_,_,h,_=>by simp at h
 | p::P,w::vs,0,m,nd,h1,h2,hk=>by simp at h1 h2;subst h1;subst h2;show bindC kindOf ((p,w)::P.zip vs) m p=_;unfold bindC;rw[wy λv hv=>(List.nodup_cons.mp nd).1 (List.of_mem_zip hv).1,if_neg hk];simp
 | p::P,w::vs,i+1,m,nd,h1,h2,hk=>by show bindC kindOf ((p,w)::P.zip vs) m x=_;unfold bindC;exact wA (i:=i) (List.nodup_cons.mp nd).2 (by simpa using h1) (by simpa using h2) hk
noncomputable def uG(N:List Str)(vs:List V):St:=vs.map some++List.replicate (N.length-vs.length) none
noncomputable def Ii(CX:Qk)(P:Program)(w:World)(K:PySem.W.Frag)(mg:Str->Option Value)(base:Heap)(N:List Str)(qual:Str)(scope:Scope)(f:Addr)(cd:Value)(A:Around)(outer:List Env)(s:Shared)(H:Hp)(E:XK):Cx where
 prog:=P
 w:=w
 K:=K
 mg:=mg
 base:=base
 A:=A.deeper (envOfC qual scope s.heap.objs.size f cd)
 N:=N
 s₀:=s
 H₀:=H
 env:=envOfC qual scope s.heap.objs.size f cd
 outer:=outer
 stack:=envOfC qual scope s.heap.objs.size f cd::outer
 ex:=[]
 calm:=true
 fn:=λ_=>true
 pn:=[]
 xe:=λe s'=>wpAny (model P w) (A.deeper (envOfC qual scope s.heap.objs.size f cd)) (leaving (envOfC qual scope s.heap.objs.size f cd) e) (λ_ s''=>CX outer H s E e s'') (λe' s''=>CX outer H s E e' s'') s'
theorem Ag{sc:Scope}{n:Nat}{x:Str}(h:sc.names.lookup x=some .cell):∃c,(cellsFrom n sc.names []).lookup x=some c:=by have q:=PySem.W.cellsFrom_some sc.names n [] (.inl h);exact Option.isSome_iff_exists.mp q
theorem Cf{CX:Qk}{P:Program}{w:World}{K:PySem.W.Frag}{mg:Str->Option Value}{base:Heap}{N ps:List Str}{qual:Str}{scope:Scope}{f:Addr}{cd:Value}{A:Around}{outer:List Env}{s s1:Shared}{H:Hp}{E:XK}{us:List Value}{vs:List V}
  (S:aB N ps scope) (hd:A.handled=none) (e0:MY P w K mg base A outer s H) (hl:vs.length=ps.length) (r:ck vs us)
  (x:InCallC s s.heap.objs.size (bindL (envOfC qual scope s.heap.objs.size f cd).kindOf (ps.zip us) λ_=>none) (cellsFrom (s.heap.objs.size+1) scope.names []) (bindC (envOfC qual scope s.heap.objs.size f cd).kindOf (ps.zip us) λ_=>none) s1) :
  PU (Ii CX P w K mg base N qual scope f cd A outer s H E) [] (uG N vs) H s1:=by
 have hpl:ps.length<=N.length:=by have:=congrArg List.length S.pre;rw[List.length_take]at this;omega
 obtain⟨h1,tk,rfl,hk⟩:=x.done;have noA:∀b:Addr,b∉(Ii CX P w K mg base N qual scope f cd A outer s H E).ex:=λb z=>absurd (show b∈([]:List Addr)from z) x_
 refine⟨⟨e0.mod,S.kind,rfl,rfl,Uu _,λy z c h1 h2=>?_,λy hy=>?_,λy c _ h=>?_,λ_=>hd,Around.frames_deeper e0.frames,.inr ⟨rfl,rfl⟩,λb z=>absurd z (noA b),e0.bs,e0.bsz,λb _ _=>noA b,λb z=>absurd z (noA b),e0.funs,e0.frf,e0.tbs⟩,
  rfl,e0.bare,Un.kept hk,⟨_,x.toInCall.ns,λi y v h1 h2 h3=>?_⟩,λy c h=>⟨_,x.cell y c h⟩,e0.hok.fresh (Uu _),λy c h=>?_,λp hp=>absurd (show p∈([]:List (Addr×Obj))from hp) x_,e0.hok.kept hk,?_⟩
 . exact name_of_addr x.apart (PySem.mem_of_lookup h1) (PySem.mem_of_lookup h2)
 .
  have hy:scope.names.lookup y=some .cell∨scope.names.lookup y=some .free:=hy;rcases hy with hy|hy
  . exact Ag hy
  . exact absurd rfl (S.nofree _ (PySem.mem_of_lookup hy))
 . exact Nat.le_of_lt (x.above y c (PySem.mem_of_lookup h))
 .
  have hi:i<vs.length:=by
   unfold uG at h2;by_cases hi:i<vs.length
   . exact hi
   . rw[List.getElem?_append_right (by simpa using hi)]at h2;rw[List.getElem?_replicate]at h2;split at h2<;>cases h2
  have ha:vs[i]?=some v:=by
   unfold uG at h2;rw[List.getElem?_append_left (by simpa using hi),List.getElem?_map]at h2
   cases e:vs[i]? with
   |none=>rw[e]at h2;cases h2
   |some a=>rw[e]at h2;cases h2;rfl
  obtain⟨u,hu,rv⟩:=r.get ha;have hp:ps[i]?=some y:=by rw[<- S.pre,List.getElem?_take_of_lt xL];exact h1
  have ndP:ps.Nodup:=by rw[<- S.pre];exact S.nd.sublist (List.take_sublist _ _)
  refine⟨u,rv,?_⟩;rcases S.par y (List.mem_of_getElem? hp)with k|k
  . exact .inl ⟨k,wz ndP hp hu k⟩
  . obtain⟨c,e⟩:=Ag (n:=s.heap.objs.size+1) k;refine .inr ⟨.inl k,c,e,?_⟩;have q:=x.cell y c e;rw[wA ndP hp hu (by show scope.names.lookup y≠_;rw[k];decide)]at q;exact q
 . exact .inl (e0.hok.fresh (Nat.le_of_lt (x.above y c (PySem.mem_of_lookup h))))
 . unfold uG;show _=N.length;rw[List.length_append,Up,List.length_replicate];omega
theorem NA{CX:Qk}{P:Program}{w:World}{K:PySem.W.Frag}{mg:Str->Option Value}{base:Heap}{k:Nat}{f:Addr}{name qual:Str}{params:Arguments}{body:List Stmt}{scope:Scope}{dV kV doc pm cdv ct oc:Value}{an od:Option Addr}
  {osl:Array (Option Value)} {N ps:List Str} {sp:Sp} (lk:K.lookup f=some ⟨oc,od,.func (PySem.W.fnOf name qual params body scope dV kV doc pm an cdv ct),osl⟩) (hcd:PySem.W.codeIn K cdv qual=true) (S:aB N ps scope)
  (len:∀vs H Q E,sp vs H Q E->vs.length=ps.length)
  (hbody:∀(A:Around)(outer:List Env)(s:Shared)(H:Hp)(vs:List V)(Q:VK)(E:XK),td k (A.deeper (envOfC qual scope s.heap.objs.size f cdv))->sp vs H Q E ->
   ∃t,PV (Ii CX P w K mg base N qual scope f cdv A outer s H E) body t/\t {nx:=λ_ H'=>Q .non H',rt:=Q} (uG N vs) H) :
  FnOk P w K mg base CX (k+1) f (PySem.W.fnOf name qual params body scope dV kV doc pm an cdv ct) ps sp:=by
 refine⟨len,λA outer s H args us vs Q E hr e0 hb r hsp=>?_⟩;have hl:=len _ _ _ _ hsp;have KX:K.In s.heap:=e0.mod.kin.keeps λb o e=>(e0.bs b o e).1;have lim:s.heap.NoLimit:=e0.mod.nolimit.keeps λb o e=>(e0.bs b o e).1
 have hkind:∀y∈ps.zip us,scope.names.lookup y.1=some .local∨(scope.names.lookup y.1=some .cell/\((cellsFrom (s.heap.objs.size+1) scope.names []).lookup y.1).isSome=true):=fun⟨n,v⟩ hy=>by
  rcases S.par n (List.of_mem_zip hy).1 with q|q
  . exact .inl q
  . exact .inr ⟨q,PySem.W.cellsFrom_some _ _ _ (.inl q)⟩
 refine codeAny_call_function hr.depth (KX _ _ lk) rfl S.co S.gen rfl (PySem.W.codeRec_of KX hcd) (hb _ _ _ _ ?_);refine wpAny_newFunctionEnv_cells S.kind hkind λenv he s1 x=>?_;subst he;refine⟨lim.keeps x.toInCall.keep,codeAny_func ?_⟩;obtain⟨t,ht,hq⟩:=hbody A outer s H vs Q E (hr.deeper _) hsp;have I:PU (Ii CX P w K mg base N qual scope f cdv A outer s H E) [] (uG N vs) H s1:=Cf S hr.hd e0 hl r x;refine wpAny_mono (ht [] s1 (uG N vs) H _ I hq) (λfl s' hs=>?_) λe s' hs=>hs
 have PZ:∀{σ':St}{H':Hp}{v:V}{u:Value},PU (Ii CX P w K mg base N qual scope f cdv A outer s H E) [] σ' H' s'->cJ v u->Q v H'->CE outer P w H s Q u s' :=
  λ{σ' H' v u} J rv q=>⟨v,H',J.os,J.bare,J.base,J.hok,rv,q⟩
 cases fl with
 | ret u =>
  obtain⟨v,σ',H',J,rv,q⟩:=hs;exact PZ J rv q
 | next =>
  obtain⟨σ',H',J,q⟩:=hs;exact PZ (v:=V.non) (u:=Value.none) J rfl q
 | brk =>
  obtain⟨_,_,_,q⟩:=hs;exact False.elim q
 | cont =>
  obtain⟨_,_,_,q⟩:=hs;exact False.elim q
section
variable{X:Cx}{x:Str}{p pos:Pos}{e:Expr}{es:List Expr}{t:TA}{id:String}{r:List V->Hp->VK->Prop}
def Ql(r:List V->Hp->VK->Prop)(t:TA):TE:=λσ H Q=>t σ H λvs H1=>r vs H1 Q
theorem Ah(hc:iX X (.builtin id) r)(hg:Gl X x)(hm:X.mg x=none)(hv:bootBuiltins x=some (.builtin id))(ha:PA X (e::es) t) (hn:x≠"__name__":=by decide) (hdb:(x == ("__debug__" : Str))=false:=by decide)
  (he:starEach (e::es) X.env=(false,eval e X.env)::starEach es X.env:=by rfl) (hpl:(backTo pos (starEach es X.env)).any (·.1)=false:=by rfl):PE X (.Call (.Name x p) (e::es) [] pos) (Ql r t):=by
 intro ab s σ H Q I h;refine wpAny_Call_Name_kw (iQ I hg hm hv ?_ hn hdb);exact PyProof.Rows.callWith_builtin1 (PX (ha pos ab s σ H _ I h) λus s1 ⟨vs,H1,I1,r1,q1⟩=>hc ab s1 σ H1 vs us Q I1 r1 q1) he hpl
end
end L2
namespace HT
open PySem PyProof.Rows
section
variable{prog:Program}{w:World}{A:Around}{E:Value->Shared->Prop}{s:Shared}
noncomputable def sIx(n d:Nat):Option Int->Nat
 |none=>d
 |some v=>if v<0 then(v+(n:Int)).toNat else min v.toNat n
theorem Lc(n d:Nat)(hd:d<=n)(o:Option Int):sIx n d o<=n:=by
 cases o with
 |none=>exact hd
 | some v =>
  show(if v<0 then(v+(n:Int)).toNat else min v.toNat n)<=n
  by_cases hv:v<0
  . rw[if_pos hv];omega
  . rw[if_neg hv];exact Nat.min_le_right _ _
theorem Cg(v:Int)(n d:Nat):(if v<0 then max (v+(n:Int)) 0 else min v (n:Int))=((sIx n d (some v):Nat):Int):=by
 show(if v<0 then max (v+(n:Int)) 0 else min v (n:Int))=(((if v<0 then(v+(n:Int)).toNat else min v.toNat n):Nat):Int)
 by_cases hv:v<0
 . simp only[if_pos hv];omega
 . simp only[if_neg hv];omega
theorem A6(lo hi:Option Int)(n:Nat):Builtin.Slice.sliceAdjust lo hi 1 (n:Int)=(((sIx n 0 lo:Nat):Int),((sIx n n hi:Nat):Int)):=by
 have h1:¬((1:Int)<0):=by omega
 unfold Builtin.Slice.sliceAdjust;simp only[h1,if_false];refine Prod.ext ?_ ?_
 .
  cases lo with
  |none=>rfl
  |some v=>exact Cg v n 0
 .
  cases hi with
  |none=>rfl
  |some v=>exact Cg v n n
theorem A7(i j:Nat):Builtin.Slice.slicePlaces (i:Int) (j:Int) 1=j-i:=by
 unfold Builtin.Slice.slicePlaces;have h1:(1:Int) > 0:=by omega
 simp only[h1,if_true,Int.ediv_one];split<;>omega
theorem t5{v:Value}{o:Option Int}{Q:Option Int->Shared->Prop}(p:IsPart v o)(h:Q o s):wpAny (model prog w) A (Builtin.Slice.slicePartIndex v) Q E s:=by
 cases p with
 |none=>exact slicePart_none h
 |int i t=>exact slicePart_int h
theorem pZ{sl:Addr}{vl vu:Value}{lo hi:Option Int}{n:Nat}{Q:Int×Int×Nat->Shared->Prop}(hs:s.heap.IsSliceOf sl vl vu .none)(pl:IsPart vl lo)(pu:IsPart vu hi)
  (h:Q (((sIx n 0 lo:Nat):Int),1,sIx n n hi-sIx n 0 lo) s):wpAny (model prog w) A (Builtin.Slice.sliceApplied (.ref sl) (pure (n:Int))) Q E s:=by
 obtain⟨os,hos,hcs,hds⟩:=id hs;unfold Builtin.Slice.sliceApplied Builtin.Slice.sliceFields;refine kS (kS (wpAny_field hos hds (x:=vl) rfl (kS (wpAny_field hos hds (x:=vu) rfl (kS (wpAny_field hos hds (x:=.none) rfl (Uw ?_)))))));refine kS (slicePart_none ?_)
 show wpAny _ _ (if((1:Int) == 0)=true then _ else _) _ _ s
 rw[if_neg (by decide)];refine kS (t5 pl (kS (t5 pu (kS (Uw ?_)))))
 show wpAny _ _ (match Builtin.Slice.sliceAdjust lo hi 1 (n:Int)with|(lo,hi)=>pure (lo,(1:Int),Builtin.Slice.slicePlaces lo hi 1)) _ _ s
 rw[A6 lo hi n];show wpAny _ _ (pure (((sIx n 0 lo:Nat):Int),(1:Int),Builtin.Slice.slicePlaces ((sIx n 0 lo:Nat):Int) ((sIx n n hi:Nat):Int) 1)) _ _ s;rw[A7];exact Uw h
theorem Fp(xs:Array Value)(i k:Nat):((List.range k).filterMap λ(m:Nat)=>xs[((i:Int)+(m:Int)*1).toNat]?).toArray=((xs.toList.drop i).take k).toArray:=by
 have e:(λ(m:Nat)=>xs[((i:Int)+(m:Int)*1).toNat]?)=λm=>xs[i+m]?:=by
  funext m
  have:((i:Int)+(m:Int)*1).toNat=i+m:=by omega
  rw[this]
 rw[e];have:=pick_run xs i k;rw[List.filterMap_map]at this;have e2:((λx=>xs[x]?) ∘ λx=>i+x)=λm=>xs[i+m]?:=rfl;rw[e2]at this;rw[this]
theorem getItem_tuple_cut{t sl:Addr}{items:Array Value}{vl vu:Value}{lo hi:Option Int}{Q:Value->Shared->Prop}(ht:IsTup s.heap t items)(hs:s.heap.IsSliceOf sl vl vu .none)(pl:IsPart vl lo)(pu:IsPart vu hi)
  (hw:¬(sIx items.size 0 lo=0/\sIx items.size items.size hi=items.size))
  (h:Q (.ref s.heap.objs.size) {s with heap:=s.heap.push {cls:=.type "tuple",data:=.seq ((items.toList.drop (sIx items.size 0 lo)).take (sIx items.size items.size hi-sIx items.size 0 lo)).toArray} })
  (hsz:items.size<=sizeLine):wpAny (model prog w) A (getItem (.ref t) (.ref sl)) Q E s:=by
 have htake:sizeOk (.seq ((items.toList.drop (sIx items.size 0 lo)).take (sIx items.size items.size hi-sIx items.size 0 lo)).toArray):=by show((items.toList.drop (sIx items.size 0 lo)).take (sIx items.size items.size hi-sIx items.size 0 lo)).toArray.size<=sizeLine;rw[List.size_toArray,List.length_take,List.length_drop,Array.length_toList];omega
 have hj:sIx items.size items.size hi<=items.size:=Lc _ _ (Uu _) hi;obtain⟨os,hos,hcs,hds⟩:=id hs;have hTs:s.TypeIs (.ref sl) "slice":=⟨os,hos,hcs⟩;unfold getItem
 try with_reducible refine wpAny_holding ?_
 first|refine kS (Uw ?_)|skip
 refine kS (wpAny_sequenceKey ht.typeIs xp ?_)
 refine kS (wpAny_callSpecial?_slot (name:=Str.ofString "__getitem__") ht.typeIs PyProof.Rows.slot_tuple_getitem
  (wpAny_call_entry PyProof.Rows.slot_tuple_getitem ht.typeIs entry_tuple_getitem ?_ (args_tuple_getitem _ _)))
 show wpAny _ _ (Builtin.Tuple.tupleItemsOf (.ref t) >>= _) _ _ s;refine kS (tupleItemsOf_ ht ?_);refine kS (wpAny_typeOf hTs ?_);rw[if_pos (by decide)];refine kS (pZ hs pl pu ?_);have hno:¬((((sIx items.size 0 lo:Nat):Int) == 0 && (1:Int) == 1 && (sIx items.size items.size hi-sIx items.size 0 lo) == items.size)=true):=by intro q;rw[Bool.and_eq_true,Bool.and_eq_true]at q;have q1:((sIx items.size 0 lo:Nat):Int)=0:=eq_of_beq q.1.1;have q2:sIx items.size items.size hi-sIx items.size 0 lo=items.size:=eq_of_beq q.2;exact hw ⟨xL,xL⟩
 show wpAny _ _ (if(((sIx items.size 0 lo:Nat):Int) == 0 && (1:Int) == 1 && (sIx items.size items.size hi-sIx items.size 0 lo) == items.size)=true then _ else _) _ _ s
 rw[if_neg hno,Fp]
 first
  |exact kS (m:=Builtin.Tuple.tupleExact _) (wpAny_newObj_type (Uw ⟨_,rfl,Uw h⟩) htake)
  |exact kS (m:=Builtin.Tuple.tupleExact _) (wpAny_newObj_type (kS (Uw (Uw ⟨_,rfl,Uw h⟩))) htake)
  |exact kS (kS (m:=Builtin.Tuple.tupleExact _) (wpAny_newObj_type (Uw (Uw ⟨_,rfl,Uw h⟩)) htake))
  |exact kS (kS (m:=Builtin.Tuple.tupleExact _) (wpAny_newObj_type (Uw ⟨_,rfl,Uw h⟩) htake))
end
end HT
namespace L2
open PySem PySem.Spec PyProof.Rows
noncomputable abbrev TO:=St->Hp->(Option Int->Hp->Prop)->Prop
def PO(X:Cx)(e:Option Expr)(t:TO):Prop :=
 ∀(ab:List (Addr×Obj))(s:Shared)(σ:St)(H:Hp)(Q:Option Int->Hp->Prop),PU X ab σ H s->t σ H Q ->
  wpAny (model X.prog X.w) X.A (evalPart e X.env) (λu s'=>∃o H',PU X ab σ H' s'/\IsPart u o/\Q o H') X.xe s
noncomputable def Ij:TO:=λ_ H Q=>Q none H
noncomputable def NB(t:TE):TO:=λσ H Q=>t σ H λx H1=>∃i,x=.int i/\Q (some i) H1
section
variable{X:Cx}{e:Expr}{te:TE}{lo hi:Option Expr}{tl th:TO}{pos p2:Pos}
theorem Ik:PO X none Ij:=by intro ab s σ H Q I h;rw[evalPart_none];exact Uw ⟨none,H,I,.none,h⟩
theorem Il(h:PE X e te):PO X (some e) (NB te):=by intro ab s σ H Q I hw;rw[evalPart_some];refine PX (h ab s σ H _ I hw) λu s1 ⟨x,H1,I1,r1,q1⟩=>?_;obtain⟨i,rfl,q⟩:=q1;obtain⟨t,rfl⟩:=r1;exact⟨some i,H1,I1,.int i t,q⟩
def Qm(X:Cx)(r:V->Option Int->Option Int->Hp->VK->Prop):Prop :=
 ∀(ab:List (Addr×Obj))(s:Shared)(σ:St)(H:Hp)(x:V)(v vl vu:Value)(lo hi:Option Int)(sl:Addr)(Q:VK),PU X ab σ H s->cJ x v->s.heap.IsSliceOf sl vl vu .none->IsPart vl lo->IsPart vu hi->r x lo hi H Q ->
  ∃ T id,typeLookup (.type T) "__getitem__"=pure (some (.builtin id))/\s.TypeIs v T/\wpAny (model X.prog X.w) X.A (getItem v (.ref sl)) (EP X ab σ Q) X.xe s
theorem Qm.or{r r':V->Option Int->Option Int->Hp->VK->Prop}(h:Qm X r)(h':Qm X r'):Qm X (λx lo hi H Q=>r x lo hi H Q∨r' x lo hi H Q):=by
 intro ab s σ H x v vl vu lo hi sl Q I rx hs pl pu q;rcases q with q|q
 . exact h ab s σ H x v vl vu lo hi sl Q I rx hs pl pu q
 . exact h' ab s σ H x v vl vu lo hi sl Q I rx hs pl pu q
def Qn(r:V->Option Int->Option Int->Hp->VK->Prop)(te:TE)(tl th:TO):TE:=λσ H Q=>te σ H λx H1=>tl σ H1 λl H2=>th σ H2 λu H3=>r x l u H3 Q
theorem Fq{r:V->Option Int->Option Int->Hp->VK->Prop}(hr:Qm X r)(he:PE X e te)(hl:PO X lo tl)(hu:PO X hi th):PE X (.Subscript e (.Slice lo hi none p2) pos) (Qn r te tl th):=by intro ab s σ H Q I h;refine Subscript_ (PX (he ab s σ H _ I h) λv s1 ⟨x,H1,I1,r1,q1⟩=>?_);refine wpAny_Slice (PX (hl ab s1 σ H1 _ I1 q1) λvl s2 ⟨l,H2,I2,pl,q2⟩=>PX (hu ab s2 σ H2 _ I2 q2) λvu s3 ⟨u,H3,I3,pu,q3⟩=>?_);rw[evalPart_none];refine Uw ?_;have I4:PU X ab σ H3 {s3 with heap:=s3.heap.push {cls:=.type "slice",data:=.fields #[vl,vu,.none] } }:=I3.kept (t':=s3.toks) λb ob q=>p4 _ q;obtain⟨T,id,hT,ht,hg⟩:=hr ab {s3 with heap:=s3.heap.push {cls:=.type "slice",data:=.fields #[vl,vu,.none] } } σ H3 x v vl vu l u s3.heap.objs.size Q I4 r1 (Heap.IsSliceOf.new ..) pl pu q3;show wpAny (model X.prog X.w) X.A (subscriptTail e (.Slice lo hi none p2) v (.ref s3.heap.objs.size)) (EP X ab σ Q) X.xe {s3 with heap:=s3.heap.push {cls:=.type "slice",data:=.fields #[vl,vu,.none] } };exact tail_any (ops:=[.ref s3.heap.objs.size,v]) ht hT hg (by with_unfolding_all rfl)
noncomputable def Hx(xs:List V)(lo hi:Option Int):List V:=(xs.drop (HT.sIx xs.length 0 lo)).take (HT.sIx xs.length xs.length hi-HT.sIx xs.length 0 lo)
theorem qG(xs:List V)(lo hi:Option Int):(Hx xs lo hi).length<=xs.length:=by unfold Hx;rw[List.length_take,List.length_drop];omega
def O6(K:PySem.W.Frag):V->Option Int->Option Int->Hp->VK->Prop:=λx lo hi H Q=>∃a xs,x=.ref a/\P1 K H a xs /\
 ¬(HT.sIx xs.length 0 lo=0/\HT.sIx xs.length xs.length hi=xs.length)/\∀p,H p=none->Q (.ref p) (PD H p (.tup (Hx xs lo hi)))
theorem Ld:Qm X (O6 X.K):=by
 intro ab s σ H x v vl vu lo hi sl Q I rx hs pl pu h;obtain⟨a,xs,rfl,hx,hw,q⟩:=h;cases rx;obtain⟨its,r,ht,hz⟩:=I.tuple hx;have fI:its.toArray.size=xs.length:=by rw[List.size_toArray];exact r.length.symm
 refine⟨"tuple",_,PyProof.Rows.slot_tuple_getitem.lookup,ht.typeIs,?_⟩;refine HT.getItem_tuple_cut ht hs pl pu (by rw[fI];exact hw) ?_ (by rw[fI];exact hz);rw[fI];refine⟨.ref s.heap.objs.size,_,I.laid (t':=s.toks) (o:=.tup (Hx xs lo hi)) (λb ob q=>p4 _ q) (Uu _) ?_,rfl,q _ (I.hok.fresh (Uu _))⟩;exact⟨Ur (qG xs lo hi) hz,_,(r.drop (HT.sIx xs.length 0 lo)).take (HT.sIx xs.length xs.length hi-HT.sIx xs.length 0 lo),IsTup.new _ _⟩
end
noncomputable def Qo(n:Nat)(i:Int):Option Nat:=if 0<=i then(if i<n then some i.toNat else none)else if -(n:Int)<=i then some (i+n).toNat else none
noncomputable def Qp{α:Type}(xs:List α)(i:Int):Option α:=(Qo xs.length i).bind λj=>xs[j]?
theorem Ci{n:Nat}{i:Int}{j:Nat}(h:Qo n i=some j):seqIndex? i n=some j/\j<n/\-(n:Int)<=i/\i<n:=by
 unfold Qo at h;by_cases h0:0<=i
 .
  rw[if_pos h0]at h;by_cases h1:i<n
  . rw[if_pos h1]at h;have e:i.toNat=j:=Option.some.inj h;exact⟨by rw[seqIndex_of h0 h1,e],xL,xL,h1⟩
  . rw[if_neg h1]at h;cases h
 .
  rw[if_neg h0]at h;by_cases h1 : -(n:Int)<=i
  . rw[if_pos h1]at h;have e:(i+n).toNat=j:=Option.some.inj h;exact⟨by rw[seqIndex_neg xL h1,e],xL,h1,xL⟩
  . rw[if_neg h1]at h;cases h
theorem yA{α:Type}{xs:List α}{i:Int}{v:α}(h:Qp xs i=some v):∃j,seqIndex? i xs.length=some j/\xs[j]?=some v/\j<xs.length/\-(xs.length:Int)<=i/\i<xs.length:=by
 unfold Qp at h
 cases e:Qo xs.length i with
 |none=>rw[e]at h;cases h
 | some j =>
  rw[e]at h;obtain⟨h1,h2,h3,h4⟩:=Ci e;exact⟨j,h1,h,h2,h3,h4⟩
theorem eW{α:Type}{xs:List α}{j:Nat}{v:α}(h:xs[j]?=some v):Qp xs (j:Int)=some v:=by
 have hj:j<xs.length:=(k4.mp h).1;have e:Qo xs.length (j:Int)=some j:=by unfold Qo;rw[if_pos (by omega),if_pos (by omega)];simp
 unfold Qp;rw[e];exact h
def uH(b:Expr):Prop:=∀o i,subscripted b false o i=operate [o,i] (getItem o i)
def Qq(X:Cx)(r:R2):Prop :=
 ∀(value slice:Expr)(ab:List (Addr×Obj))(s:Shared)(σ:St)(H:Hp)(x y:V)(v u:Value)(Q:VK),PU X ab σ H s->cJ x v->cJ y u->r x y H Q ->
  subscripted slice false v u=operate [v,u] (getItem v u)->wpAny (model X.prog X.w) X.A (subscriptTail value slice v u) (EP X ab σ Q) X.xe s
def Qr(X:Cx)(id:String)(r:V->List V->Hp->VK->Prop):Prop :=
 ∀(ab:List (Addr×Obj))(s:Shared)(σ:St)(H:Hp)(x:V)(xs:List V)(v:Value)(us:List Value)(Q:VK),PU X ab σ H s->cJ x v->ck xs us->r x xs H Q ->
  wpAny (model X.prog X.w) X.A (call (.builtin id) (v::us)) (EP X ab σ Q) X.xe s
section
variable{X:Cx}{a b:Expr}{ta tb:TE}{pos:Pos}
theorem Im{r:R2}(hr:Qq X r)(ha:PE X a ta)(hb:PE X b tb)(hs:uH b):PE X (.Subscript a b pos) (Qf r ta tb):=by intro ab s σ H Q I h;exact Subscript_ (Os ha hb I h λv u s2 x y H2 I2 rx ry q=>hr a b ab s2 σ H2 x y v u Q I2 rx ry q (hs _ _))
def O7(K:PySem.W.Frag):R2:=λx y H Q=>∃p xs i v,x=.ref p/\y=.int i/\P0 K H p xs/\Qp xs i=some v/\Q v H
def O8(K:PySem.W.Frag):R2:=λx y H Q=>∃p xs i v,x=.ref p/\y=.int i/\P1 K H p xs/\Qp xs i=some v/\Q v H
def O9:R2:=λx y H Q=>∃z i c,x=.str z/\y=.int i/\z.length<=sizeLine/\Qp z.cps.toList i=some c/\Q (.str ⟨#[c]⟩) H
theorem yB:Qq X (O7 X.K):=by
 intro value slice ab s σ H x y v u Q I rx ry h hs;obtain⟨p,xs,i,z,rfl,rfl,hq,he,q⟩:=h;cases rx;obtain⟨t,rfl⟩:=ry;obtain⟨its,r,pl,hz⟩:=I.list hq;obtain⟨j,h1,h2,h3,h4,h5⟩:=yA he;obtain⟨w,ew,rw'⟩:=r.get h2;have hl:=r.length;have hn:=qF;have PZ:EP X ab σ Q w s:=⟨z,H,I,rw',q⟩;by_cases h0:0<=i
 .
  have hj:i.toNat=j:=by rw[seqIndex_of h0 h5]at h1;exact Option.some.inj h1
  exact item_listR pl.isList h0 xL (by rw[hj];simpa using ew) PZ hs
 .
  have hj:(i+(its.toArray.size:Int)).toNat=j:=by rw[seqIndex_neg xL h4]at h1;rw[List.size_toArray,<- hl];exact Option.some.inj h1
  exact subscriptTail_builtinR (x:=w) pl.isList.typeIs slot_list_getitem.lookup
   (wpAny_getItem_list_neg (Q:=λr s'=>r=w/\EP X ab σ Q r s') pl.isList xL (by rw[List.size_toArray]<;>omega) xL (by rw[hj];simpa using ew) ⟨rfl,PZ⟩) hs
theorem Cj:Qq X (O8 X.K):=by
 intro value slice ab s σ H x y v u Q I rx ry h hs;obtain⟨p,xs,i,z,rfl,rfl,hq,he,q⟩:=h;cases rx;obtain⟨t,rfl⟩:=ry;obtain⟨its,r,pl,hz⟩:=I.tuple hq;obtain⟨j,h1,h2,h3,h4,h5⟩:=yA he;obtain⟨w,ew,rw'⟩:=r.get h2;have hl:=r.length;have hn:=qF;have PZ:EP X ab σ Q w s:=⟨z,H,I,rw',q⟩
 exact subscriptTail_builtinR (x:=w) pl.typeIs slot_tuple_getitem.lookup
  (getItem_tuple (j:=j) (Q:=λr s'=>r=w/\EP X ab σ Q r s') pl xL xL (by rw[List.size_toArray,<- hl];exact h1) (by simpa using ew) ⟨rfl,PZ⟩) hs
theorem Le:Qq X O9:=by
 intro value slice ab s σ H x y v u Q I rx ry h hs;obtain⟨z,i,c,rfl,rfl,hz,he,q⟩:=h;obtain⟨t,rfl⟩:=rx;obtain⟨t',rfl⟩:=ry;obtain⟨j,h1,h2,h3,h4,h5⟩:=yA he;have hl:z.cps.toList.length=z.length:=by simp[Str.length]
 rw[hl]at h1 h4 h5;have hn:=qF
 exact tail_any (typeIs_str s z t) slot_str_getitem.lookup (getItem_str (c:=c) (by
  have e1:decide (i < -(2^63:Int))=false:=decide_eq_false xL;have e2:decide (i≥2^63)=false:=decide_eq_false xL
  rw[e1,e2,Bool.or_false]) (by rw[h1];simpa using h2) ⟨.str ⟨#[c]⟩,H,I.tok _,⟨_,rfl⟩,q⟩) hs
theorem A8(its:List Value)(n j:Nat)(u:Value):Obj.mapSeq (·.setIfInBounds j u) {cls:=.type "list",data:=.seq its.toArray n}={cls:=.type "list",data:=.seq (its.set j u).toArray n}:=by simp[Obj.mapSeq]
theorem PU.lst{ab:List (Addr×Obj)}{σ:St}{H:Hp}{s:Shared}{p:Addr}{xs:List V}(I:PU X ab σ H s)(h:H p=some (.lst xs)) :
  ∃(its:List Value)(n:Nat),ck xs its/\s.heap.get? p=some {cls:=.type "list",data:=.seq its.toArray n}/\xs.length<=sizeLine:=by
 obtain⟨z,its,n,r,e⟩:=I.hok p _ h;exact⟨its,n,r,e,z⟩
theorem PU.lstUpd{ab:List (Addr×Obj)}{σ:St}{H:Hp}{s:Shared}{p:Addr}{xs ys:List V}{its its':List Value}{n n':Nat}{f:Obj->Obj}(I:PU X ab σ H s)(h:H p=some (.lst xs))
  (ho:s.heap.get? p=some {cls:=.type "list",data:=.seq its.toArray n}) (hf:f {cls:=.type "list",data:=.seq its.toArray n}={cls:=.type "list",data:=.seq its'.toArray n' }) (r:ck ys its') (hz:ys.length<=sizeLine) (t:Nat) :
  PU X ab σ (PD H p (.lst ys)) {s with heap:=s.heap.update p f,toks:=t}:=by
 have e:(s.heap.update p f).get? p=some {cls:=.type "list",data:=.seq its'.toArray n' }:=by rw[Heap.get?_update_self f ho (by rw[hf]<;>rfl),hf]
 refine I.write (x:=p) (e:=p) (by rw[h];trivial) (.inl rfl) (λb u hb q=>(Heap.get?_update_other _ _ (Ne.symm hb)).trans q) ⟨_,e⟩ ?_;exact⟨hz,its',n',r,e⟩
def NC:V->V->V->Hp->(Hp->Prop)->Prop:=λo i v H Q=>∃p xs k j,o=.ref p/\i=.int k/\H p=some (.lst xs)/\Qo xs.length k=some j/\Q (PD H p (.lst (xs.set j v)))
theorem Fs:Oq X NC:=by
 intro ab s σ H o i v ov iv u Q I ro ri rv h;obtain⟨p,xs,k,j,rfl,rfl,hp,hj,q⟩:=h;cases ro;obtain⟨t,rfl⟩:=ri;obtain⟨its,n,r,ho,hz⟩:=I.lst hp;obtain⟨h1,h2,h3,h4⟩:=Ci hj;have hl:=r.length;have hn:=qF
 have I':PU X ab σ (PD H p (.lst (xs.set j v))) {s with heap:=s.heap.update p (Obj.mapSeq (·.setIfInBounds j u)) } :=
  I.lstUpd hp ho (A8 its n j u) (r.set rv j) (by rw[List.length_set];exact hz) s.toks
 by_cases h0:0<=k
 .
  have hk:k.toNat=j:=by rw[seqIndex_of h0 h4]at h1;exact Option.some.inj h1
  exact PySem.W.ki_setAt ho h0 xL (by rw[List.size_toArray,<- hl];exact h4) (by rw[hk];exact⟨_,I',q⟩)
 .
  have hk:(k+(its.toArray.size:Int)).toNat=j:=by rw[seqIndex_neg xL h3]at h1;rw[List.size_toArray,<- hl];exact Option.some.inj h1
  exact PySem.W.ki_setBack ho xL (by rw[List.size_toArray,<- hl];exact h3) xL (by rw[hk];exact⟨_,I',q⟩)
theorem wB(lo hi:Option Int)(n:Nat):(sliceBounds lo hi none n).1=((HT.sIx n 0 lo:Nat):Int)/\(sliceBounds lo hi none n).2.1=((HT.sIx n n hi:Nat):Int)/\(sliceBounds lo hi none n).2.2=1:=by
 refine⟨?_,?_,rfl⟩
 .
  cases lo with
  |none=>simp[sliceBounds,HT.sIx]
  | some i =>
   simp only[sliceBounds,HT.sIx,Option.getD_none,show(1:Int) > 0 by decide,if_true];by_cases h:i<0
   . simp only[h,if_true]<;>omega
   . simp only[h,if_false]<;>omega
 .
  cases hi with
  |none=>simp[sliceBounds,HT.sIx]
  | some i =>
   simp only[sliceBounds,HT.sIx,Option.getD_none,show(1:Int) > 0 by decide,if_true];by_cases h:i<0
   . simp only[h,if_true]<;>omega
   . simp only[h,if_false]<;>omega
theorem uI(its:List Value)(lo hi:Option Int):slicePick its.toArray lo hi none=((its.drop (HT.sIx its.length 0 lo)).take (HT.sIx its.length its.length hi-HT.sIx its.length 0 lo)).toArray:=by obtain⟨h1,h2,h3⟩:=wB lo hi its.toArray.size;unfold slicePick;rw[h1,h2,h3];simp only[sliceRange_one,pick_run,List.size_toArray]<;>rfl
def Pa(K:PySem.W.Frag):V->Option Int->Option Int->Hp->VK->Prop:=λx lo hi H Q=>∃a xs,x=.ref a/\P0 K H a xs/\∀p,H p=none->Q (.ref p) (PD H p (.lst (Hx xs lo hi)))
theorem Io:Qm X (Pa X.K):=by intro ab s σ H x v vl vu lo hi sl Q I rx hs pl pu h;obtain⟨a,xs,rfl,hx,q⟩:=h;cases rx;obtain⟨its,r,ht,hz⟩:=I.list hx;have fI:=r.length;refine⟨"list",_,slot_list_getitem.lookup,ht.isList.typeIs,?_⟩;refine wpAny_getItem_list_slice ht.isList hs pl pu .none x_ ?_ (by rw[List.size_toArray]<;>omega);rw[uI,<- fI];refine⟨.ref s.heap.objs.size,_,I.laid (t':=s.toks) (o:=.lst (Hx xs lo hi)) (λb ob q=>p4 _ q) (Uu _) ?_,rfl,q _ (I.hok.fresh (Uu _))⟩;exact⟨Ur (qG xs lo hi) hz,_,0,(r.drop (HT.sIx xs.length 0 lo)).take (HT.sIx xs.length xs.length hi-HT.sIx xs.length 0 lo),Heap.get?_push_size _ rfl⟩
noncomputable def tj:V->Bool
 |.non=>true
 |.bl _=>true
 |.int _=>true
 |.str _=>true
 |_=>false
noncomputable def Qs:V->V->Bool
 |.non,.non=>true
 |.bl a,.bl b=>a == b
 |.bl a,.int b=>(if a then 1 else 0) == b
 |.int a,.bl b=>a == (if b then 1 else 0)
 |.int a,.int b=>a == b
 |.str a,.str b=>a == b
 |_,_=>false
theorem Lf{A:Around}{s:Shared}{y x:V}{u v:Value}(ry:cJ y u)(rx:cJ x v)(fy:tj y=true)(fx:tj x=true):SeqAt.EqAt A s u v (Qs y x):=by
 cases y with
 | non =>
  cases ry
  cases x with
  |non=>cases rx;exact SeqAt.EqAt.same _
  |bl b=>cases rx;exact SeqAt.EqAt.none_bool b
  |int b=>obtain⟨t,rfl⟩:=rx;exact SeqAt.EqAt.none_int b t
  |str b=>obtain⟨t,rfl⟩:=rx;exact SeqAt.EqAt.none_str b t
  |_=>exact absurd (show false=true from fx) Bool.false_ne_true
 | bl a =>
  cases ry
  cases x with
  |non=>cases rx;exact SeqAt.EqAt.bool_none a
  |bl b=>cases rx;exact SeqAt.EqAt.bool_bool a b
  |int b=>obtain⟨t,rfl⟩:=rx;exact SeqAt.EqAt.bool_int a b t
  |str b=>obtain⟨t,rfl⟩:=rx;exact SeqAt.EqAt.bool_str a b t
  |_=>exact absurd (show false=true from fx) Bool.false_ne_true
 | int a =>
  obtain⟨t',rfl⟩:=ry
  cases x with
  |non=>cases rx;exact SeqAt.EqAt.int_none a t'
  |bl b=>cases rx;exact SeqAt.EqAt.int_bool a t' b
  |int b=>obtain⟨t,rfl⟩:=rx;exact SeqAt.EqAt.int_int a t' b t
  |str b=>obtain⟨t,rfl⟩:=rx;exact SeqAt.EqAt.int_str a t' b t
  |_=>exact absurd (show false=true from fx) Bool.false_ne_true
 | str a =>
  obtain⟨t',rfl⟩:=ry
  cases x with
  |non=>cases rx;exact SeqAt.EqAt.str_none a t'
  |bl b=>cases rx;exact SeqAt.EqAt.str_bool a t' b
  |int b=>obtain⟨t,rfl⟩:=rx;exact SeqAt.EqAt.str_int a t' b t
  |str b=>obtain⟨t,rfl⟩:=rx;exact SeqAt.EqAt.str_str a t' b t
  |_=>exact absurd (show false=true from fx) Bool.false_ne_true
 |_=>exact absurd (show false=true from fy) Bool.false_ne_true
noncomputable def Qt(x:V)(u:Value):Bool:=match u with
 |.none=>Qs .non x
 |.bool b=>Qs (.bl b) x
 |.int i _=>Qs (.int i) x
 |.str z _=>Qs (.str z) x
 |_=>false
theorem Hy{x y:V}{u:Value}(r:cJ y u)(f:tj y=true):Qt x u=Qs y x:=by
 cases y with
 |non=>cases r;rfl
 |bl b=>cases r;rfl
 |int i=>obtain⟨t,rfl⟩:=r;rfl
 |str z=>obtain⟨t,rfl⟩:=r;rfl
 |_=>exact absurd (show false=true from f) Bool.false_ne_true
theorem yC{x:V}:∀{xs:List V}{us:List Value},ck xs us->xs.all tj=true->us.any (Qt x)=xs.any λy=>Qs y x
 |_,_,.nil,_=>rfl
 | y::xs,u::us,.cons r t,f=>by rw[List.all_cons,Bool.and_eq_true]at f;rw[List.any_cons,List.any_cons,Hy r f.1,yC t f.2]
theorem uJ{A:Around}{s:Shared}{x:V}{v:Value}(rx:cJ x v)(fx:tj x=true):∀{xs:List V}{us:List Value},ck xs us->xs.all tj=true->∀u∈us,SeqAt.EqAt A s u v (Qt x u)
 |_,_,.nil,_=>λu hu=>by cases hu
 | y::xs,u::us,.cons r t,f=>λu' hu=>by
  rw[List.all_cons,Bool.and_eq_true]at f;rcases Uq.mp hu with rfl|hu
  . rw[Hy r f.1];exact Lf r rx f.1 fx
  . exact uJ rx fx t f.2 u' hu
noncomputable def Qu(x:V)(xs:List V):Bool:=xs.any λy=>Qs y x
def Qv(K:PySem.W.Frag)(neg:Bool):R2:=λx y H Q=>∃p xs,y=.ref p/\(P0 K H p xs∨P1 K H p xs)/\tj x=true/\xs.all tj=true/\Q (.bl (if neg then !Qu x xs else Qu x xs)) H
theorem Ck:Qd X (compareOp .In) (Qv X.K false):=by
 intro ab s σ H x y v u Q I rx ry h;obtain⟨p,xs,rfl,hq,fx,fs,q⟩:=h;cases ry;rcases hq with hq|hq
 . obtain⟨its,r,pl,hz⟩:=I.list hq;refine SeqAt.in_listAt (Qt x) pl.isList (λw hw=>uJ rx fx r fs w (by simpa using hw)) ⟨.bl _,H,I,rfl,?_⟩;rw[show its.toArray.any (Qt x)=its.any (Qt x) by simp,yC r fs];exact q
 . obtain⟨its,r,pl,hz⟩:=I.tuple hq;refine SeqAt.in_tupleAt (Qt x) pl (λw hw=>uJ rx fx r fs w (by simpa using hw)) ⟨.bl _,H,I,rfl,?_⟩;rw[show its.toArray.any (Qt x)=its.any (Qt x) by simp,yC r fs];exact q
theorem o6:iX X (.builtin "len") (λxs H Q=>∃ p ys,xs=[.ref p]/\(P0 X.K H p ys∨P1 X.K H p ys)/\Q (.int ys.length) H):=by
 intro ab s σ H xs us Q I r h;obtain⟨p,ys,rfl,hq,q⟩:=h;obtain⟨u,rfl,rx⟩:=sY r;cases rx;have hn:=qF;rcases hq with hq|hq
 . obtain⟨its,r',pl,hz⟩:=I.list hq;have fI:=r'.length;exact Calls.call_len_list pl.isList (by simp only[List.size_toArray]<;>omega) ⟨.int ys.length,H,I.tok _,⟨s.toks+1,by rw[List.size_toArray,fI]⟩,q⟩
 . obtain⟨its,r',pl,hz⟩:=I.tuple hq;have fI:=r'.length;exact len_tuple pl (by simp only[List.size_toArray]<;>omega) ⟨.int ys.length,H,I.tok _,⟨s.toks+1,by rw[List.size_toArray,fI]⟩,q⟩
theorem wD:iX X (.builtin "len") (λxs H Q=>∃ z,xs=[.str z]/\z.length<=sizeLine/\Q (.int z.length) H):=by intro ab s σ H xs us Q I r h;obtain⟨z,rfl,hz,q⟩:=h;obtain⟨u,rfl,t,rfl⟩:=sY r;have hn:=qF;exact len_str xL ⟨.int z.length,H,I.tok _,⟨_,rfl⟩,q⟩
theorem iX.or{f:Value}{r r':List V->Hp->VK->Prop}(h:iX X f r)(h':iX X f r'):iX X f (λxs H Q=>r xs H Q∨r' xs H Q):=by
 intro ab s σ H xs us Q I rs q;rcases q with q|q
 . exact h ab s σ H xs us Q I rs q
 . exact h' ab s σ H xs us Q I rs q
theorem wF:iX X (.type "list") (λxs H Q=>∃ p ys,xs=[.ref p]/\(P0 X.K H p ys∨P1 X.K H p ys)/\∀ l,H l=none->Q (.ref l) (PD H l (.lst ys))):=by
 intro ab s σ H xs us Q I r h;obtain⟨p,ys,rfl,hq,q⟩:=h;obtain⟨u,rfl,rx⟩:=sY r;cases rx
 have PZ:∀(its:List Value),ck ys its->ys.length<=sizeLine->∀(h':Heap)(c':Nat),(∀b o',s.heap.get? b=some o'->h'.get? b=some o') ->
   h'.get? s.heap.objs.size=some {cls:=.type "list",dict:=none,data:=.seq its.toArray c',slots:=#[] }->EP X ab σ Q (.ref s.heap.objs.size) {s with heap:=h' }:=λits r' hz h' c' kp e =>
  ⟨.ref s.heap.objs.size,_,I.laid (t':=s.toks) kp (Uu _) (show g9 X.prog X.w _ h' _ (.lst ys)from⟨hz,its,c',r',e⟩),rfl,q _ (I.hok.fresh (Uu _))⟩
 rcases hq with hq|hq
 . obtain⟨its,r',pl,hz⟩:=I.list hq;have fI:=r'.length;obtain⟨o,ho,hc,n,hd⟩:=pl.isList;exact call_list_seq p (.inl rfl) ho hc hd (λh' c' kp e=>PZ its r' hz h' c' kp e) (by simp only[List.size_toArray]<;>omega)
 . obtain⟨its,r',pl,hz⟩:=I.tuple hq;have fI:=r'.length;obtain⟨o,ho,hc,n,hd⟩:=pl;exact call_list_seq p (.inr rfl) ho hc hd (λh' c' kp e=>PZ its r' hz h' c' kp e) (by simp only[List.size_toArray]<;>omega)
theorem uK:iX X (.type "tuple") (λxs H Q=>∃ p ys,xs=[.ref p]/\((P0 X.K H p ys/\∀ l,H l=none->Q (.ref l) (PD H l (.tup ys)))∨(P1 X.K H p ys/\Q (.ref p) H))):=by
 intro ab s σ H xs us Q I r h;obtain⟨p,ys,rfl,h⟩:=h;obtain⟨u,rfl,rx⟩:=sY r;cases rx;rcases h with⟨hq,q⟩|⟨hq,q⟩
 .
  obtain⟨its,r',pl,hz⟩:=I.list hq;have fI:=r'.length;refine call_tuple_list pl.isList (λh' kp=>?_) (by simp only[List.size_toArray]<;>omega);have I1:PU X ab σ H {s with heap:=h' }:=I.kept (t':=s.toks) kp
  have I2:PU X ab σ (PD H h'.objs.size (.tup ys)) {s with heap:=h'.push {cls:=.type "tuple",data:=.seq its.toArray} } :=
   I1.laid (t':=s.toks) (λb o e=>p4 _ e) (Uu _) (show g9 X.prog X.w _ _ _ (.tup ys)from⟨hz,its,r',IsTup.new _ _⟩)
  exact⟨.ref h'.objs.size,_,I2,rfl,q _ (I1.hok.fresh (Uu _))⟩
 . obtain⟨its,r',pl,hz⟩:=I.tuple hq;exact call_tuple_same pl ⟨.ref p,H,I,rfl,q⟩
def Qw(K:PySem.W.Frag)(T:String)(x:V)(H:Hp):Prop:=match x with
 |.str _=>T="str"
 |.int _=>T="int"
 | .ref p=>(T="list"/\∃ xs,P0 K H p xs)∨(T="tuple"/\∃ o,K.lookup p=some o/\o.cls=.type "tuple"/\o.dict=none) ∨
   (T="dict"/\((∃ kvs,H p=some (.dK kvs))∨∃ kvs,H p=some (.dT kvs)))∨(T="set"/\∃ S n,H p=some (.set S n))
 |_=>False
theorem Hz{ab:List (Addr×Obj)}{σ:St}{H:Hp}{s:Shared}{T:String}{x:V}{v:Value}(I:PU X ab σ H s)(r:cJ x v)(ty:Qw X.K T x H) :
  s.TypeIs v T/\∀a,v=.ref a->∃ob,s.heap.get? a=some ob/\ob.dict=none:=by
 cases x with
 | str z =>
  obtain⟨t,rfl⟩:=r;cases(show T="str" from ty);exact⟨typeIs_str s z t,λ_ e=>nomatch e⟩
 | int i =>
  obtain⟨t,rfl⟩:=r;cases(show T="int" from ty);exact⟨typeIs_int s i t,λ_ e=>nomatch e⟩
 | ref p =>
  cases r;rcases ty with⟨rfl,xs,hq⟩|⟨rfl,o,hk,hc,hd⟩|⟨rfl,hk⟩|⟨rfl,S,n,hk⟩
  . obtain⟨its,_,pl,_⟩:=I.list hq;refine⟨pl.isList.typeIs,λa e=>?_⟩;cases e;obtain⟨o,n,e,c,hd,_⟩:=pl;exact⟨o,e,hd⟩
  . refine⟨⟨o,I.kIn p o hk,hc⟩,λa e=>?_⟩;cases e;exact⟨o,I.kIn _ o hk,hd⟩
  .
   have z:∃o,s.heap.get? p=some o/\o.ExactDict:=by
    rcases hk with⟨kvs,hk⟩|⟨kvs,hk⟩
    . obtain⟨_,_,_,_,o,_,_,e,ex,_⟩:=I.hok p _ hk;exact⟨o,e,ex⟩
    . obtain⟨_,_,_,_,o,_,_,e,ex,_⟩:=I.hok p _ hk;exact⟨o,e,ex⟩
   obtain⟨o,e,ex⟩:=z;refine⟨⟨o,e,ex.1⟩,λa e2=>?_⟩;cases e2;exact⟨o,e,ex.2.1⟩
  . obtain⟨o,_,_,_,e,ex,_⟩:=I.hok p _ hk;refine⟨⟨o,e,ex.1⟩,λa e2=>?_⟩;cases e2;exact⟨o,e,ex.2.1⟩
 |_=>exact False.elim ty
def Pb(K:PySem.W.Frag)(T:String)(r:V->List V->Hp->VK->Prop)(to:TE):TE:=λσ H Q=>to σ H λx H1=>Qw K T x H1/\r x [] H1 Q
def Qx(K:PySem.W.Frag)(T:String)(r:V->List V->Hp->VK->Prop)(to:TE)(t:TA):TE:=λσ H Q=>to σ H λx H1=>Qw K T x H1/\t σ H1 λxs H2=>r x xs H2 Q
variable{o e:Expr}{es:List Expr}{to:TE}{t:TA}{name:Str}{apos cpos:Pos}{T id:String}{r:V->List V->Hp->VK->Prop}
theorem Lg(pa:PlainAttrs T)(slot:Slot T name id) (hty:typeOf (.builtin id)=pure (.type "method_descriptor")) (hm:Qr X id r) (ho:PE X o to)
  (hbase:attributeBase o name X.env (eval o X.env)=eval o X.env:=by rfl) (hline:(apos.endLine == cpos.line)=true:=by rfl):PE X (.Call (.Attribute o name apos) [] [] cpos) (Pb X.K T r to):=by
 intro ab s σ H Q I h;refine wpAny_Call_method0_late hbase hline (PX (ho ab s σ H _ I h) λv s1 ⟨x,H1,I1,r1,ty,q1⟩=>?_);obtain⟨h1,h2⟩:=Hz I1 r1 ty;exact⟨T,id,pa,slot,hty,h1,h2,Calls.callWith_builtin rfl (PySem.evalArgs_none (hm ab s1 σ H1 x [] v [] Q I1 r1 .nil q1))⟩
theorem Ft(pa:PlainAttrs T)(slot:Slot T name id) (hty:typeOf (.builtin id)=pure (.type "method_descriptor")) (hm:Qr X id r) (ho:PE X o to) (ha:PA X (e::es) t)
  (hbase:attributeBase o name X.env (eval o X.env)=eval o X.env:=by rfl)
  (hfew:((backTo cpos (starEach (e::es) X.env)).all (λx=>!x.1) && (backToKw cpos (keywordEach [] X.env)).all (λx=>x.1.isSome)
   && decide ((e::es).length+([]:List Keyword).length+(if([]:List Keyword).isEmpty then 0 else 1)<30))=true:=by rfl)
  (hline:(apos.endLine == cpos.line)=true:=by rfl) (hs:starEach (e::es) X.env=(false,eval e X.env)::starEach es X.env:=by rfl) (hplain:(backTo cpos (starEach es X.env)).any (·.1)=false:=by rfl) :
  PE X (.Call (.Attribute o name apos) (e::es) [] cpos) (Qx X.K T r to t):=by
 intro ab s σ H Q I h;refine wpAny_Call_method_late hbase hfew hline rfl (PX (ho ab s σ H _ I h) λv s1 ⟨x,H1,I1,r1,ty,q1⟩=>?_);obtain⟨h1,h2⟩:=Hz I1 r1 ty;refine⟨T,id,pa,slot,hty,h1,h2,?_⟩;have hA:=ha cpos ab s1 σ H1 _ I1 q1;rw[hs]at hA ⊢;refine Calls.callWith_builtin (by show(false ||(backTo cpos (starEach es X.env)).any (·.1))=false;rw[hplain]<;>rfl) (Calls.evalArgs_plain ?_);exact PX hA λus s2 ⟨vs,H2,I2,r2,q2⟩=>hm ab s2 σ H2 x vs v us Q I2 r1 r2 q2
/- xs.append(e),list.index on a module's tuple .. are Qr facts of 06m -/
end
def Qy(X:Cx)(id:String)(r:V->List V->Hp->VK->Prop):Prop :=
 ∀(ab:List (Addr×Obj))(s:Shared)(σ:St)(H:Hp)(x:V)(xs:List V)(v:Value)(us:List Value)(Q:VK),PU X ab σ H s->cJ x v->ck xs us->r x xs H Q ->
  wpAny (model X.prog X.w) X.A (call (.builtin id) (v::us)) (EP X ab σ Q) X.xe s
theorem ck.one:∀{x:V}{us:List Value},ck [x] us->∃u,us=[u]/\cJ x u
 |_,_,.cons r .nil=>⟨_,rfl,r⟩
theorem ck.two:∀{x y:V}{us:List Value},ck [x,y] us->∃u v,us=[u,v]/\cJ x u/\cJ y v
 |_,_,_,.cons r (.cons q .nil)=>⟨_,_,rfl,r,q⟩
theorem ck.zero:∀{us:List Value},ck [] us->us=[]
 |_,.nil=>rfl
theorem ck.dropLast{xs:List V}{us:List Value}(h:ck xs us):ck xs.dropLast us.dropLast:=by
 induction h with
 |nil=>exact .nil
 | cons r t ih =>
  cases t with
  |nil=>exact .nil
  |cons q t'=>exact .cons r ih
theorem A9{α:Type}(l:List α):l.eraseIdx (l.length-1)=l.dropLast:=by
 induction l with
 |nil=>rfl
 | cons a r ih =>
  cases r with
  |nil=>rfl
  | cons b r =>
   have e:(a::b::r).length-1=((b::r).length-1)+1:=by have h1:(a::b::r).length=r.length+2:=rfl;have h2:(b::r).length=r.length+1:=rfl;omega
   rw[e,List.eraseIdx_cons_succ,ih]
   all_goals rfl
section
variable{X:Cx}{ab:List (Addr×Obj)}{σ:St}{H:Hp}{s:Shared}{l:Addr}{xs ys:List V}
theorem PU.lset{its its':List Value}{n:Nat}{f:Array Value->Array Value}{t':Nat}(I:PU X ab σ H s)(hH:H l=some (.lst xs))
  (e:s.heap.get? l=some {cls:=.type "list",data:=.seq its.toArray n}) (hf:f its.toArray=its'.toArray) (hv:ck ys its') (hz:ys.length<=sizeLine) :
  PU X ab σ (PD H l (.lst ys)) {s with heap:=s.heap.update l (Obj.mapSeq f),toks:=t' }:=by
 have q:=PySem.IsL.update e f;rw[hf]at q;refine I.write (x:=l) (e:=l) (by rw[hH];exact trivial) (.inl rfl) (λb' u hb hu=>(Heap.get?_update_other s.heap (Obj.mapSeq f) (Ne.symm hb)).trans hu) ⟨_,q⟩ ?_;exact⟨hz,its',_,hv,q⟩
theorem PU.lnew{its:List Value}{t':Nat}(I:PU X ab σ H s)(hv:ck ys its)(hz:ys.length<=sizeLine) :
  PU X ab σ (PD H s.heap.objs.size (.lst ys)) {s with heap:=s.heap.push {cls:=.type "list",data:=.seq its.toArray},toks:=t' } :=
 I.laid (λ_ _ q=>p4 _ q) (Uu _) ⟨hz,its,0,hv,Heap.get?_push_size _ rfl⟩
theorem PU.fresh(I:PU X ab σ H s):H s.heap.objs.size=none:=I.hok.fresh (Uu _)
theorem PU.lstM(I:PU X ab σ H s)(hH:H l=some (.lst xs)):xs.length<=sizeLine/\∃(its:List Value)(n:Nat),ck xs its/\xs.length=its.length/\s.heap.get? l=some {cls:=.type "list",data:=.seq its.toArray n}:=by obtain⟨z,its,n,r,e⟩:=I.hok l _ hH;exact⟨z,its,n,r,r.length,e⟩
theorem Fu{n:Nat}(h:n<=sizeLine):Builtin.List.listTooLong n=false:=by unfold Builtin.List.listTooLong;exact decide_eq_false xL
end
section
variable{X:Cx}
def Ip:V->List V->Hp->VK->Prop:=λx vs H Q=>∃l xs y,x=.ref l/\vs=[y]/\H l=some (.lst xs)/\xs.length<sizeLine/\Q .non (PD H l (.lst (xs++[y])))
theorem mj:Qy X "list.append" Ip:=by intro ab s σ H x vs v us Q I rx rv h;obtain⟨l,xs,y,rfl,rfl,hH,hz,q⟩:=h;cases rx;obtain⟨u,rfl,ru⟩:=rv.one;obtain⟨z,its,n,r,hl,e⟩:=I.lstM hH;refine call_meets F.slot_list_append ⟨_,e,rfl⟩ F.entry_list_append (F.args_list_append_2 _ _) (PySem.list_append l its.toArray n u (by rw[List.size_toArray];omega)) ⟨e,?_⟩;refine⟨.non,_,I.lset (its':=its++[u]) hH e x_ (r.append (.cons ru .nil)) ?_,rfl,q⟩;rw[List.length_append,List.length_singleton];omega
def Iq:V->List V->Hp->VK->Prop:=λx vs H Q=>∃l b xs zs,x=.ref l/\vs=[.ref b]/\H l=some (.lst xs)/\H b=some (.lst zs)/\xs.length+zs.length<=sizeLine/\Q .non (PD H l (.lst (xs++zs)))
theorem Cm:Qy X "list.extend" Iq:=by
 intro ab s σ H x vs v us Q I rx rv h;obtain⟨l,b,xs,zs,rfl,rfl,hH,hB,hz,q⟩:=h;cases rx;obtain⟨u,rfl,ru⟩:=rv.one;cases ru;obtain⟨z,its,n,r,hl,e⟩:=I.lstM hH;obtain⟨z2,its2,n2,r2,hl2,e2⟩:=I.lstM hB;have hsz:its.toArray.size+its2.toArray.size<=sizeLine:=by rw[List.size_toArray,List.size_toArray];omega
 have hlong:¬(!its.toArray.isEmpty && Builtin.List.listTooLong (its.toArray.size+its2.toArray.size))=true:=by rw[Fu hsz,Bool.and_false];exact Bool.false_ne_true
 refine call_meets F.slot_list_extend ⟨_,e,rfl⟩ F.entry_list_extend (F.args_list_extend_2 _ _)
  (AutoSeq1.list_extend_list_list_0 l its.toArray n b its2.toArray n2 hlong (by rw[List.size_toArray];omega) xL) ⟨e,e2,?_⟩
 refine⟨.non,_,I.lset (its':=its++its2) hH e x_ (r.append r2) ?_,rfl,q⟩;rw[List.length_append];omega
def Pc:V->List V->Hp->VK->Prop:=λx vs H Q=>∃l xs y,x=.ref l/\vs=[]/\H l=some (.lst xs)/\xs[xs.length-1]?=some y/\Q y (PD H l (.lst xs.dropLast))
theorem Lh:Qy X "list.pop" Pc:=by
 intro ab s σ H x vs v us Q I rx rv h;obtain⟨l,xs,y,rfl,rfl,hH,hy,q⟩:=h;cases rx;have hus:=rv.zero;subst hus;obtain⟨z,its,n,r,hl,e⟩:=I.lstM hH;obtain⟨u,hu,ru⟩:=r.get hy;have hy':its.toArray[its.toArray.size-1]?=some u:=by show its.toArray[its.length-1]?=some u;rw[<- Array.getElem?_toList,<- hl];exact hu
 refine call_meets F.slot_list_pop ⟨_,e,rfl⟩ F.entry_list_pop (F.args_list_pop_1 _) (MeetsSeq.list_pop_last l its.toArray n u hy' (by rw[List.size_toArray];omega)) ⟨e,?_⟩;refine⟨y,_,I.lset (its':=its.dropLast) hH e ?_ r.dropLast ?_,ru,q⟩
 . show its.toArray.eraseIdxIfInBounds (its.toArray.size-1)=its.dropLast.toArray;rw[List.size_toArray,List.eraseIdxIfInBounds_toArray,A9]
 . rw[List.length_dropLast];omega
end
end L2
namespace Att
open PySem PySem.W PySem.Calls PyProof.Rows
theorem qH{P:Params}{h:Heap}:∀(ns:List Int)(vs:List Value),WellAll P h vs (ns.map WData.int)->IntsAre vs ns:=by
 intro ns
 induction ns with
 | nil =>
  intro vs w;rw[List.map_nil]at w;cases w;exact .nil
 | cons n ns ih =>
  intro vs w;rw[List.map_cons]at w
  cases w with
  | cons a b =>
   cases a;exact .cons _ _ (ih _ b)
theorem Cn{l:OpenLaw}{n:Nat}(hn:l.most=some n){P:Params}{h:Heap}{args:List WData}{vals:List Value}
  (hpre:l.row.toRowW.claim.pre args=true) (hwl:WellAll P h vals args) :
  ∃ a vs ns,vals=[Value.ref a]/\args=[WData.list (ns.map WData.int)]/\h.get? a=some {cls:=.type "list",data:=.seq vs.toArray}/\IntsAre vs ns/\ns.length<=n:=by
 have hsh:WShape.hasAll [] args [.list .int]=true:=(pre_splitW hpre).1;have hc:l.pre.holds [] {args:=args}=true:=(pre_splitW hpre).2;obtain⟨d,r,rfl,h1,h2⟩:=hasAllW_cons hsh;obtain rfl:=hasAllW_nil h2;obtain⟨xs,rfl,h3⟩:=hasW_list h1;obtain⟨ns,rfl⟩:=items_int h3
 have fI:ns.length<=n:=by
  unfold OpenLaw.pre at hc;have h4:(WTm.not (.lt (.lit (.int (n:Int))) (.len (.arg 0)))).holds [] {args:=[.list (ns.map .int)] }=true:=by have h4:=(holds_andW hc).1;rw[hn]at h4;exact h4
  have h5:=condW_of h4 (w_not (w_lt w_lit (w_len_list (w_arg rfl))));rw[Up]at h5;refine Nat.le_of_not_lt λq=>?_;have q':(n:Int)<((ns.length:Nat):Int):=by omega
  first
   |(rw[decide_eq_true q']at h5;exact absurd h5 xp)
   |(simp at h5;omega)
 cases hwl with
 | cons w1 w2 =>
  cases w2
  cases w1 with
  |list ho hall=>exact⟨_,_,ns,rfl,rfl,ho,qH ns _ hall,fI⟩
theorem Co(l:OpenLaw)(args:List WData):l.row.toRowW.claim.post args (.bool true) args=true :=
 postW_of (r:=l.row.toRowW) (X:=(true == true))
  (show WShape.has [] (.bool true) .bool=true by first|rfl|decide|simp[WShape.has,WShape.arms,WShape.armsAll])
  (show(WTm.eq .res (.lit (.bool true))).value [] {args:=args,res:=some (.bool true),after:=args}=some (.bool (true == true))from w_eq_bool (w_res rfl) w_lit) rfl
theorem attach_call{l:OpenLaw}{n:Nat}{q:Program}{loose:List Str}{XP:(Str->Option Value)->Heap->Prop}{YP:World->Heap->Prop}{d:DefRec}
  (hn:l.most=some n) (hdf:d.params.defaults=[])
  (call:∀(w:World)(s₀ s₁:Shared)(mg mb:Str->Option Value)(fa:Addr)(o:Obj)(pm cd doc:Value)(a:Addr)(vs:List Value)(ns:List Int),
   Ground q loose [] XP w s₀ mg mb s₁.heap->YP w s₁.heap ->
   s₁.heap.get? fa=some o->o.data=.func (docDef d.name d.params d.body d.scope pm cd doc)->s₁.heap.CodeRec cd d.name->mg d.name=some (.ref fa) ->
   s₁.heap.get? a=some {cls:=.type "list",data:=.seq vs.toArray}->IntsAre vs ns->ns.length<=n->s₁.gens=#[] ->
   codeAny (model l.prog w) callerA (.call (.ref fa) ⟨[.ref a],[]⟩) (λr s'=>r=.ok (.ret (.bool true))/\OldK s₁.heap s'.heap/\s'.os=s₁.os/\AllBare s'.gens) s₁) :
  WalkO q loose XP YP l.row.toRowW d [] (λf vs=>PySem.call f vs):=by
 intro w s₀ s₁ mg mb G Y fa o pm cd doc dV kV ho hd hcd hD hmg hg args vals as hpre hlay hrd hwl hlo;obtain rfl:dV=.none:=Dflts.none hD hdf;obtain rfl:kV=.none:=Dflts.noKw hD;obtain⟨a,vs,ns,rfl,rfl,hobj,hints,fI⟩:=Cn hn hpre hwl;refine enter_call (codeAny_mono (call w s₀ s₁ mg mb fa o pm cd doc a vs ns G Y ho (fd_plain hd) hcd hmg hobj hints fI hg) λr s' hq=>?_);obtain⟨rfl,h2,h3,h4⟩:=hq;exact⟨.inl ⟨.bool true,.bool true,[],rfl,λ_=>rfl,.bool true,Co l _,λ_=>⟨List.Pairwise.nil,λ_ hm=>(nomatch hm)⟩⟩,h2,h3,h4⟩
section
noncomputable def Ow(h:Heap)(L d:Addr):List (Addr×Obj):=(List.range h.objs.size).filterMap λa=>if a=L∨a=d then none else(h.get? a).map λo=>(a,o)
end
end Att
namespace L2
open PySem PySem.Spec PyProof.Rows
theorem wG:∀{vs:List Value}{ns:List Int},IntsAre vs ns->ck (ns.map V.int) vs
 |_,_,.nil=>.nil
 |_,_,.cons n t h=>.cons ⟨t,rfl⟩ (wG h)
def MZ(H:Hp):Prop:=∀b,H b=none∨(∃o xs,H b=some (.frz o (.lst xs)))∨∃q,H b=some (.tbl q)
noncomputable def d5(K:PySem.W.Frag):List (Addr×Str):=lamNames.filterMap λx=>(PySem.W.tabIn K x).map λp=>(p.2,KU x)
noncomputable def tabsOk(K:PySem.W.Frag):Bool:=decide ((d5 K).map (·.1)).Nodup && (d5 K).all λp=>(K.lookup p.1).isNone
theorem Cq{K:PySem.W.Frag}{P:Addr}{q:Str}(h:(P,q)∈d5 K):∃x∈lamNames,∃c,PySem.W.tabIn K x=some (c,P)/\q=KU x:=by
 obtain⟨x,hx,e⟩:=List.mem_filterMap.mp h
 cases z:PySem.W.tabIn K x with
 |none=>rw[z]at e;cases e
 |some p=>rw[z]at e;cases e;exact⟨x,hx,p.1,z,rfl⟩
theorem km{α β:Type}[BEq α][LawfulBEq α]:∀{l:List (α×β)}{a:α}{b:β},l.lookup a=some b->(a,b)∈l
 |[],_,_,h=>nomatch h
 | (x,y)::r,a,b,h=>by
  rw[List.lookup_cons]at h
  cases hb:a == x with
  |true=>rw[hb]at h;cases h;rw[eq_of_beq hb];exact .head _
  |false=>rw[hb]at h;exact .tail _ (km h)
theorem i4{α β:Type}[BEq α][LawfulBEq α]:∀{l:List (α×β)}{a:α}{b:β},(l.map (·.1)).Nodup->(a,b)∈l->l.lookup a=some b
 |[],_,_,_,h=>nomatch h
 | (x,y)::r,a,b,nd,h=>by
  rw[List.map_cons,List.nodup_cons]at nd;rw[List.lookup_cons];rcases Uq.mp h with e|h
  . cases e;simp
  . have:a≠x:=λz=>nd.1 (z ▸ List.mem_map_of_mem (f:=(·.1)) h);rw[show(a == x)=false from beq_false_of_ne this];exact i4 nd.2 h
theorem Ba{K:PySem.W.Frag}{x:Str}{c P:Addr}(h:PySem.W.tabIn K x=some (c,P)):K.lookup c≠none:=by
 unfold PySem.W.tabIn at h;split at h
 .
  split at h
  .
   split at h
   .
    split at h
    .
     rename_i hco;split at h
     . cases h;intro z;rw[hco]at z;cases z
     . cases h
    . cases h
   . cases h
  . cases h
 . cases h
theorem Fv{P:Program}{w:World}{K:PySem.W.Frag}{mg mb:Str->Option Value}{CX:Qk}{k:Nat}{fa a:Addr}{fd:FuncData}{x:Str}{sp:Sp}{s₁:Shared}{vs:List Value}{ns:List Int}
  (KX:K.In s₁.heap) (hns:s₁.heap.Ns mainGlobals mg) (hb:s₁.heap.Ns builtinsNs mb) (hbb:∀ x:Str,x≠"__name__"->mb x=bootBuiltins x) (hlim:s₁.heap.NoLimit) (hsys:∃ mm,s₁.heap.Ns sysModules mm) (hbm:KS mg s₁.heap) (hto:tabsOk K=true)
  (htb:∀x∈lamNames,∀c P,PySem.W.tabIn K x=some (c,P)->PySem.W.CodeHd s₁.heap c P/\s₁.heap.get? P=some (PySem.W.tabObj #[])) (hg:s₁.gens=#[])
  (ha:s₁.heap.get? a=some {cls:=.type "list",data:=.seq vs.toArray}) (hi:IntsAre vs ns) (hl:ns.length<=sizeLine) (hr:td k callerA)
  (F:∀base:Heap,K.In base->base.Ns mainGlobals mg->FnOk P w K mg base CX k fa fd [x] sp) (hbind:∀(s:Shared)(u:Value),BindsTo s fd ⟨[u],[]⟩ [(x,u)])
  (hsp:∀H:Hp,MZ H->P0 K H a (ns.map V.int)->sp [.ref a] H (λv _=>v=.bl true) λ_ _ _=>False)
  (hCX:∀H e s',CX [] H s₁ (λ_ _ _=>False) e s'->False) :
  codeAny (model P w) callerA (.call (.ref fa) ⟨[.ref a],[]⟩) (λr s'=>r=.ok (.ret (.bool true))/\OldK s₁.heap s'.heap/\s'.os=s₁.os/\AllBare s'.gens) s₁:=by
 have rv:=wG hi;have lenV:=hi.length;obtain⟨nd,kn⟩:=Bool.and_eq_true_iff.mp hto;have nd:=of_decide_eq_true nd;have tabAt:∀{b:Addr}{q:Str},(d5 K).lookup b=some q->PySem.isCodeTable s₁.heap b/\s₁.heap.get? b=some (PySem.W.tabObj #[])/\K.lookup b=none:=λ{b q} e=>by have hm:(b,q)∈d5 K:=km e;obtain⟨x,hx,c,e1,_⟩:=Cq hm;obtain⟨h1,h2⟩:=htb x hx c b e1;refine⟨(h1.tab h2).isCodeTable,h2,?_⟩;have:=List.all_eq_true.mp kn (b,q) hm;simpa using this
 have core:∀H:Hp,MZ H->P0 K H a (ns.map V.int)->PF P w H s₁.heap->(∀b,H b≠none->b=a∨∃q,H b=some (.tbl q)/\(d5 K).lookup b=some q)->(∀b,H b≠none->K.lookup b=none)->PN K H ->
   codeAny (model P w) callerA (.call (.ref fa) ⟨[.ref a],[]⟩) (λr s'=>r=.ok (.ret (.bool true))/\OldK s₁.heap s'.heap/\s'.os=s₁.os/\AllBare s'.gens) s₁:=by
  intro H hO hS hok hA hK hT;have base_of:∀{b:Addr}{o:Obj},s₁.heap.get? b=some o->H b=none->(Fh s₁.heap H).get? b=some o:=λe n=>Fi e n
  have noB:∀{b:Addr}{o:Obj},s₁.heap.get? b=some o->(∀us n,o.data≠.seq us n)->(∀us,o.data≠.fields us)->H b=none:=λ{b o} e d1 d2=>by
   cases q:H b with
   |none=>rfl
   | some u =>
    rcases hA b (by rw[q];simp)with e' | ⟨z,_,e'⟩
    . subst e';rw[ha]at e;cases e;exact absurd rfl (d1 _ _)
    . rw[(tabAt e').2.1]at e;cases e;exact absurd rfl (d2 _)
  have noA:∀{b:Addr}{o:Obj}{es:Array DictEntry}{ep:Nat},s₁.heap.get? b=some o->o.data=.dict es ep->H b=none:=λ{b o es ep} e d =>
   noB e (λus n z=>by rw[d]at z;cases z) λus z=>by rw[d]at z;cases z
  have nsK:∀{b:Addr}{m:Str->Option Value},s₁.heap.Ns b m->(Fh s₁.heap H).Ns b m:=λ{b m} ⟨o,es,ep,e,d,r⟩=>⟨o,es,ep,base_of e (noA e d),d,r⟩
  have hKb:K.In (Fh s₁.heap H):=λb o e=>base_of (KX b o e) (by
   cases q:H b with
   |none=>rfl
   |some u=>rw[hK b (by rw[q];simp)]at e;cases e)
  have hM:Mod K mg (Fh s₁.heap H):=⟨hKb,nsK hns,⟨mb,nsK hb,hbb⟩,let ⟨mc,h1,h2⟩:=hlim;⟨mc,nsK h1,h2⟩,let ⟨mm,h1⟩:=hsys;⟨mm,nsK h1⟩,by
   obtain⟨bm,ob,b1,b2,b3,b4,b5,b6⟩:=hbm
   exact⟨bm,ob,b1,b2,base_of b3 (noB b3 (λus n z=>by rw[b6]at z;cases z) λus z=>by rw[b6]at z;cases z),b4,b5,b6⟩,λx hx c P e=>by
   obtain⟨⟨o,vs,file,tf,flags,tg,Qz,text,tt,e1,r⟩,_⟩:=htb x hx c P e
   exact⟨o,vs,file,tf,flags,tg,Qz,text,tt,base_of e1 (by
    cases q:H c with
    |none=>rfl
    |some u=>exact absurd (hK c (by rw[q];simp)) (Ba e)),r⟩⟩
  have e0:MY P w K mg (Fh s₁.heap H) callerA [] s₁ H:=⟨rfl,hM,λb o e=>HW e,Nat.le_of_eq (B6 _ _),trivial,λb hb=>absurd (show b∈([]:List Addr)from hb) x_,hok,.of_eq hg,hT⟩;refine codeAny_mono ((F _ hKb (nsK hns)).run callerA [] s₁ H ⟨[.ref a],[]⟩ [.ref a] [.ref a] _ _ hr e0 (hbind s₁ (.ref a)) (.cons rfl .nil) (hsp H hO hS)) λr s' h=>?_
  cases r with
  |error e=>exact(hCX H e s' h).elim
  | ok fl =>
   cases fl with
   |next=>exact False.elim h
   |brk=>exact False.elim h
   |cont=>exact False.elim h
   | ret u =>
    obtain⟨v,H',os,bare,un,hok',r',q⟩:=h;have q':v=.bl true:=q;subst q';obtain rfl:u=Value.bool true:=r'
    have PZ:∀b o,s₁.heap.get? b=some o->s'.heap.get? b=some o∨(PySem.isCodeTable s₁.heap b/\o=PySem.W.tabObj #[]/\∃ps,s'.heap.get? b=some (PySem.W.tabObj ps)):=λb o e=>by
     cases q:H b with
     |none=>exact .inl (un.keep b o e q (by intro z;exact absurd (show b∈([]:List Addr)from z) x_) x_)
     | some u =>
      rcases hO b with z|⟨ob,xs,z⟩|⟨t,z⟩
      . rw[q]at z;cases z
      . have z2:=un.frzs b ob _ z;obtain⟨e1,_⟩:=hok b _ z;obtain⟨e2,_⟩:=hok' b _ z2;rw[e]at e1;cases e1;exact .inl e2
      .
       rcases hA b (by rw[q];simp)with e' | ⟨t2,_,e'⟩
       . subst e';obtain⟨ps,e1,_⟩:=hok b _ z;rw[ha]at e1;cases e1
       . obtain⟨ps,e2,_⟩:=hok' b _ (un.tbls b _ z);obtain⟨t1,t2,_⟩:=tabAt e';rw[e]at t2;cases t2;exact .inr ⟨t1,rfl,ps,e2⟩
    refine⟨rfl,⟨λb o e=>?_,λb o e=>?_⟩,os,bare⟩
    .
     rcases PZ b o e with z|⟨t,rfl,ps,z⟩
     . exact .inl z
     . exact .inr (.inl ⟨t,rfl,#[],ps,rfl,by rw[Array.empty_append];exact z⟩)
    .
     rcases PZ b o e with z|⟨t,_,ps,z⟩
     . exact⟨o,z⟩
     . exact⟨_,z⟩
 have tbsOf:∀{H:Hp},(∀b q,(d5 K).lookup b=some q->H b=some (.tbl q))->PN K H:=λ{H} h x hx c P e=>h P _ (i4 nd (List.mem_filterMap.mpr ⟨x,hx,by rw[e];rfl⟩));have okT:∀{H:Hp}{b:Addr}{q:Str},(d5 K).lookup b=some q->g9 P w H s₁.heap b (.tbl q):=λ{H b q} e=>⟨#[],(tabAt e).2.1,trivial,λpos cv z=>by simp[codeAmong]at z⟩;have na:∀q,(d5 K).lookup a≠some q:=λq z=>by have:=(tabAt z).2.1;rw[ha]at this;cases this
 cases hk:K.lookup a with
 | some o =>
  have e:=KX a o hk;rw[ha]at e;cases e;refine core (λb=>((d5 K).lookup b).map .tbl) (λb=>?_) (.inr ⟨_,vs.toArray,_,hk,rfl,rfl,rfl,by rw[List.size_toArray,lenV];exact hl,by simpa using rv⟩) (λb u z=>?_) (λb z=>?_) (λb z=>?_) (tbsOf λb q e=>by show Option.map _ _=_;rw[e];rfl)
  .
   show Option.map HO.tbl ((d5 K).lookup b)=none∨_
   cases q:(d5 K).lookup b with
   |none=>exact .inl rfl
   |some t=>exact .inr (.inr ⟨t,by show Option.map _ _=_;rw[q];rfl⟩)
  .
   have z':Option.map HO.tbl ((d5 K).lookup b)=some u:=z
   cases q:(d5 K).lookup b with
   |none=>rw[q]at z';cases z'
   |some t=>rw[q]at z';cases z';exact okT q
  .
   have z':Option.map HO.tbl ((d5 K).lookup b)≠none:=z
   cases q:(d5 K).lookup b with
   |none=>rw[q]at z';exact absurd rfl z'
   |some t=>exact .inr ⟨t,rfl,rfl⟩
  .
   have z':Option.map HO.tbl ((d5 K).lookup b)≠none:=z
   cases q:(d5 K).lookup b with
   |none=>rw[q]at z';exact absurd rfl z'
   |some t=>exact(tabAt q).2.2
 | none =>
  have at_a:∀ b,(if b=a then some (HO.frz {cls:=.type "list",data:=.seq vs.toArray} (.lst (ns.map V.int)))else((d5 K).lookup b).map .tbl)≠none->b=a∨∃ q,(d5 K).lookup b=some q:=λb z=>by
   by_cases hb:b=a
   . exact .inl hb
   .
    rw[if_neg hb]at z
    cases q:(d5 K).lookup b with
    |none=>rw[q]at z;exact absurd rfl z
    |some t=>exact .inr ⟨t,rfl⟩
  have tabA:∀ b q,(d5 K).lookup b=some q->(if b=a then some (HO.frz {cls:=.type "list",data:=.seq vs.toArray} (.lst (ns.map V.int)))else((d5 K).lookup b).map .tbl)=some (.tbl q):=λb q e=>by rw[if_neg (λ(z:b=a)=>na q (by rw[<- z];exact e)),e];rfl
  refine core (λb=>if b=a then some (.frz {cls:=.type "list",data:=.seq vs.toArray} (.lst (ns.map V.int)))else((d5 K).lookup b).map .tbl) (λb=>?_) (.inl (.inr ⟨{cls:=.type "list",data:=.seq vs.toArray},if_pos rfl⟩)) (λb u z=>?_) (λb z=>?_) (λb z=>?_) (tbsOf λb q e=>tabA b q e)
  .
   by_cases hb:b=a
   . exact .inr (.inl ⟨_,_,if_pos hb⟩)
   .
    cases q:(d5 K).lookup b with
    |none=>exact .inl (by show ite _ _ _=_;rw[if_neg hb,q];rfl)
    |some t=>exact .inr (.inr ⟨t,tabA b t q⟩)
  .
   by_cases hb:b=a
   . have z':=(if_pos hb).symm.trans z;cases z';subst hb;exact⟨ha,by rw[Up];exact hl,vs,_,rv,ha⟩
   .
    have z':=(if_neg hb).symm.trans z
    cases q:(d5 K).lookup b with
    |none=>rw[q]at z';cases z'
    |some t=>rw[q]at z';cases z';exact okT q
  .
   rcases at_a b z with e|⟨q,e⟩
   . exact .inl e
   . exact .inr ⟨q,tabA b q e,e⟩
  .
   rcases at_a b z with e|⟨q,e⟩
   . rw[e];exact hk
   . exact(tabAt e).2.2
theorem walk_of{l:PySem.W.OpenLaw}{n k:Nat}{q:Program}{loose:List Str}{XP:(Str->Option Value)->Heap->Prop}{YP:World->Heap->Prop}{d:DefRec}{K:Params->PySem.W.Frag}{CX:World->Qk}{sp:World->Sp}{x:Str}
  (hn:l.most=some n) (hq:importsNone q=true) (hn2:n<=sizeLine) (hdf:d.params.defaults=[]) (hr:td k callerA)
  (hY:∀(w:World)(h:Heap),YP w h->(K w.params).In h) (hto:∀w:World,tabsOk (K w.params)=true) (hrc:∀(w:World),∀x∈lamNames,PySem.W.tabIn (K w.params) x=none∨((recsOf q).find? λe=>e.name == x).isSome=true)
  (F:∀(w:World)(mg:Str->Option Value)(fa:Addr)(h:Heap),(K w.params).In h->h.Ns mainGlobals mg->mg d.name=some (.ref fa) ->
   ∃fd:FuncData,(∀(s:Shared)(u:Value),BindsTo s fd ⟨[u],[]⟩ [(x,u)]) /\
    ∀base:Heap,(K w.params).In base->base.Ns mainGlobals mg->FnOk l.prog w (K w.params) mg base (CX w) k fa fd [x] (sp w))
  (hsp:∀(w:World)(H:Hp)(a:Addr)(ns:List Int),ns.length<=n->MZ H->P0 (K w.params) H a (ns.map V.int)->sp w [.ref a] H (λv _=>v=.bl true) λ_ _ _=>False)
  (hCX:∀(w:World)(H:Hp)(s:Shared)(e:Value)(s':Shared),CX w [] H s (λ_ _ _=>False) e s'->False) :
  PySem.W.WalkO q loose XP YP l.row.toRowW d [] (λf vs=>PySem.call f vs):=by
 refine Att.attach_call hn hdf λw s₀ s₁ mg mb fa o pm cd doc a vs ns G Y ho hd hcd hmg hobj hints fI hg=>?_;have KX:=hY w _ Y;obtain⟨fd,hb,hF⟩:=F w mg fa _ KX G.T.g hmg
 exact Fv KX G.T.g G.T.b G.T.builtins G.T.nolimit (let ⟨mm,h1,_⟩:=(G.T.seer hq).mods;⟨mm,h1⟩) (let ⟨bm,ob,b1,b2,b3,b4,b5,b6⟩:=G.T.bmain;⟨bm,ob,b1,b2,b3,b4,b5,b6⟩) (hto w) (λy hy c P e=>by
  rcases hrc w y hy with z|z
  . rw[z]at e;cases e
  .
   obtain⟨d',hd'⟩:=Option.isSome_iff_exists.mp z
   exact PySem.W.tab_of G.T KX hd' e) hg hobj hints (Ur fI hn2) hr hF hb (λH hO hS=>hsp w H a ns fI hO hS) λH e s'=>hCX w H s₁ e s'
noncomputable def n6(s:Stmt):Arguments:=match s with
 |.FunctionDef _ a _ _ _ _ _ _ _ _=>a
 |_=>{posonlyargs:=[],args:=[],vararg:=none,kwonlyargs:=[],kw_defaults:=[],kwarg:=none,defaults:=[] }
noncomputable def i5(s:Stmt):List Stmt:=match s with
 |.FunctionDef _ _ b _ _ _ _ _ _ _=>b
 |_=>[]
noncomputable def ao(s:Stmt):Scope:=match s with
 |.FunctionDef _ _ _ _ _ _ sc _ _ _=>sc
 |_=>{kind:=.function,names:=[],isGenerator:=false,isCoroutine:=false}
noncomputable abbrev CX0:Qk:=λ_ _ _ _ _ _=>False
noncomputable abbrev E0:XK:=λ_ _ _=>False
theorem Li{X:Cx}:Af CX0 X E0:=λ_ _ _ _ _ _ _ h=>h.elim
structure QA (K:PySem.W.Frag) (x qual:Str) (st:Stmt) (f:Addr) (fd:FuncData):Prop where
 ex:∃(oc:Value)(od:Option Addr)(kV doc pm:Value)(an:Option Addr)(cdv ct:Value)(osl:Array (Option Value)),
  fd=PySem.W.fnOf x qual (n6 st) (i5 st) (ao st) .none kV doc pm an cdv ct/\K.lookup f=some ⟨oc,od,.func fd,osl⟩/\PySem.W.codeIn K cdv qual=true
 kp:PySem.W.keepIn K (.ref f)=true
section
variable{P:Program}{w:World}{K:PySem.W.Frag}{mg:Str->Option Value}{base:Heap}
theorem QA.ok{x qual:Str}{st:Stmt}{f:Addr}{fd:FuncData}{N ps:List Str}{k:Nat}{sp:Sp}(F:QA K x qual st f fd)(S:aB N ps (ao st))(len:∀vs H Q E,sp vs H Q E->vs.length=ps.length)
  (hbody:∀(cdv:Value)(A:Around)(outer:List Env)(s:Shared)(H:Hp)(vs:List V)(Q:VK)(E:XK),td k (A.deeper (envOfC qual (ao st) s.heap.objs.size f cdv))->sp vs H Q E ->
   ∃t,PV (Ii CX0 P w K mg base N qual (ao st) f cdv A outer s H E).nox (i5 st) t/\t {nx:=λ_ H'=>Q .non H',rt:=Q} (uG N vs) H):FnOk P w K mg base CX0 (k+1) f fd ps sp:=by
 obtain⟨oc,od,kV,doc,pm,an,cdv,ct,osl,rfl,lk,hcd⟩:=F.ex;refine NA lk hcd S len λA outer s H vs Q E hr hsp=>?_;obtain⟨t,h,q⟩:=hbody cdv A outer s H vs Q E hr hsp;exact⟨t,h.nox,q⟩
theorem QA.binds{x qual:Str}{st:Stmt}{f:Addr}{fd:FuncData}{ps:List Str}(F:QA K x qual st f fd)
  (h:∀(kV doc pm:Value)(an:Option Addr)(cdv ct:Value)(us:List Value),us.length=ps.length->bindArgs (PySem.W.fnOf x qual (n6 st) (i5 st) (ao st) .none kV doc pm an cdv ct) ⟨us,[]⟩=pure (ps.zip us)):yz K fd ps []:=by
 obtain⟨oc,od,kV,doc,pm,an,cdv,ct,osl,rfl,lk,hcd⟩:=F.ex;exact .all (h kV doc pm an cdv ct)
theorem HD{x qual:Str}{st:Stmt}{f:Addr}{oc:Value}{od an:Option Addr}{osl:Array (Option Value)}{kV doc pm cdv ct:Value}(l:K.lookup f=some ⟨oc,od,.func (PySem.W.fnOf x qual (n6 st) (i5 st) (ao st) .none kV doc pm an cdv ct),osl⟩)
  (c:PySem.W.codeIn K cdv qual=true) (k:PySem.W.keepIn K (.ref f)=true):QA K x qual st f (PySem.W.fnOf x qual (n6 st) (i5 st) (ao st) .none kV doc pm an cdv ct):=⟨⟨oc,od,kV,doc,pm,an,cdv,ct,osl,rfl,l,c⟩,k⟩
end
def Ox(H H':Hp):Prop:=∀b o,H b=some o->H' b=some o
theorem Ox.free{H H':Hp}(e:Ox H H'){l:Addr}(h:H' l=Option.none):H l=Option.none:=by
 cases q:H l with
 |none=>rfl
 | some o =>
  rw[e l o q]at h;cases h
end L2
set_option maxHeartbeats 0
namespace L2
open PySem PySem.Spec
open Sem (wp)
theorem jX:Slot "function" "__getattribute__" "object.__getattribute__" :=
 .of (owner:="object") (n:="__getattribute__") (by rw[typeLookup_type,builtinLookup_eq_fast]; kernel_rfl) y_ y_ y_
  (by first|exact .inl y_|exact .inr y_) (by rw[isSubtype_type];kernel_rfl)
theorem yD:entryFor table "object.__getattribute__"=some Builtin.«object.__getattribute__»:=by
 first | exact F.entry_object_getattribute | exact entryFor_alias (id':="object.__getattribute__") z_ (by first | rfl | decide +kernel) y_ z_ | kernel_rfl
theorem Bb(a b:Value):argsOk "object.__getattribute__" ⟨[a,b],[]⟩:=by
 first|exact F.args_object_getattribute_2 a b|(unfold argsOk;kernel_rfl)
theorem yE:typeLookup (.type "function") "__class__"=pure (some (.builtin "object.__class__")):=by rw[typeLookup_type,builtinLookup_eq_fast]; kernel_rfl
theorem ml:isSubtype (.type "function") (.type (".".intercalate ("object.__class__".cutAt '.').dropLast))=pure true:=by rw[F.owner_object_class,isSubtype_type];kernel_rfl
section
variable{prog:Program}{w:World}{A:Around}{E:Value->Shared->Prop}{h:Heap}{g:Array GenState}{d:Drawn}{t:Nat}{os:OsState}{a:Addr}{o:Obj}
theorem wH{R:Result->Shared->Prop}(hx:h.get? a=some o) (hc:o.cls=.type "function") (hq:R (.ok (.ret (.type "function"))) ⟨h,g,d,t,os⟩) :
  codeAny (model prog w) A (.call (.builtin "getset_descriptor.__get__") ⟨[.builtin "object.__class__",.ref a,.type "function"],[]⟩) R ⟨h,g,d,t,os⟩:=by
 have hT:(⟨h,g,d,t,os⟩:Shared).TypeIs (.ref a) "function":=⟨_,hx,hc⟩;have hT5:(⟨h,g,d,t,os⟩:Shared).TypeIs (.builtin "object.__class__") "getset_descriptor":=F.typeOf_object_class;have f8:=ml;refine codeAny_call_builtin F.slot_gs_get.plain F.entry_gs_get (F.slot_gs_get.check _ _ _ _ _ _ _ _ hT5 (F.args_gs_get _ _ _) ?_)
 repeat (any_goals (first|assumption|wp_step))
 refine⟨Code.quiet_builtin _ y_,codeAny_builtin F.entry_object_class ?_⟩
 repeat (any_goals (first|assumption|wp_step))
theorem tq{tk:Tok}{Q:PySem.Fin->Shared->Prop}(hx:h.get? a=some o) (hc:o.cls=.type "function") (hq:Q (.done (.ret (.type "function"))) ⟨h,g,d,t,os⟩) :
  wpAny (model prog w) A (Builtin.«object.__getattribute__» ⟨[.ref a,.str "__class__" tk],[]⟩) Q E ⟨h,g,d,t,os⟩:=by
 have hT:(⟨h,g,d,t,os⟩:Shared).TypeIs (.ref a) "function":=⟨_,hx,hc⟩;have hT5:(⟨h,g,d,t,os⟩:Shared).TypeIs (.builtin "object.__class__") "getset_descriptor":=F.typeOf_object_class;have f4:=yE;have f5:=F.typeOf_object_class;have f6:=F.slot_gs_get.lookup;have f7:=F.slot_gs_set.lookup
 repeat (any_goals (first|assumption|wp_step))
 refine wH hx hc ?_
 repeat (any_goals (first|assumption|wp_step))
theorem uL{tk:Tok}{R:Result->Shared->Prop}(hx:h.get? a=some o) (hc:o.cls=.type "function") (hq:R (.ok (.ret (.type "function"))) ⟨h,g,d,t,os⟩) :
  codeAny (model prog w) A (.call (.builtin "object.__getattribute__") ⟨[.ref a,.str "__class__" tk],[]⟩) R ⟨h,g,d,t,os⟩ :=
 codeAny_call_builtin jX.plain yD (jX.check _ _ _ _ _ _ _ _ (show(⟨h,g,d,t,os⟩:Shared).TypeIs (.ref a) "function" from⟨_,hx,hc⟩) (Bb _ _) (tq hx hc hq))
theorem yF{tk:Tok}{Q:Value->Shared->Prop}(hx:h.get? a=some o) (hc:o.cls=.type "function") (hq:Q (.type "function") ⟨h,g,d,t,os⟩):wpAny (model prog w) A (getAttrBy (.ref a) (.str "__class__" tk) false) Q E ⟨h,g,d,t,os⟩:=by
 have hT:(⟨h,g,d,t,os⟩:Shared).TypeIs (.ref a) "function":=⟨_,hx,hc⟩;have f2:=jX.lookup;have f3:=jX.bind (.ref a)
 repeat (any_goals (first|assumption|wp_step))
 refine uL hx hc ?_
 repeat (any_goals (first|assumption|wp_step))
theorem uM{Q:Option Value->Shared->Prop}(hx:h.get? a=some o) (hc:o.cls=.type "function") (hq:Q (some (.type "function")) ⟨h,g,d,t+1,os⟩):wpAny (model prog w) A (getAttr? (.ref a) "__class__") Q E ⟨h,g,d,t,os⟩:=by
 unfold getAttr? getAttrBy?
 repeat (any_goals (first|assumption|with_reducible apply yF hx hc|wp_step))
end
theorem Ir{K:PySem.W.Frag}{a:Addr}:PySem.W.KitX K (.ref a) (.type "function") (PySem.W.KitAt a "function"):=PySem.W.kitx_of PySem.W.kitAt_ty (λ{_ _ _ _ _ s} p k=>by obtain⟨h,g,d,t,os⟩:=s; obtain⟨o,h1,h2⟩:=p; exact uM h1 h2 k)
end L2
namespace L2
open PySem PySem.Spec PyProof.Rows
inductive D where
 |non|bl (b:Bool)|int (i:Int)|str (x:Str)|tup (xs:List D)|lst (xs:List D)|dct (n:Nat)|exc (c:Str) (ns:List Str) (xs:List D)|fn (x:Str) (d:D)
def QB(K:PySem.W.Frag)(H:Hp)(a:Addr)(xs:List V):Prop :=
 (∃o,H a=some (.frz o (.lst xs))) ∨
  ∃(o:Obj)(its:Array Value)(n:Nat),K.lookup a=some o/\o.cls=.type "list"/\o.dict=none/\o.data=.seq its n/\its.size<=sizeLine/\ck xs its.toList
theorem QB.l{K:PySem.W.Frag}{H:Hp}{a:Addr}{xs:List V}(h:QB K H a xs):P0 K H a xs:=by
 rcases h with⟨o,h⟩|h
 . exact .inl (.inr ⟨o,h⟩)
 . exact .inr h
def Iu:HO->Prop
 |.frz _ u=>Iu u
 |.ins _ _ _=>False
 |_=>True
noncomputable def EV(C L:Addr):List Value:=(if C=L then[]else[.ref C])++[.ref L,.type "ValueError",.type "Exception",.type "BaseException",.type "object"]
noncomputable def t6(K:PySem.W.Frag)(c:Str)(C:Addr):Bool:=match PySem.W.clsIn K C,PySem.W.nsIn K mainGlobals "LoadError" with
 | some cd,some (some (.ref L))=>cd.name == c && cd.hasDict && cd.mro == EV C L && (PySem.W.clsIn K L).any (λk=>k.name == ("LoadError" : Str)) &&
  PySem.W.findIn K (.ref C) "__getattribute__" == some (some (.builtin "BaseException.__getattribute__")) && PySem.W.findIn K (.ref C) "__getattr__" == some none && PySem.W.findIn K (.ref C) "__class__" == some (some (.builtin "object.__class__")) &&
  PySem.W.findIn K (.ref C) "__setattr__" == some (some (.builtin "object.__setattr__")) && PySem.W.typeIn K (.ref C) == some (.type "type") && PySem.W.nsIn K mainGlobals c == some (some (.ref C))
 |_,_=>false
noncomputable def Lj:List Stmt->Option (Arguments×Expr×Scope×Pos)
 |[]=>none
 | st::r=>match Lj r with
  |some l=>some l
  | none=>match st with
   | .Expr (.Call _ args _ _) _=>(match args.getLast? with
    |some (.Lambda p b sc pos)=>some (p,b,sc,pos)
    |_=>none)
   | .Return (some (.Call _ _ kws _)) _=>(match kws.getLast? with
    |some ⟨_,.Lambda p b sc pos,_⟩=>some (p,b,sc,pos)
    |_=>none)
   |_=>none
noncomputable def ND(K:PySem.W.Frag)(x:Str):Option (Arguments×Expr×Scope×Pos):=match PySem.W.nsIn K mainGlobals x with
 | some (some (.ref f))=>(match K.lookup f with
  | some ⟨_,_,.func fd,_⟩=>(match fd.body with
   |.stmts b=>Lj b
   |_=>none)
  |_=>none)
 |_=>none
def XF(H:Hp)(dx:Option Addr)(ns:List Str)(vs:List V):Prop:=(ns=[]/\vs=[]/\dx=none)∨∃d od,dx=some d/\H d=some (.frz od (.xd (ns.zip vs)))/\ns.length=vs.length
mutual
inductive QC (K:PySem.W.Frag) (H:Hp):V->D->Prop where
 |non:QC K H .non .non
 |bl (b:Bool):QC K H (.bl b) (.bl b)
 |int (i:Int):QC K H (.int i) (.int i)
 |str (x:Str):QC K H (.str x) (.str x)
 |tup {a:Addr} {vs:List V} {ds:List D} (h:P1 K H a vs) (r:bL K H vs ds):QC K H (.ref a) (.tup ds)
 |lst {a:Addr} {vs:List V} {ds:List D} (h:QB K H a vs) (r:bL K H vs ds):QC K H (.ref a) (.lst ds)
 |dct {a:Addr} {o:Obj} {kvs:List (Pz×V)} (h:H a=some (.frz o (.dK kvs))):QC K H (.ref a) (.dct kvs.length)
 |exc {a:Addr} {o:Obj} {u:HO} {c:Str} {C:Addr} {ns:List Str} {vs:List V} {ds:List D} (h:H a=some (.frz o u)) (hv:Iu u) (hc:o.cls=.ref C) (hn:PySem.W.notCls o=true) (hs:t6 K c C=true) (hq:∀f∈ns,PySem.W.findIn K (.ref C) f=some none) (hf:XF H o.dict ns vs) (r:bL K H vs ds):QC K H (.ref a) (.exc c ns ds)
 | fn {f c c':Addr} {oc oq:Obj} {x y:Str} {pr:Arguments} {bd:Expr} {sc:Scope} {pos:Pos} {pm ctv u:Value} {v:V} {d:D} (hl:ND K x=some (pr,bd,sc,pos)) (hf:H f=some (.frz (PySem.W.kla_obj "<lambda>" (KU x) pr bd sc [(y,c)] pm c' ctv) (.own f)))
  (hq:H c'=some (.frz oq (.own c'))) (hc:Ab oq (KU x)) (hz:H c=some (.frz oc (.own c))) (hd:oc.data=.cell (some u)) (hv:cJ v u) (hm:(y,NameKind.free)∈sc.names) (r:QC K H v d):QC K H (.ref f) (.fn x d)
inductive bL (K:PySem.W.Frag) (H:Hp):List V->List D->Prop where
 |nil:bL K H [] []
 |cons {v:V} {d:D} {vs:List V} {ds:List D} (h:QC K H v d) (t:bL K H vs ds):bL K H (v::vs) (d::ds)
end
def M3:HO->Prop
 |.tup _=>True
 |.frz _ _=>True
 |.tbl _=>True
 |_=>False
def sT(H H':Hp):Prop:=∀b o,M3 o->H b=some o->H' b=some o
theorem P1.pres{K:PySem.W.Frag}{H H':Hp}{a:Addr}{xs:List V}(p:sT H H')(h:P1 K H a xs):P1 K H' a xs:=by
 rcases h with(h|⟨o,h⟩)|h
 . exact .inl (.inl (p _ _ True.intro h))
 . exact .inl (.inr ⟨o,p _ _ True.intro h⟩)
 . exact .inr h
theorem QB.pres{K:PySem.W.Frag}{H H':Hp}{a:Addr}{xs:List V}(p:sT H H')(h:QB K H a xs):QB K H' a xs:=by
 rcases h with⟨o,h⟩|h
 . exact .inl ⟨o,p _ _ True.intro h⟩
 . exact .inr h
theorem XF.pres{H H':Hp}(p:sT H H'){dx:Option Addr}{ns:List Str}{vs:List V}(h:XF H dx ns vs):XF H' dx ns vs:=by
 rcases h with h|⟨d,od,e,h,l⟩
 . exact .inl h
 . exact .inr ⟨d,od,e,p _ _ True.intro h,l⟩
mutual
theorem QC.pres{K:PySem.W.Frag}{H H':Hp}(p:sT H H'):∀{v:V}{d:D},QC K H v d->QC K H' v d
 |_,_,.non=>.non
 |_,_,.bl b=>.bl b
 |_,_,.int i=>.int i
 |_,_,.str x=>.str x
 |_,_,.tup h r=>.tup (h.pres p) (bL.pres p r)
 |_,_,.lst h r=>.lst (h.pres p) (bL.pres p r)
 |_,_,.dct h=>.dct (p _ _ True.intro h)
 |_,_,.exc h hv hc hn hs hq hf r=>.exc (p _ _ True.intro h) hv hc hn hs hq (hf.pres p) (bL.pres p r)
 |_,_,.fn hl hf hq hc hz hd hv hm r=>.fn hl (p _ _ True.intro hf) (p _ _ True.intro hq) hc (p _ _ True.intro hz) hd hv hm (QC.pres p r)
theorem bL.pres{K:PySem.W.Frag}{H H':Hp}(p:sT H H'):∀{vs:List V}{ds:List D},bL K H vs ds->bL K H' vs ds
 |_,_,.nil=>.nil
 |_,_,.cons h t=>.cons (QC.pres p h) (bL.pres p t)
end
theorem bL.length{K:PySem.W.Frag}{H:Hp}:∀{vs:List V}{ds:List D},bL K H vs ds->vs.length=ds.length
 |_,_,.nil=>rfl
 |_,_,.cons _ t=>by simp[bL.length t]
theorem bL.get{K:PySem.W.Frag}{H:Hp}:∀{vs:List V}{ds:List D}{i:Nat}{d:D},bL K H vs ds->ds[i]?=some d->∃v,vs[i]?=some v/\QC K H v d
 |_,_,_,_,.nil,e=>by simp at e
 |_,_,0,_,.cons h _,e=>by simp at e;subst e;exact⟨_,rfl,h⟩
 | _,_,i+1,d,.cons _ t,e=>by obtain⟨v,h1,h2⟩:=bL.get (i:=i) (d:=d) t (by simpa using e);exact⟨v,by simpa using h1,h2⟩
theorem bL.set{K:PySem.W.Frag}{H:Hp}{v:V}{d:D}(r:QC K H v d):∀{vs:List V}{ds:List D}(i:Nat),bL K H vs ds->bL K H (vs.set i v) (ds.set i d)
 |_,_,_,.nil=>.nil
 |_,_,0,.cons _ t=>.cons r t
 |_,_,i+1,.cons h t=>.cons h (bL.set r i t)
theorem bL.append{K:PySem.W.Frag}{H:Hp}:∀{vs us:List V}{ds es:List D},bL K H vs ds->bL K H us es->bL K H (vs++us) (ds++es)
 |_,_,_,_,.nil,s=>s
 |_,_,_,_,.cons h t,s=>.cons h (bL.append t s)
theorem bL.take{K:PySem.W.Frag}{H:Hp}:∀{vs:List V}{ds:List D}(n:Nat),bL K H vs ds->bL K H (vs.take n) (ds.take n)
 |_,_,0,_=>.nil
 |_,_,_+1,.nil=>.nil
 |_,_,n+1,.cons h t=>.cons h (bL.take n t)
theorem bL.drop{K:PySem.W.Frag}{H:Hp}:∀{vs:List V}{ds:List D}(n:Nat),bL K H vs ds->bL K H (vs.drop n) (ds.drop n)
 |_,_,0,r=>r
 |_,_,_+1,.nil=>.nil
 |_,_,n+1,.cons _ t=>bL.drop n t
inductive L where
 |un|d (x:D)|own (a:Addr) (xs:List D)|bx (k:Option Addr) (ls:List L)|dic (a:Addr) (kvs:List (Pz×D))
noncomputable abbrev Ev:=List L
mutual
noncomputable def a9:L->List Addr
 |.un=>[]
 |.d _=>[]
 |.own a _=>[a]
 |.bx k ls=>k.toList++d6 ls
 |.dic a _=>[a]
noncomputable def d6:List L->List Addr
 |[]=>[]
 |l::ls=>a9 l++d6 ls
end
noncomputable def owns(Z:Ev):List Addr:=Z.flatMap a9
theorem c9:∀ls:List L,d6 ls=owns ls
 |[]=>rfl
 |l::ls=>by rw[d6,c9 ls];rfl
mutual
def a6(K:PySem.W.Frag)(H:Hp)(s:Option V):L->Prop
 |.un=>True
 |.d x=>∃v,s=some v/\QC K H v x
 |.own a xs=>s=some (.ref a)/\∃vs,H a=some (.lst vs)/\bL K H vs xs
 |.bx none ls=>∃a vs,s=some (.ref a)/\P1 K H a vs/\bY K H vs ls
 |.bx (some a) ls=>s=some (.ref a)/\∃vs,H a=some (.lst vs)/\bY K H vs ls
 |.dic a kvs=>s=some (.ref a)/\∃vs,H a=some (.dK vs)/\Paired (λ(p:Pz×V) (q:Pz×D)=>p.1=q.1/\QC K H p.2 q.2) vs kvs
def bY(K:PySem.W.Frag)(H:Hp)(vs:List V):List L->Prop
 |[]=>vs=[]
 |l::ls=>∃v us,vs=v::us/\a6 K H (some v) l/\bY K H us ls
end
mutual
theorem a6.pres{K:PySem.W.Frag}{H H':Hp}(p:sT H H'):∀{s:Option V}(l:L),(∀a∈a9 l,H' a=H a)->a6 K H s l->a6 K H' s l
 |_,.un,_,_=>by simp only[a6]
 | _,.d x,_,h=>by
  simp only[a6]at h ⊢
  obtain⟨v,e,r⟩:=h
  exact⟨v,e,r.pres p⟩
 | _,.own a xs,q,h=>by
  simp only[a6]at h ⊢
  obtain⟨e,vs,ha,r⟩:=h
  exact⟨e,vs,(q a (by simp[a9])).trans ha,r.pres p⟩
 | _,.bx none ls,q,h=>by
  simp only[a6]at h ⊢
  obtain⟨a,vs,e,ha,r⟩:=h
  exact⟨a,vs,e,ha.pres p,bY.pres p ls (λb hb=>q b (by simp[a9,hb])) r⟩
 | _,.bx (some a) ls,q,h=>by
  simp only[a6]at h ⊢
  obtain⟨e,vs,ha,r⟩:=h
  exact⟨e,vs,(q a (by simp[a9])).trans ha,bY.pres p ls (λb hb=>q b (by simp[a9,hb])) r⟩
 | _,.dic a kvs,q,h=>by
  simp only[a6]at h ⊢
  obtain⟨e,vs,ha,r⟩:=h
  exact⟨e,vs,(q a (by simp[a9])).trans ha,Paired.mapP r λ_ _ z=>⟨z.1,z.2.pres p⟩⟩
theorem bY.pres{K:PySem.W.Frag}{H H':Hp}(p:sT H H'):∀{vs:List V}(ls:List L),(∀a∈d6 ls,H' a=H a)->bY K H vs ls->bY K H' vs ls
 |_,[],_,h=>by simpa only[bY]using h
 | _,l::ls,q,h=>by
  simp only[bY]at h ⊢
  obtain⟨v,us,e,h1,h2⟩:=h
  exact⟨v,us,e,a6.pres p l (λb hb=>q b (by simp[d6,hb])) h1,bY.pres p ls (λb hb=>q b (by simp[d6,hb])) h2⟩
end
def KA:HO->Prop
 |.lst _=>True
 |.dK _=>True
 |_=>False
theorem KA.no{o:HO}(h:KA o)(p:M3 o):False:=by cases o<;>first|exact h|exact p
mutual
theorem a6.lstAt{K:PySem.W.Frag}{H:Hp}:∀{s:Option V}(l:L),a6 K H s l->∀a∈a9 l,∃o,H a=some o/\KA o
 |_,.un,_,a,ha=>by simp[a9]at ha
 |_,.d x,_,a,ha=>by simp[a9]at ha
 | _,.own b xs,h,a,ha=>by
  simp only[a6]at h
  have e:a=b:=by simpa[a9]using ha
  subst e
  obtain⟨_,vs,q,_⟩:=h
  exact⟨_,q,True.intro⟩
 | _,.bx none ls,h,a,ha=>by
  simp only[a6]at h
  obtain⟨b,vs,e,_,r⟩:=h
  exact bY.lstAt ls r a (by simpa[a9]using ha)
 | _,.bx (some b) ls,h,a,ha=>by
  simp only[a6]at h
  obtain⟨e,vs,q,r⟩:=h
  rcases(by simpa[a9]using ha:a=b∨a∈d6 ls)with z|z
  .
   subst z;exact⟨_,q,True.intro⟩
  .
   exact bY.lstAt ls r a z
 | _,.dic b xs,h,a,ha=>by
  simp only[a6]at h
  have e:a=b:=by simpa[a9]using ha
  subst e
  obtain⟨_,vs,q,_⟩:=h
  exact⟨_,q,True.intro⟩
theorem bY.lstAt{K:PySem.W.Frag}{H:Hp}:∀{vs:List V}(ls:List L),bY K H vs ls->∀a∈d6 ls,∃o,H a=some o/\KA o
 |_,[],_,a,ha=>by simp[d6]at ha
 | _,l::ls,h,a,ha=>by
  simp only[bY]at h
  obtain⟨v,us,e,h1,h2⟩:=h
  rcases(by simpa[d6]using ha:a∈a9 l∨a∈d6 ls)with z|z
  .
   exact a6.lstAt l h1 a z
  .
   exact bY.lstAt ls h2 a z
end
structure aA (K:PySem.W.Frag) (Pr H:Hp) (σ:St) (Z:Ev):Prop where
 sub:∀b o,Pr b=some o->H b=some o
 nd:(owns Z).Nodup
 off:∀a∈owns Z,Pr a=none
 sl:Paired (a6 K H) σ Z
theorem hC{Z:Ev}{a:Addr}:a∈owns Z↔∃l∈Z,a∈a9 l:=by unfold owns;rw[List.mem_flatMap]
theorem yG{Z:Ev}{a:Addr}{xs:List D}(h:L.own a xs∈Z):a∈owns Z:=hC.mpr ⟨_,h,by simp[a9]⟩
theorem aD(a b:Ev):owns (a++b)=owns a++owns b:=List.flatMap_append
theorem Paired.mem2{α β:Type}{F:α->β->Prop}:∀{l1:List α}{l2:List β}{b:β},Paired F l1 l2->b∈l2->∃a,a∈l1/\F a b
 |_,_,_,.nil,h=>by simp at h
 | _,_,_,.cons r t,h=>by
  rcases Uq.mp h with rfl|h
  . exact⟨_,tv,r⟩
  . obtain⟨a,h1,h2⟩:=Paired.mem2 t h;exact⟨a,k5 _ h1,h2⟩
theorem Paired.app{α β:Type}{F:α->β->Prop}:∀{a c:List α}{b d:List β},Paired F a b->Paired F c d->Paired F (a++c) (b++d)
 |_,_,_,_,.nil,s=>s
 |_,_,_,_,.cons r t,s=>.cons r (Paired.app t s)
theorem Paired.unapp{α β:Type}{F:α->β->Prop}:∀{a c:List α}{b d:List β},a.length=b.length->Paired F (a++c) (b++d)->Paired F a b/\Paired F c d
 |[],_,[],_,_,s=>⟨.nil,s⟩
 | x::a,_,y::b,_,hl,.cons r t=>by obtain⟨p,q⟩:=Paired.unapp (a:=a) (b:=b) (by simpa using hl) t;exact⟨.cons r p,q⟩
 |[],_,_::_,_,hl,_=>by simp at hl
 |_::_,_,[],_,hl,_=>by simp at hl
theorem Paired.get2{α β:Type}{F:α->β->Prop}:∀{l1:List α}{l2:List β}{i:Nat}{b:β},Paired F l1 l2->l2[i]?=some b->∃a,l1[i]?=some a/\F a b
 |_,_,_,_,.nil,e=>by simp at e
 |_,_,0,_,.cons h _,e=>by simp at e;subst e;exact⟨_,rfl,h⟩
 | _,_,i+1,d,.cons _ t,e=>by obtain⟨v,h1,h2⟩:=Paired.get2 (i:=i) (b:=d) t (by simpa using e);exact⟨v,by simpa using h1,h2⟩
theorem Paired.set2{α β:Type}{F:α->β->Prop}{a:α}{b:β}(r:F a b):∀{l1:List α}{l2:List β}(i:Nat),Paired F l1 l2->Paired F (l1.set i a) (l2.set i b)
 |_,_,_,.nil=>.nil
 |_,_,0,.cons _ t=>.cons r t
 |_,_,i+1,.cons h t=>.cons h (Paired.set2 r i t)
theorem Paired.impMem{α β:Type}{F G:α->β->Prop}:∀{l1:List α}{l2:List β},Paired F l1 l2->(∀b∈l2,∀a,F a b->G a b)->Paired G l1 l2
 |_,_,.nil,_=>.nil
 |_,_,.cons r t,h=>.cons (h _ tv _ r) (Paired.impMem t λb hb=>h b (k5 _ hb))
theorem Paired.set_r{α β:Type}{F:α->β->Prop}{b:β}:∀{l1:List α}{l2:List β}(i:Nat),Paired F l1 l2->(∀a,l1[i]?=some a->F a b)->Paired F l1 (l2.set i b)
 |_,_,_,.nil,_=>.nil
 |_,_,0,.cons _ t,h=>.cons (h _ rfl) t
 |_,_,i+1,.cons q t,h=>.cons q (Paired.set_r i t λa e=>h a (by simpa using e))
section
variable{K:PySem.W.Frag}{Pr H H':Hp}{σ τ w σ':St}{Z μ lam Z':Ev}
theorem aA.len(E:aA K Pr H σ Z):σ.length=Z.length:=Paired.length E.sl
noncomputable def bq(H:Hp)(Z:Ev):Hp:=λb=>if b∈owns Z then none else H b
theorem aA.at_own(E:aA K Pr H σ Z){a:Addr}(h:a∈owns Z):∃o,H a=some o/\KA o:=by obtain⟨l,hx,ha⟩:=hC.mp h;obtain⟨s,_,q⟩:=Paired.mem2 E.sl hx;exact q.lstAt l a ha
theorem aA.wide(E:aA K Pr H σ Z):aA K (bq H Z) H σ Z :=
 ⟨λb o e=>by unfold bq at e;split at e;cases e;exact e,E.nd,λa h=>by unfold bq;rw[if_pos h],E.sl⟩
theorem aA.drop(E:aA K Pr H (τ++σ) (lam++Z))(hl:τ.length=lam.length):aA K Pr H σ Z :=
 ⟨E.sub,(List.nodup_append.mp (aD lam Z ▸ E.nd)).2.1,λa h=>E.off a (by rw[aD];exact List.mem_append_right _ h),(Paired.unapp hl E.sl).2⟩
theorem aA.left(E:aA K Pr H (τ++σ) (lam++Z))(hl:τ.length=lam.length):aA K Pr H τ lam :=
 ⟨E.sub,(List.nodup_append.mp (aD lam Z ▸ E.nd)).1,λa h=>E.off a (by rw[aD];exact List.mem_append_left _ h),(Paired.unapp hl E.sl).1⟩
theorem uN{H H':Hp}{Z:Ev}{σ:St}{Pr:Hp}(E:aA K Pr H σ Z)(h:∀b o,bq H Z b=some o->H' b=some o):sT H H':=λb o p e=>by refine h b o ?_;unfold bq;rw[if_neg,e];intro hm;obtain⟨u,e',m⟩:=E.at_own hm;rw[e]at e';cases e';exact m.no p
theorem aA.step(E:aA K Pr H (τ++σ) (lam++Z))(hl:τ.length=lam.length)(E':aA K (bq H Z) H' (w++σ') (μ++Z'))(hw:w.length=μ.length):aA K Pr H' (w++(τ++σ')) (μ++(lam++Z')):=by
 have Eσ:=E.drop hl;have p:sT H H':=uN Eσ E'.sub;have dis:∀a∈owns lam,a∉owns Z:=λa h1 h2=>(List.nodup_append.mp (aD lam Z ▸ E.nd)).2.2 a h1 a h2 rfl;have at':∀a∈owns lam,bq H Z a=H a:=λa h=>by unfold bq;rw[if_neg (dis a h)]
 have some':∀a∈owns lam,∃o,H a=some o/\KA o:=λa h=>E.at_own (by rw[aD];exact List.mem_append_left _ h);have out:∀a∈owns lam,a∉owns (μ++Z'):=λa h h2=>by have z:=E'.off a h2;rw[at' a h]at z;obtain⟨vs,e,_⟩:=some' a h;rw[e]at z;cases z
 have s1:=(Paired.unapp hw E'.sl);have s2:=(Paired.unapp hl E.sl).1;refine⟨λb o e=>?_,?_,λa ha=>?_,Paired.app s1.1 (Paired.app ?_ s1.2)⟩
 . refine E'.sub b o ?_;unfold bq;rw[if_neg,E.sub b o e];intro hm;have z:=Eσ.off b hm;rw[e]at z;cases z
 .
  have n1:=E'.nd;rw[aD]at n1;rw[aD,aD];obtain⟨q1,q2,q3⟩:=List.nodup_append.mp n1;refine List.nodup_append.mpr ⟨q1,List.nodup_append.mpr ⟨(List.nodup_append.mp (aD lam Z ▸ E.nd)).1,q2,λa ha b hb=>?_⟩,λa ha b hb=>?_⟩
  . rintro rfl;exact out a ha (by rw[aD];exact List.mem_append_right _ hb)
  .
   rcases List.mem_append.mp hb with hb|hb
   . rintro rfl;exact out a hb (by rw[aD];exact List.mem_append_left _ ha)
   . exact q3 a ha b hb
 .
  rw[aD,aD]at ha
  have key:a∈owns (μ++Z')->Pr a=none:=λh=>by
   have z:=E'.off a h;unfold bq at z;by_cases hm:a∈owns Z
   . exact Eσ.off a hm
   .
    rw[if_neg hm]at z
    cases q:Pr a with
    |none=>rfl
    |some o=>rw[E.sub a o q]at z;cases z
  rcases List.mem_append.mp ha with h|h
  . exact key (by rw[aD];exact List.mem_append_left _ h)
  .
   rcases List.mem_append.mp h with h|h
   . exact E.off a (by rw[aD];exact List.mem_append_left _ h)
   . exact key (by rw[aD];exact List.mem_append_right _ h)
 .
  have:∀l∈lam,∀s,a6 K H s l->a6 K H' s l:=λl hlm s h=>h.pres p l λa e=>by have ha:a∈owns lam:=hC.mpr ⟨l,hlm,e⟩;obtain⟨vs,e,_⟩:=some' a ha;rw[E'.sub a _ ((at' a ha).trans e),e]
  exact Paired.impMem s2 this
end
end L2
namespace L2
open PySem PySem.Spec PyProof.Rows PySem.W
structure Bc (K:Frag) (c:Str) (C L:Addr) (cd:ClassData):Prop where
 cls:clsIn K C=some cd
 load:nsIn K mainGlobals "LoadError"=some (some (.ref L))
 name:cd.name=c
 dct:cd.hasDict=true
 mro:cd.mro=EV C L
 lname:∃ k,clsIn K L=some k/\k.name=("LoadError" : Str)
 ga:findIn K (.ref C) "__getattribute__"=some (some (.builtin "BaseException.__getattribute__"))
 gx:findIn K (.ref C) "__getattr__"=some none
 gc:findIn K (.ref C) "__class__"=some (some (.builtin "object.__class__"))
 sa:findIn K (.ref C) "__setattr__"=some (some (.builtin "object.__setattr__"))
 ty:typeIn K (.ref C)=some (.type "type")
 own:nsIn K mainGlobals c=some (some (.ref C))
theorem wJ{K:Frag}{c:Str}{C:Addr}(h:t6 K c C=true):∃L cd,Bc K c C L cd:=by
 unfold t6 at h;split at h
 . rename_i cd L e1 e2;simp only[Bool.and_eq_true,beq_iff_eq]at h;obtain⟨⟨⟨⟨⟨⟨⟨⟨⟨h1,h2⟩,h3⟩,h4⟩,h5⟩,h6⟩,h7⟩,h8⟩,h9⟩,h10⟩:=h;obtain⟨k,hk,hn⟩:=any_some h4;exact⟨L,cd,e1,e2,h1,h2,h3,⟨k,hk,beq_iff_eq.mp hn⟩,h5,h6,h7,h8,h9,h10⟩
 . cases h
section
variable{K:Frag}{c:Str}{C L:Addr}{cd:ClassData}
theorem Cr(C L:Addr):EV C L=[.ref C,.ref L,.type "ValueError",.type "Exception",.type "BaseException",.type "object"]∨EV C L=[.ref L,.type "ValueError",.type "Exception",.type "BaseException",.type "object"]/\C=L:=by
 by_cases h:C=L
 . exact .inr ⟨by unfold EV;rw[if_pos h];rfl,h⟩
 . exact .inl (by unfold EV;rw[if_neg h];rfl)
theorem Fw(C L:Addr)(b:Value):(EV C L).contains b=([.ref C,.ref L,.type "ValueError",.type "Exception",.type "BaseException",.type "object"]:List Value).contains b:=by
 rcases Cr C L with e|⟨e,h⟩
 . rw[e]
 . subst h;rw[e];simp only[List.contains_cons,<- Bool.or_assoc,Bool.or_self]
theorem Bc.mroIn(S:Bc K c C L cd)(b:Value):PySem.W.mroIn K C b=some (([.ref C,.ref L,.type "ValueError",.type "Exception",.type "BaseException",.type "object"]:List Value).contains b):=by
 unfold PySem.W.mroIn;rw[S.cls,Option.bind_some,S.mro];have ne:(EV C L).isEmpty=false:=by rcases Cr C L with e|⟨e,_⟩<;>rw[e]<;>rfl
 show(if(EV C L).isEmpty=true then none else some ((EV C L).contains b))=_
 rw[ne,Fw];rfl
theorem qI(C L:Addr)(T:String):(([.ref C,.ref L,.type "ValueError",.type "Exception",.type "BaseException",.type "object"]:List Value).contains (.type T))=(["ValueError","Exception","BaseException","object"]:List String).contains T:=by
 simp only[List.contains_cons,List.contains_nil,Bool.or_false];have e:∀a:Addr,(Value.type T == Value.ref a)=false:=λ_=>rfl
 have f:∀U:String,(Value.type T == Value.type U)=(T == U):=λU=>by
  by_cases q:T=U
  . subst q;simp
  . rw[beq_eq_false_iff_ne.mpr q,beq_eq_false_iff_ne];intro z;injection z with z;exact q z
 rw[e,e,f,f,f,f];rfl
theorem Bc.has(S:Bc K c C L cd){T:String} (h:(["ValueError","Exception","BaseException","object"]:List String).contains T=true):PySem.W.mroIn K C (.type T)=some true:=by rw[S.mroIn,qI,h]
theorem Bc.isT(S:Bc K c C L cd){M:Model}{h:Heap}(X:K.In h)(T:String):Looks M h (isSubtype (.ref C) (.type T)) ((["ValueError","Exception","BaseException","object"]:List String).contains T):=looks_mroIn X (by rw[S.mroIn,qI])
end
section
variable{prog:Program}{w:World}{A:Around}{E:Value->Shared->Prop}{s:Shared}{K:Frag}{c:Str}{x C L:Addr}{cd:ClassData}{ox:Obj}{od:Option Obj}{name:Str}
theorem wK{tk:Tok}{Q:Fin->Shared->Prop}(S:Bc K c C L cd)(X:K.In s.heap)(I:InstAt s.heap x ox C od) (hf:findObj K C od "__class__"=some (.bind (.builtin "getset_descriptor.__get__") (.builtin "object.__class__"))) (hq:Q (.done (.ret (.ref C))) s) :
  wpAny (model prog w) A (Builtin.«object.__getattribute__» ⟨[.ref x,.str "__class__" tk],[]⟩) Q E s:=by
 obtain⟨hh,g,d,t,os⟩:=s;have L0:=I.type (M:=model prog w);have L1:=looks_find (M:=model prog w) X I hf;unfold Builtin.«object.__getattribute__»;refine kS (Uw (kS (Uw ?_)));refine kS (L0.at (kS (L1.at ?_)));show wpAny _ _ (holding [Value.builtin "object.__class__"] (call (.builtin "getset_descriptor.__get__") [.builtin "object.__class__",.ref x,.ref C]) >>= ret) _ _ _;refine kS (wpAny_holding (wpAny_call ?_));exact class_get (s:=⟨hh,g,d,t,os⟩) (ox:=ox) (od:=od) X I (S.has xp) (Uw hq)
theorem Iv{tk:Tok}{v:Value}{fill expr:Bool}{Q:Value->Shared->Prop}(S:Bc K c C L cd)(X:K.In s.heap)(I:InstAt s.heap x ox C od)
  (he:∀(A':Around)(Q':Fin->Shared->Prop),Q' (.done (.ret v)) s->wpAny (model prog w) A' (Builtin.«object.__getattribute__» ⟨[.ref x,.str name tk],[]⟩) Q' (λ_ _=>False) s) (hh:handedIn v=true) (hq:Q v s) :
  wpAny (model prog w) A (getAttrBy (.ref x) (.str name tk) fill expr) Q E s:=by
 have FB:=F.excAttr_ValueError;have L0:=I.type (M:=model prog w);have L1:=looks_findIn (M:=model prog w) X S.ga;have L2:=looks_findIn (M:=model prog w) X S.gx;unfold getAttrBy;refine wpAny_holding (kS (L0.here (kS (L1.here ?_))));have hx2:(Value.builtin "BaseException.__getattribute__" == Value.builtin "object.__getattribute__")=false:=by decide +kernel
 dsimp only;rw[hx2,Bool.and_false,if_neg (by decide)];unfold getAttrByItsOwn;refine kS ((looks_hook (mc:=.ref C) X (r:=none) S.gx).here ?_);refine kS (wpAny_attempt (wpAny_holding ?_));have hx0:(expr && onTheHeap (Value.builtin "BaseException.__getattribute__"))=false:=by cases expr <;> rfl
 unfold callGetattribute boundAndCalled;rw[hx0,if_neg (by decide),FB.ga.bind];refine kS (Uw (wpAny_call ?_));have hi:Looks (model prog w) s.heap (isInstance (.ref x) (.type "BaseException")) true:=L0.andThen (S.isT X _);have hkd:builtinKind "BaseException.__getattribute__"=some .slot:=by decide +kernel
 have hsp:splitId "BaseException.__getattribute__"=some ("BaseException","__getattribute__"):=by decide +kernel
 refine codeAny_call_builtin FB.ga.plain F.entry_bexc_ga (@check_slot (model prog w) _ _ s "BaseException.__getattribute__" "BaseException" "__getattribute__" (.ref x) [.str name tk] [] _ hkd hsp hi (F.args_bexc_ga (.ref x) (.str name tk)) ?_);refine wpAny_mono (he _ _ ?_) (λ_ _ z=>z) λ_ _ z=>z.elim;show wpAny _ _ (handedOut v) _ _ _;rw[handedOut_of hh];exact Uw hq
end
theorem Iw(K:Frag):specialIn K (.builtin "object.__class__") "__get__"=some (some (.builtin "getset_descriptor.__get__")):=(by decide +kernel:specialIn [] (.builtin "object.__class__") "__get__"=some (some (.builtin "getset_descriptor.__get__")))
theorem Cs(K:Frag):takesIn K (.builtin "object.__class__")=some true:=(by decide +kernel:takesIn [] (.builtin "object.__class__")=some true)
section
variable{prog:Program}{w:World}{A:Around}{E:Value->Shared->Prop}{s:Shared}{K:Frag}{c:Str}{x C L:Addr}{cd:ClassData}{ox:Obj}{od:Option Obj}
theorem Bc.fclass(S:Bc K c C L cd)(od:Option Obj):findObj K C od "__class__"=some (.bind (.builtin "getset_descriptor.__get__") (.builtin "object.__class__")):=by unfold findObj;rw[S.cls,Option.bind_some,S.gc,Option.bind_some];simp[Iw,Cs]
theorem yH{Q:Option Value->Shared->Prop}(S:Bc K c C L cd)(X:K.In s.heap)(I:InstAt s.heap x ox C od)(hq:Q (some (.ref C)) {s with toks:=s.toks+1}) :
  wpAny (model prog w) A (getAttr? (.ref x) "__class__") Q E s:=by
 obtain⟨hh,g,d,t,os⟩:=s;unfold getAttr? getAttrBy?;refine kS (wpAny_mkText (kS (wpAny_attempt ?_)));exact Iv (s:=⟨hh,g,d,t+1,os⟩) (ox:=ox) (od:=od) S X I (λA' Q' q=>wK (s:=⟨hh,g,d,t+1,os⟩) S X I (S.fclass od) q) rfl (Uw hq)
theorem Fx(S:Bc K c C L cd):KitX K (.ref x) (.ref C) (λh=>∃ox od,InstAt h x ox C od) where
 ty:=λ_ _ _ ⟨_,_,I⟩=>I.type
 it:=λ_ _ X _=>by
  have hc:=S.cls;unfold clsIn at hc;split at hc
  . rename_i ho;intro A' Q' E' s' k q;unfold isType loadHead;exact kS (wpAny_loadPart (k _ _ (X _ _ ho)) (Uw q))
  . cases hc
 ne:=λh tp dd its n sl X htp=>by
  refine Bool.eq_false_iff.mpr λq=>?_;have e:C=tp:=Value.ref.inj (beq_iff_eq.mp q);subst e;have hc:=S.cls;unfold clsIn at hc;split at hc
  . rename_i ho;have z:=(X _ _ ho).symm.trans htp;cases z
  . cases hc
 ca:=λX ⟨_,_,I⟩ k=>yH S X I k
end
end L2
namespace L2
open PySem PySem.Spec PyProof.Rows
section
variable{X:Cx}{ab:List (Addr×Obj)}{σ:St}{H:Hp}{s:Shared}
theorem PU.reword{a:Addr}{u w:HO}(I:PU X ab σ H s)(h:H a=some u)(hu:¬M3 u)(hw:∀y,u≠.own y)(nw:g9 X.prog X.w H s.heap a w)(hw2:∀C dx fs,w≠.ins C dx fs):PU X ab σ (PD H a w) s:=by
 have ne:∀b,H b=none->b≠a:=λb n e=>by subst e;rw[h]at n;cases n
 have nt:∀b xs,H b=some (.tup xs)->b≠a:=λb xs n e=>by subst e;rw[h]at n;cases n;exact hu True.intro
 have nf:∀b o z,H b=some (.frz o z)->b≠a:=λb o z n e=>by subst e;rw[h]at n;cases n;exact hu True.intro
 have no:∀b z,H b=some (.own z)->b≠a:=λb z n e=>by subst e;rw[h]at n;cases n;exact hw _ rfl
 refine⟨I.ok,I.os,I.bare,⟨I.base.keep,I.base.slot,λb ob e n hx=>?_,I.base.there,λb xs e=>?_,λb ob z e=>?_,λb ps e=>?_⟩,I.loc,I.cell,?_,λx c e=>?_,λp hp=>?_,λb z e=>?_,I.len⟩
 . have q:=I.base.free b ob e n hx;rw[aE (ne b q)];exact q
 . have q:=I.base.tups b xs e;rw[aE (nt b xs q)];exact q
 . have q:=I.base.frzs b ob z e;rw[aE (nf b ob z q)];exact q
 . have q:=I.base.tbls b ps e;rw[aE (λz=>by subst z;rw[h]at q;cases q;exact hu True.intro)];exact q
 . rw[aE (ne _ I.free)];exact I.free
 .
  rcases I.freeC x c e with z|⟨hf,o,z⟩
  . exact .inl (by rw[aE (ne _ z)];exact z)
  . exact .inr ⟨hf,o,by rw[aE (nf _ _ _ z)];exact z⟩
 . obtain⟨e,n,r⟩:=I.pin p hp;exact⟨e,by rw[aE (ne _ n)];exact n,r⟩
 .
  by_cases hb:b=a
  . subst hb;rw[bG]at e;cases e;exact nw.stay (λc v _ q=>q) (λc q=>by rw[aE (no c _ q)];exact q) (λc xs q=>by rw[aE (nt c xs q)];exact q) λc ob _ _ q=>by rw[aE (nf c ob _ q)];exact q
  . rw[aE hb]at e;exact(I.hok b z e).stay (λc v _ q=>q) (λc q=>by rw[aE (no c _ q)];exact q) (λc xs q=>by rw[aE (nt c xs q)];exact q) λc ob _ _ q=>by rw[aE (nf c ob _ q)];exact q
theorem PU.freezeL{a:Addr}{xs:List V}(I:PU X ab σ H s)(h:H a=some (.lst xs)):∃o,PU X ab σ (PD H a (.frz o (.lst xs))) s:=by obtain⟨z,its,n,r,e⟩:=id (I.hok a _ h);exact⟨_,I.reword h (λq=>q) (λ_ q=>nomatch q) ⟨e,z,its,n,r,e⟩ (λ_ _ _ q=>nomatch q)⟩
end
section
variable{K:PySem.W.Frag}{Pr H:Hp}{σ:St}{Z:Ev}
theorem aA.new(E:aA K Pr H σ Z){p:Addr}{o:HO}(h:H p=none):aA K Pr (PD H p o) σ Z:=by
 have k:∀b u,H b=some u->PD H p o b=some u:=λb u e=>by rw[aE (bK e h)];exact e
 exact⟨λb u e=>k b u (E.sub b u e),E.nd,E.off,Paired.impMem E.sl λl hl s q=>q.pres (λb u _ e=>k b u e) l λa e=>by
  obtain⟨vs,e,_⟩:=E.at_own (hC.mpr ⟨l,hl,e⟩)
  rw[k _ _ e,e]⟩
theorem bL.new{vs:List V}{ds:List D}(r:bL K H vs ds){p:Addr}{o:HO}(h:H p=none):bL K (PD H p o) vs ds:=r.pres λb u _ e=>by rw[aE (bK e h)];exact e
theorem QC.new{v:V}{d:D}(r:QC K H v d){p:Addr}{o:HO}(h:H p=none):QC K (PD H p o) v d:=r.pres λb u _ e=>by rw[aE (bK e h)];exact e
theorem o7:owns (.un::Z)=owns Z:=rfl
theorem aZ{a:Addr}{xs:List D}:owns (.own a xs::Z)=a::owns Z:=rfl
theorem aA.cons_d(E:aA K Pr H σ Z){v:V}{x:D}(r:QC K H v x):aA K Pr H (some v::σ) (.d x::Z):=⟨E.sub,E.nd,E.off,.cons ⟨v,rfl,r⟩ E.sl⟩
theorem aA.cons_un(E:aA K Pr H σ Z){v:Option V}:aA K Pr H (v::σ) (.un::Z):=⟨E.sub,E.nd,E.off,.cons True.intro E.sl⟩
theorem aA.cons_own(E:aA K Pr H σ Z){p:Addr}{vs:List V}{xs:List D}(h:H p=none)(r:bL K H vs xs):aA K Pr (PD H p (.lst vs)) (some (.ref p)::σ) (.own p xs::Z):=by
 have E':=E.new (o:=.lst vs) h;refine⟨E'.sub,?_,λa ha=>?_,.cons ⟨rfl,vs,bG,r.new h⟩ E'.sl⟩
 . rw[aZ];refine List.nodup_cons.mpr ⟨λhm=>?_,E.nd⟩;obtain⟨us,e,_⟩:=E.at_own hm;rw[h]at e;cases e
 .
  rw[aZ]at ha;rcases Uq.mp ha with rfl|ha
  .
   cases q:Pr a with
   |none=>rfl
   |some u=>rw[E.sub a u q]at h;cases h
  . exact E.off a ha
theorem aA.cons_tup(E:aA K Pr H σ Z){p:Addr}{vs:List V}{xs:List D}(h:H p=none)(r:bL K H vs xs):aA K Pr (PD H p (.tup vs)) (some (.ref p)::σ) (.d (.tup xs)::Z) :=
 (E.new h).cons_d (.tup (P1.of bG) (r.new h))
theorem aA.freeze(E:aA K Pr H σ (.own a xs::Z)){vs:List V}(h:H a=some (.lst vs))(o:Obj):aA K Pr (PD H a (.frz o (.lst vs))) σ (.d (.lst xs)::Z):=by
 have pa:Pr a=none:=E.off a (by rw[aZ];exact tv);have nd:=E.nd;rw[aZ]at nd;obtain⟨hn,nd⟩:=List.nodup_cons.mp nd;have p:sT H (PD H a (.frz o (.lst vs))):=λb u pu e=>by rw[aE];exact e;rintro rfl;rw[h]at e;cases e;exact pu
 refine⟨λb u e=>?_,nd,λb hb=>E.off b (by rw[aZ];exact k5 _ hb),?_⟩
 . rw[aE];exact E.sub b u e;rintro rfl;rw[pa]at e;cases e
 .
  have sl:=E.sl
  cases sl with
  | cons q t =>
   obtain⟨e,us,e2,r⟩:=q;rw[h]at e2;cases e2;refine .cons ⟨.ref a,e,.lst (.inl ⟨o,bG⟩) (r.pres p)⟩ (Paired.impMem t λl hl s z=>z.pres p l λb hbm=>?_);rw[aE];rintro rfl;exact hn (hC.mpr ⟨l,hl,hbm⟩)
theorem aJ(l:L)(Z:Ev):owns (l::Z)=a9 l++owns Z:=rfl
theorem o8{a:Addr}{xs ys:List D}:∀{Z:Ev}{i:Nat},Z[i]?=some (.own a xs)->owns (Z.set i (.own a ys))=owns Z
 |[],_,h=>by simp at h
 |_::_,0,h=>by simp at h;subst h;rfl
 | l::Z,i+1,h=>by have ih:=o8 (i:=i) (Z:=Z) (ys:=ys) (by simpa using h);show owns (l::Z.set i (.own a ys))=owns (l::Z);rw[aJ,aJ,ih]
theorem gJ{k:L}:∀{Z:Ev}{i:Nat}{l:L},Z[i]?=some k->a9 l=[]->(owns Z).Perm (a9 k++owns (Z.set i l))
 |[],_,_,h,_=>by simp at h
 | _::Z,0,l,h,hl=>by simp at h;subst h;show(owns (_::Z)).Perm (_++owns (l::Z));rw[aJ,aJ,hl];exact List.Perm.refl _
 | m::Z,i+1,l,h,hl=>by have ih:=gJ (i:=i) (Z:=Z) (l:=l) (by simpa using h) hl;show(owns (m::Z)).Perm (a9 k++owns (m::Z.set i l));rw[aJ,aJ];refine(List.Perm.append_left _ ih).trans ?_;rw[<- List.append_assoc,<- List.append_assoc];exact List.Perm.append_right _ List.perm_append_comm
theorem Ct{a:Addr}{xs:List D}{Z:Ev}{i:Nat}{l:L}(h:Z[i]?=some (.own a xs))(hl:a9 l=[]):(owns Z).Perm (a::owns (Z.set i l)):=gJ h hl
theorem Ai{Z:Ev}{i:Nat}(l:L)(h:Z[i]?=some .un):(owns (Z.set i l)).Perm (a9 l++owns Z):=by
 have hi:i<Z.length:=(k4.mp h).1;have pm:=gJ (Z:=Z.set i l) (i:=i) (k:=l) (l:=.un) (by simp[hi]) rfl;rw[List.set_set]at pm;have e2:Z.set i .un=Z:=by have:=List.set_getElem_self (as:=Z) (i:=i) hi;have e3:Z[i]=.un:=(k4.mp h).2;rw[e3]at this;exact this
 rw[e2]at pm;exact pm
theorem aA.outL(E:aA K Pr H σ Z){i:Nat}{k:L}{s:Option V}(h:Z[i]?=some k)(hs:σ[i]?=some s):aA K Pr H (s::σ) (k::Z.set i .un):=by have pm:=gJ (l:=.un) h rfl;obtain⟨s',hs',q⟩:=Paired.get2 E.sl h;rw[hs]at hs';cases hs';refine⟨E.sub,?_,λb hb=>E.off b (pm.mem_iff.mpr (by rw[aJ]at hb;exact hb)),.cons q (Paired.set_r i E.sl λ_ _=>by simp only[a6])⟩;rw[aJ];exact pm.nodup_iff.mp E.nd
theorem aA.out(E:aA K Pr H σ Z){i:Nat}{a:Addr}{xs:List D}(h:Z[i]?=some (.own a xs)):aA K Pr H (some (.ref a)::σ) (.own a xs::Z.set i .un):=by
 have pm:=Ct (l:=.un) h rfl;obtain⟨s,hs,q⟩:=Paired.get2 E.sl h;refine⟨E.sub,?_,λb hb=>E.off b (pm.mem_iff.mpr (by rw[aZ]at hb;exact hb)),.cons ?_ (Paired.set_r i E.sl λ_ _=>by simp only[a6])⟩
 . rw[aZ];exact pm.nodup_iff.mp E.nd
 . obtain⟨_,r⟩:=q;exact⟨rfl,r⟩
theorem aA.back{v:Option V}{l:L}(E:aA K Pr H (v::σ) (l::Z)){i:Nat}(h:Z[i]?=some .un)(hs:σ[i]?=some v):aA K Pr H σ (Z.set i l):=by
 have sl:=E.sl
 cases sl with
 | cons q t =>
  have e1:Z.set i l=(Z.set i l):=rfl;refine⟨E.sub,?_,λb hb=>?_,Paired.set_r i t λa e=>by rw[hs]at e;cases e;exact q⟩
  . exact(Ai l h).nodup_iff.mpr E.nd
  . exact E.off b ((Ai l h).mem_iff.mp hb)
theorem aA.write(E:aA K Pr H σ (.own a xs::Z)){vs:List V}{ys:List D}(r:bL K H vs ys):aA K Pr (PD H a (.lst vs)) σ (.own a ys::Z):=by
 have pa:Pr a=none:=E.off a (by rw[aZ];exact tv);have nd:=E.nd;rw[aZ]at nd;obtain⟨hn,nd'⟩:=List.nodup_cons.mp nd;obtain⟨us,ha,mu⟩:=E.at_own (a:=a) (by rw[aZ];exact tv);have p:sT H (PD H a (.lst vs)):=λb u pu e=>by rw[aE];exact e;rintro rfl;rw[ha]at e;cases e;exact mu.no pu
 refine⟨λb u e=>?_,nd,λb hb=>E.off b hb,?_⟩
 . rw[aE];exact E.sub b u e;rintro rfl;rw[pa]at e;cases e
 .
  have sl:=E.sl
  cases sl with
  | cons q t =>
   obtain⟨e,_⟩:=q;refine .cons ⟨e,vs,bG,r.pres p⟩ (Paired.impMem t λl hl s z=>z.pres p l λb hbm=>?_);rw[aE];rintro rfl;exact hn (hC.mpr ⟨l,hl,hbm⟩)
end
noncomputable abbrev W(α:Type):=Ev->(α->Ev->Prop)->Prop
inductive Fl where
 |nx|bk|ct|rt (r:L)
def EL(X:Cx)(ab:List (Addr×Obj))(σ:St)(Pr:Hp)(kz:L->Ev->Prop)(u:Value)(s':Shared):Prop :=
 ∃v H' r Z',PU X ab σ H' s'/\cJ v u/\aA X.K Pr H' (some v::σ) (r::Z')/\kz r Z'
def PL(X:Cx)(e:Expr)(t:W L):Prop :=
 ∀(ab:List (Addr×Obj))(s:Shared)(σ:St)(H Pr:Hp)(Z:Ev)(kz:L->Ev->Prop),PU X ab σ H s->aA X.K Pr H σ Z->t Z kz->wpAny (model X.prog X.w) X.A (eval e X.env) (EL X ab σ Pr kz) X.xe s
def EB(X:Cx)(ab:List (Addr×Obj))(σ:St)(Pr:Hp)(kz:Bool->Ev->Prop)(b:Bool)(s':Shared):Prop :=
 ∃H' Z',PU X ab σ H' s'/\aA X.K Pr H' σ Z'/\kz b Z'
def PB(X:Cx)(e:Expr)(t:W Bool):Prop :=
 ∀(ab:List (Addr×Obj))(s:Shared)(σ:St)(H Pr:Hp)(Z:Ev)(kz:Bool->Ev->Prop),PU X ab σ H s->aA X.K Pr H σ Z->t Z kz->wpAny (model X.prog X.w) X.A (isTrue e X.env (eval e X.env)) (EB X ab σ Pr kz) X.xe s
def EA(X:Cx)(ab:List (Addr×Obj))(σ:St)(Pr:Hp)(bs:List (Option Nat))(kz:List L->Ev->Prop)(us:List Value)(s':Shared):Prop :=
 ∃vs H' ls Z',PU X ab σ H' s'/\ck vs us/\vs.length=ls.length/\vs.length=bs.length/\aA X.K Pr H' (vs.map some++σ) (ls++Z')/\(∀(k i:Nat),bs[k]?=some (some i)->ls[k]?=some L.un/\∃v,vs[k]?=some v/\σ[i]?=some (some v))/\kz ls Z'
def QD(X:Cx)(es:List Expr)(bs:List (Option Nat))(t:W (List L)):Prop :=
 ∀(pos:Pos)(ab:List (Addr×Obj))(s:Shared)(σ:St)(H Pr:Hp)(Z:Ev)(kz:List L->Ev->Prop),PU X ab σ H s->aA X.K Pr H σ Z->t Z kz ->
  wpAny (model X.prog X.w) X.A (spliced (backTo pos (starEach es X.env))) (EA X ab σ Pr bs kz) X.xe s
def SM(X:Cx)(ab:List (Addr×Obj))(Pr:Hp)(kz:Fl->Ev->Prop)(f:Flow)(s':Shared):Prop :=
 match f with
 |.next=>∃σ' H' Z',PU X ab σ' H' s'/\aA X.K Pr H' σ' Z'/\kz .nx Z'
 |.brk=>∃σ' H' Z',PU X ab σ' H' s'/\aA X.K Pr H' σ' Z'/\kz .bk Z'
 |.cont=>∃σ' H' Z',PU X ab σ' H' s'/\aA X.K Pr H' σ' Z'/\kz .ct Z'
 |.ret u=>∃v σ' H' r Z' τ,PU X ab σ' H' s'/\cJ v u/\aA X.K Pr H' (some v::τ) (r::Z')/\kz (.rt r) Z'
def PM(X:Cx)(st:Stmt)(t:W Fl):Prop :=
 ∀(ab:List (Addr×Obj))(s:Shared)(σ:St)(H Pr:Hp)(Z:Ev)(kz:Fl->Ev->Prop),PU X ab σ H s->aA X.K Pr H σ Z->t Z kz->wpAny (model X.prog X.w) X.A (exec st X.env) (SM X ab Pr kz) X.xe s
def QE(X:Cx)(st:List Stmt)(t:W Fl):Prop :=
 ∀(ab:List (Addr×Obj))(s:Shared)(σ:St)(H Pr:Hp)(Z:Ev)(kz:Fl->Ev->Prop),PU X ab σ H s->aA X.K Pr H σ Z->t Z kz->wpAny (model X.prog X.w) X.A (execs st X.env) (SM X ab Pr kz) X.xe s
section
variable{X:Cx}{e a b:Expr}{pos:Pos}{ta tb:W L}
theorem PL.of{t:TE}{u:W L}(h:PE X e t)(q:∀σ H Pr Z kz,aA X.K Pr H σ Z->u Z kz->t σ H λv H'=>∃r Z',aA X.K Pr H' (some v::σ) (r::Z')/\kz r Z'):PL X e u :=
 λab s σ H Pr Z kz I E hu=>PX (h ab s σ H _ I (q σ H Pr Z kz E hu)) λu s1 ⟨v,H1,I1,r1,r,Z',E1,p⟩=>⟨v,H1,r,Z',I1,r1,E1,p⟩
mutual
noncomputable def bE:L->Option D
 |.un=>none
 |.d x=>some x
 |.own _ xs=>some (.lst xs)
 |.bx none ls=>(cz ls).map .tup
 |.bx (some _) ls=>(cz ls).map .lst
 |.dic _ _=>none
noncomputable def cz:List L->Option (List D)
 |[]=>some []
 | l::ls=>match bE l,cz ls with
  |some x,some xs=>some (x::xs)
  |_,_=>none
end
def dH:Option D->(D->Prop)->Prop
 |some x,k=>k x
 |none,_=>False
theorem Bd{o:Option D}{k:D->Prop}(h:dH o k):∃x,o=some x/\k x:=by
 cases o with
 |some x=>exact⟨x,rfl,h⟩
 |none=>exact h.elim
def Be(a:Option Addr)(ls:List L)(k:D->Prop):Prop:=dH (bE (.bx a ls)) k
def QF:L->(D->Prop)->Prop
 |.un,_=>False
 |.d x,k=>k x
 |.own _ xs,k=>k (.lst xs)
 |.bx a ls,k=>Be a ls k
 |.dic _ _,_=>False
theorem uO{a:Option Addr}{ls:List L}{k:D->Prop}(h:Be a ls k):∃x,bE (.bx a ls)=some x/\k x:=Bd h
def EW(ls:List L)(k:List D->Prop):Prop:=∃xs,cz ls=some xs/\k xs
theorem HE(ls:List L)(k:D->Prop):Be none ls k=EW ls λxs=>k (.tup xs):=by
 unfold Be EW;simp only[bE]
 cases cz ls with
 |none=>simp[dH]
 |some xs=>simp[dH]
theorem Lk(a:Addr)(ls:List L)(k:D->Prop):Be (some a) ls k=EW ls λxs=>k (.lst xs):=by
 unfold Be EW;simp only[bE]
 cases cz ls with
 |none=>simp[dH]
 |some xs=>simp[dH]
theorem Aj(k:List D->Prop):EW [] k=k []:=by unfold EW;simp[cz]
theorem Iy(l:L)(k:D->Prop):QF l k=∃x,bE l=some x/\k x:=by
 cases l with
 |un=>simp[QF,bE]
 |d x=>simp[QF,bE]
 |own a xs=>simp[QF,bE]
 | bx a ls =>
  show dH _ k=_
  cases bE (.bx a ls)with
  |none=>simp[dH]
  |some x=>simp[dH]
 |dic a kvs=>simp[QF,bE]
theorem wL(l:L)(ls:List L)(k:List D->Prop):EW (l::ls) k=QF l λx=>EW ls λxs=>k (x::xs):=by
 rw[Iy];unfold EW;simp only[cz]
 cases bE l with
 |none=>simp
 | some x =>
  cases cz ls with
  |none=>simp
  |some xs=>simp
theorem bW{K:PySem.W.Frag}{H:Hp}:∀{vs:List V}{ls:List L},bY K H vs ls↔Paired (a6 K H) (vs.map some) ls
 |[],[]=>⟨λ_=>.nil,λ_=>by simp only[bY]⟩
 | v::vs,l::ls=>by
  simp only[bY,List.map_cons];constructor
  . rintro⟨w,us,e,h1,h2⟩;cases e;exact .cons h1 (bW.mp h2)
  .
   intro h
   cases h with
   |cons q t=>exact⟨v,vs,rfl,q,bW.mpr t⟩
 | [],l::ls=>by
  simp only[bY,List.map_nil];constructor
  . rintro⟨w,us,e,_⟩;cases e
  . intro h;cases h
 | v::vs,[]=>by
  simp only[bY,List.map_cons];constructor
  . intro h;cases h
  . intro h;cases h
theorem yI{K:PySem.W.Frag}{H:Hp}:∀{vs:List V}{xs:List D},Paired (a6 K H) (vs.map some) (xs.map .d)->bL K H vs xs
 |[],[],_=>.nil
 | v::vs,x::xs,h=>by
  simp only[List.map_cons]at h
  cases h with
  | cons q t =>
   simp only[a6]at q;obtain⟨w,e,r⟩:=q;cases e;exact .cons r (yI t)
 |[],_::_,h=>by simp only[List.map_cons,List.map_nil]at h;cases h
 |_::_,[],h=>by simp only[List.map_cons,List.map_nil]at h;cases h
theorem bY.len{K:PySem.W.Frag}{H:Hp}{vs:List V}{ls:List L}(h:bY K H vs ls):vs.length=ls.length:=by have:=Paired.length (bW.mp h);simpa using this
theorem hG:∀{ls:List L}{xs:List D},cz ls=some xs->xs.length=ls.length
 |[],_,h=>by simp[cz]at h;subst h;rfl
 | l::ls,xs,h=>by
  simp only[cz]at h;split at h
  . rename_i x ys h1 h2;cases h;simp[hG h2]
  . cases h
theorem aA.openT{K:PySem.W.Frag}{Pr H:Hp}{σ:St}{Z:Ev}{v:Option V}{ls:List L}(E:aA K Pr H (v::σ) (.bx none ls::Z)):∃a vs,v=some (.ref a)/\P1 K H a vs/\vs.length=ls.length/\aA K Pr H (vs.map some++σ) (ls++Z):=by
 have sl:=E.sl
 cases sl with
 | cons q t =>
  simp only[a6]at q;obtain⟨a,vs,e,h,r⟩:=q;have ow:owns (.bx none ls::Z)=owns (ls++Z):=by rw[aJ,aD];simp only[a9,Option.toList,List.nil_append,c9]
  exact⟨a,vs,e,h,r.len,E.sub,by rw[<- ow];exact E.nd,λb hb=>E.off b (by rw[ow];exact hb),Paired.app (bW.mp r) t⟩
theorem aA.openO{K:PySem.W.Frag}{Pr H:Hp}{σ:St}{Z:Ev}{v:Option V}{a:Addr}{ls:List L}(E:aA K Pr H (v::σ) (.bx (some a) ls::Z)):∃vs,v=some (.ref a)/\H a=some (.lst vs)/\vs.length=ls.length/\a∉owns (ls++Z)/\Pr a=none/\aA K Pr H (vs.map some++σ) (ls++Z):=by
 have sl:=E.sl
 cases sl with
 | cons q t =>
  simp only[a6]at q;obtain⟨e,vs,h,r⟩:=q;have ow:owns (.bx (some a) ls::Z)=a::owns (ls++Z):=by rw[aJ,aD];simp only[a9,Option.toList,List.cons_append,List.nil_append,c9]
  have nd:=E.nd;rw[ow]at nd;obtain⟨n1,n2⟩:=List.nodup_cons.mp nd;exact⟨vs,e,h,r.len,n1,E.off a (by rw[ow];exact tv),E.sub,n2,λb hb=>E.off b (by rw[ow];exact k5 _ hb),Paired.app (bW.mp r) t⟩
def o9(H H':Hp)(S:List Addr):Prop:=sT H H'/\(∀b,b∉S->H' b=H b)/\∀a∈S,∀vs,H a=some (.lst vs)->∃o,H' a=some (.frz o (.lst vs))
theorem o9.refl(H:Hp):o9 H H []:=⟨λ_ _ _ e=>e,λ_ _=>rfl,λ_ h=>by simp at h⟩
mutual
theorem Ll:∀(l:L){ab:List (Addr×Obj)}{σ0:St}{s:Shared}{Pr H:Hp}{σ:St}{Z:Ev}{v:Option V}{x:D},PU X ab σ0 H s->aA X.K Pr H (v::σ) (l::Z)->bE l=some x->∃H',PU X ab σ0 H' s/\aA X.K Pr H' (v::σ) (.d x::Z)/\o9 H H' (a9 l)
 |.un,_,_,_,_,_,_,_,_,_,_,_,h=>by simp[bE]at h
 |.dic _ _,_,_,_,_,_,_,_,_,_,_,_,h=>by simp[bE]at h
 | .d y,_,_,_,_,_,_,_,_,_,I,E,h=>by
  simp only[bE,Option.some.injEq]at h
  subst h
  exact⟨_,I,E,o9.refl _⟩
 | .own a xs,_,_,_,_,H,σ,Z,v,_,I,E,h=>by
  simp only[bE,Option.some.injEq]at h
  subst h
  have sl:=E.sl
  cases sl with
  | cons q t =>
   simp only[a6]at q
   obtain⟨e0,vs,ha,r⟩:=q
   obtain⟨o,I'⟩:=I.freezeL ha
   refine⟨_,I',E.freeze ha o,λb u pu eb=>?_,λb hb=>?_,λb hb vs' eb=>?_⟩
   .
    rw[aE];exact eb
    rintro rfl
    rw[ha]at eb;cases eb;exact pu
   .
    rw[aE]
    rintro rfl
    exact hb (by simp[a9])
   .
    have e:b=a:=by simpa[a9]using hb
    subst e
    rw[ha]at eb;cases eb
    exact⟨o,bG⟩
 | .bx none ls,_,_,_,Pr,H,σ,Z,v,x,I,E,h=>by
  simp only[bE,Option.map_eq_some_iff]at h
  obtain⟨xs,h,rfl⟩:=h
  obtain⟨a,vs,rfl,ha,hl,E1⟩:=E.openT
  obtain⟨H',I',E',F⟩:=ID ls hl I E1 h
  have hxl:=hG h
  obtain⟨s1,s2⟩:=Paired.unapp (by simp[hl,hxl]) E'.sl
  refine⟨H',I',(E'.drop (by simp[hl,hxl])).cons_d (.tup (ha.pres F.1) (yI s1)),F.1,λb hb=>F.2.1 b ?_,λb hb=>F.2.2 b ?_⟩
  .
   simpa[a9,c9]using hb
  .
   simpa[a9,c9]using hb
 | .bx (some a) ls,_,_,_,Pr,H,σ,Z,v,x,I,E,h=>by
  simp only[bE,Option.map_eq_some_iff]at h
  obtain⟨xs,h,rfl⟩:=h
  obtain⟨vs,rfl,ha,hl,hn,hp,E1⟩:=E.openO
  obtain⟨H',I',E',F⟩:=ID ls hl I E1 h
  have hxl:=hG h
  have hal:a∉owns ls:=λz=>hn (by rw[aD];exact List.mem_append_left _ z)
  have haρ:a∉owns Z:=λz=>hn (by rw[aD];exact List.mem_append_right _ z)
  have ha':H' a=some (.lst vs):=(F.2.1 a hal).trans ha
  obtain⟨s1,s2⟩:=Paired.unapp (by simp[hl,hxl]) E'.sl
  have E2:=E'.drop (by simp[hl,hxl])
  have E3:aA X.K Pr H' (some (.ref a)::σ) (.own a xs::Z):=by
   refine⟨E2.sub,?_,λb hb=>?_,.cons ?_ E2.sl⟩
   .
    rw[aZ];exact List.nodup_cons.mpr ⟨haρ,E2.nd⟩
   .
    rw[aZ]at hb
    rcases Uq.mp hb with z|z
    .
     rw[z];exact hp
    .
     exact E2.off b z
   .
    unfold a6
    exact⟨rfl,vs,ha',yI s1⟩
  obtain⟨o,I2⟩:=I'.freezeL ha'
  refine⟨_,I2,E3.freeze ha' o,λb u pu e=>?_,λb hb=>?_,λb hb vs' eb=>?_⟩
  .
   rw[aE];exact F.1 b u pu e
   rintro rfl
   rw[ha]at e;cases e;exact pu
  .
   have hb':b≠a/\b∉owns ls:=by simpa[a9,c9,not_or]using hb
   rw[aE hb'.1]
   exact F.2.1 b hb'.2
  .
   by_cases hba:b=a
   .
    subst hba
    rw[ha]at eb;cases eb
    exact⟨o,bG⟩
   .
    have hb':b∈owns ls:=by
     rcases(by simpa[a9,c9]using hb:b=a∨b∈owns ls)with z|z
     .
      exact absurd z hba
     .
      exact z
    rw[aE hba]
    exact F.2.2 b hb' vs' eb
theorem ID:∀(ls:List L){ab:List (Addr×Obj)}{σ0:St}{s:Shared}{Pr H:Hp}{σ:St}{Z:Ev}{vs:List V}{xs:List D},vs.length=ls.length->PU X ab σ0 H s->aA X.K Pr H (vs.map some++σ) (ls++Z)->cz ls=some xs->∃H',PU X ab σ0 H' s/\aA X.K Pr H' (vs.map some++σ) (xs.map .d++Z)/\o9 H H' (owns ls)
 | [],_,_,_,_,_,_,_,vs,xs,hl,I,E,h=>by
  simp only[cz,Option.some.injEq]at h
  subst h
  cases vs with
  |nil=>exact⟨_,I,E,o9.refl _⟩
  |cons _ _=>simp at hl
 | l::ls,_,_,_,Pr,H,σ,Z,vs,xs,hl,I,E,h=>by
  simp only[cz]at h
  split at h
  rotate_left
  .
   cases h
  rename_i x ys h1 h2
  cases h
  cases vs with
  |nil=>simp at hl
  | cons v vs =>
   have hl':vs.length=ls.length:=by simpa using hl
   obtain⟨H1,I1,E1,F1⟩:=Ll l I E h1
   have E2:aA X.K (bq H1 (ls++Z)) H1 (vs.map some++σ) (ls++Z):=(E1.drop (τ:=[some v]) (lam:=[.d x]) rfl).wide
   obtain⟨H2,I2,E3,F2⟩:=ID ls hl' I1 E2 h2
   have hyl:=hG h2
   have E4:aA X.K Pr H2 (some v::(vs.map some++σ)) (.d x::(ys.map .d++Z)):=by
    have z:=aA.step (τ:=[some v]) (lam:=[.d x]) (w:=[]) (μ:=[]) (σ':=vs.map some++σ) (Z':=ys.map .d++Z) E1 rfl E3 rfl
    exact z
   refine⟨H2,I2,E4,λb u pu e=>F2.1 b u pu (F1.1 b u pu e),λb hb=>?_,λb hb vs' eb=>?_⟩
   .
    rw[aJ]at hb
    rw[F2.2.1 b (λz=>hb (List.mem_append_right _ z)),F1.2.1 b (λz=>hb (List.mem_append_left _ z))]
   .
    rw[aJ]at hb
    rcases List.mem_append.mp hb with z|z
    .
     obtain⟨o,eo⟩:=F1.2.2 b z vs' eb
     exact⟨o,F2.1 b _ True.intro eo⟩
    .
     have hn:b∉a9 l:=λz'=>by
      have nd:=E.nd
      rw[List.cons_append,aJ,aD]at nd
      exact(List.nodup_append.mp nd).2.2 b z' b (List.mem_append_left _ z) rfl
     exact F2.2.2 b z vs' ((F1.2.1 b hn).trans eb)
end
theorem EL.frz{ab:List (Addr×Obj)}{σ:St}{Pr:Hp}{kz:D->Ev->Prop}{u:Value}{s':Shared}(h:EL X ab σ Pr (λr Z=>QF r λx=>kz x Z) u s') :
  ∃v H' x Z',PU X ab σ H' s'/\cJ v u/\aA X.K Pr H' (some v::σ) (.d x::Z')/\kz x Z':=by
 obtain⟨v,H',r,Z',I,rv,E,p⟩:=h
 cases r with
 |un=>exact p.elim
 |d x=>exact⟨v,H',x,Z',I,rv,E,p⟩
 | own a xs =>
  obtain⟨H2,I2,E2,_⟩:=Ll (.own a xs) I E rfl;exact⟨v,H2,.lst xs,Z',I2,rv,E2,p⟩
 | bx a ls =>
  obtain⟨x,ex,p⟩:=uO p;obtain⟨H2,I2,E2,_⟩:=Ll (.bx a ls) I E ex;exact⟨v,H2,x,Z',I2,rv,E2,p⟩
 |dic a kvs=>exact p.elim
def br(t:W L):W L:=λZ kz=>t Z λr Z1=>QF r λx=>kz (.d x) Z1
theorem ay{t:W L}(h:PL X e t):PL X e (br t):=λab s σ H Pr Z kz I E ht =>
 PX (h ab s σ H Pr Z _ I E ht) λu s1 q=>by obtain⟨v,H',x,Z',I',rv,E',p⟩:=EL.frz (kz:=λx Z=>kz (.d x) Z) q;exact⟨v,H',.d x,Z',I',rv,E',p⟩
theorem aA.head_d{K:PySem.W.Frag}{Pr H:Hp}{v:Option V}{σ:St}{x:D}{Z:Ev}(E:aA K Pr H (v::σ) (.d x::Z)):∃w,v=some w/\QC K H w x:=by
 have sl:=E.sl
 cases sl with
 |cons q t=>exact q
theorem aA.tail{K:PySem.W.Frag}{Pr H:Hp}{v:Option V}{σ:St}{l:L}{Z:Ev}(E:aA K Pr H (v::σ) (l::Z)):aA K Pr H σ Z:=aA.drop (τ:=[v]) (lam:=[l]) E rfl
theorem two{ab:List (Addr×Obj)}{s:Shared}{σ:St}{H Pr:Hp}{Z:Ev}{R:D->D->Ev->Prop}(ha:PL X a ta)(hb:PL X b tb)(I:PU X ab σ H s)(E:aA X.K Pr H σ Z)
  (h:ta Z λx Z1=>QF x λdx=>tb Z1 λy Z2=>QF y λdy=>R dx dy Z2) {α:Type} {Q:α->Shared->Prop} {f:Value->Value->Sem α}
  (hf:∀v u s2 x y H2 dx dy Z2,PU X ab σ H2 s2->cJ x v->cJ y u->aA X.K Pr H2 (some y::some x::σ) (.d dy::.d dx::Z2)->QC X.K H2 x dx->QC X.K H2 y dy->R dx dy Z2->wpAny (model X.prog X.w) X.A (f v u) Q X.xe s2) :
  wpAny (model X.prog X.w) X.A (eval a X.env) (λv s₁=>wpAny (model X.prog X.w) X.A (eval b X.env) (λu s₂=>wpAny (model X.prog X.w) X.A (f v u) Q X.xe s₂) X.xe s₁) X.xe s:=by
 refine PX (ha ab s σ H Pr Z _ I E h) λv s1 q=>?_;obtain⟨x,H1,dx,Z1,I1,r1,E1,q1⟩:=EL.frz (kz:=λdx Z1=>tb Z1 λy Z2=>QF y λdy=>R dx dy Z2) q;refine PX (hb ab s1 σ H1 _ Z1 _ I1 E1.tail.wide q1) λu s2 q=>?_;obtain⟨y,H2,dy,Z2,I2,r2,E2,q2⟩:=EL.frz (kz:=λdy Z2=>R dx dy Z2) q;have E3:aA X.K Pr H2 (some y::some x::σ) (.d dy::.d dx::Z2):=aA.step (τ:=[some x]) (lam:=[.d dx]) (w:=[some y]) (μ:=[.d dy]) E1 rfl E2 rfl;obtain⟨_,e1,p1⟩:=E3.head_d;obtain⟨_,e2,p2⟩:=E3.tail.head_d;cases e1;cases e2;exact hf v u s2 x y H2 dx dy Z2 I2 r1 r2 E3 p2 p1 q2
abbrev QG:=D->D->(L->Prop)->Prop
def QH(X:Cx)(f:Value->Value->Sem Value)(op:QG):Prop :=
 ∀(ab:List (Addr×Obj))(s:Shared)(σ:St)(H Pr:Hp)(Z:Ev)(x y:V)(v u:Value)(dx dy:D)(kz:L->Prop),PU X ab σ H s->cJ x v->cJ y u->aA X.K Pr H σ Z->QC X.K H x dx->QC X.K H y dy->op dx dy kz ->
  wpAny (model X.prog X.w) X.A (f v u) (λw s'=>∃z H' r,PU X ab σ H' s'/\cJ z w/\aA X.K Pr H' (some z::σ) (r::Z)/\kz r) X.xe s
theorem QH.of{f:Value->Value->Sem Value}{r:R2}{op:QG}(h:Qd X f r)(q:∀σ H Pr Z x y dx dy kz,aA X.K Pr H σ Z->QC X.K H x dx->QC X.K H y dy->op dx dy kz->r x y H λz H'=>∃r,aA X.K Pr H' (some z::σ) (r::Z)/\kz r):QH X f op :=
 λab s σ H Pr Z x y v u dx dy kz I rx ry E px py ho=>PX (h ab s σ H x y v u _ I rx ry (q σ H Pr Z x y dx dy kz E px py ho)) λw s' ⟨z,H',I',rz,r,E',p⟩=>⟨z,H',r,I',rz,E',p⟩
theorem QH.imp{f:Value->Value->Sem Value}{o1 o2:QG}(h1:QH X f o1)(h:∀x y p,o2 x y p->o1 x y p):QH X f o2 :=
 λab s σ H Pr Z x y v u dx dy kz I rx ry E px py ho=>h1 ab s σ H Pr Z x y v u dx dy kz I rx ry E px py (h _ _ _ ho)
def av(op:QG)(ta tb:W L):W L:=λZ kz=>ta Z λx Z1=>QF x λdx=>tb Z1 λy Z2=>QF y λdy=>op dx dy λr=>kz r Z2
theorem ax{op:Operator}{o:QG}(ho:QH X (binaryOp op) o)(ha:PL X a ta)(hb:PL X b tb):PL X (.BinOp a op b pos) (av o ta tb):=λab s σ H Pr Z kz I E h =>
 wpAny_BinOp (two (R:=λdx dy Z2=>o dx dy λr=>kz r Z2) ha hb I E h λv u s2 x y H2 dx dy Z2 I2 r1 r2 E2 p1 p2 q =>
  PX (ho ab s2 σ H2 Pr Z2 x y v u dx dy _ I2 r1 r2 E2.tail.tail p1 p2 q) λw s3 ⟨z,H3,r,I3,rz,E3,p⟩=>⟨z,H3,r,Z2,I3,rz,E3,p⟩)
theorem cA{op:CmpOp}{o:QG}(ho:QH X (compareOp op) o)(ha:PL X a ta)(hb:PL X b tb)(hm:behindInMarks op b=false):PL X (.Compare a [op] [b] pos) (av o ta tb):=λab s σ H Pr Z kz I E h =>
 wpAny_Compare1 (two (R:=λdx dy Z2=>o dx dy λr=>kz r Z2) ha hb I E h λv u s2 x y H2 dx dy Z2 I2 r1 r2 E2 p1 p2 q =>
  PX (ho ab s2 σ H2 Pr Z2 x y v u dx dy _ I2 r1 r2 E2.tail.tail p1 p2 q) λw s3 ⟨z,H3,r,I3,rz,E3,p⟩=>⟨z,H3,r,Z2,I3,rz,E3,p⟩) hm
def wC(x:D):W L:=λZ kz=>kz (.d x) Z
theorem ah {i j pos}:PL X (.Constant (.int i) j pos) (wC (.int i)):=PL.of Hq λσ H Pr Z kz E h=>⟨_,_,E.cons_d (.int i),h⟩
theorem qJ {b j pos}:PL X (.Constant (.bool b) j pos) (wC (.bl b)):=PL.of Nn λσ H Pr Z kz E h=>⟨_,_,E.cons_d (.bl b),h⟩
theorem iR {j pos}:PL X (.Constant .none j pos) (wC .non):=PL.of KW λσ H Pr Z kz E h=>⟨_,_,E.cons_d .non,h⟩
theorem dG {x j pos}:PL X (.Constant (.str x) j pos) (wC (.str x)):=PL.of Hr λσ H Pr Z kz E h=>⟨_,_,E.cons_d (.str x),h⟩
def Lm(o:Option L)(i:Nat)(Z:Ev)(kz:L->Ev->Prop):Prop:=match o with
 |some (.d x)=>kz (.d x) Z
 |some (.own _ xs)=>kz (.d (.lst xs)) (Z.set i (.d (.lst xs)))
 |some (.bx a ls)=>Be a ls λx=>kz (.d x) (Z.set i (.d x))
 |_=>False
def ak(i:Nat):W L:=λZ kz=>Lm Z[i]? i Z kz
theorem Ln(x:D)(i:Nat)(Z:Ev)(kz:L->Ev->Prop):Lm (some (.d x)) i Z kz=kz (.d x) Z:=(rfl)
theorem Fy(a:Addr)(xs:List D)(i:Nat)(Z:Ev)(kz:L->Ev->Prop):Lm (some (.own a xs)) i Z kz=kz (.d (.lst xs)) (Z.set i (.d (.lst xs))):=(rfl)
theorem IE(a:Option Addr)(ls:List L)(i:Nat)(Z:Ev)(kz:L->Ev->Prop):Lm (some (.bx a ls)) i Z kz=Be a ls λx=>kz (.d x) (Z.set i (.d x)):=(rfl)
theorem aA.slot{K:PySem.W.Frag}{Pr H:Hp}{σ:St}{Z:Ev}{i:Nat}{l:L}(E:aA K Pr H σ Z)(h:Z[i]?=some l):∃s,σ[i]?=some s/\a6 K H s l:=Paired.get2 E.sl h
theorem ae(i:Nat){x:Str}{pos:Pos}(hN:X.N[i]?=some x:=by rfl)(hv:PQ X.env.scope x:=by first | exact Or.inl rfl | exact Or.inr (Or.inl rfl) | exact Or.inr (Or.inr rfl)) (hd:(x == ("__debug__" : Str))=false:=by decide)
  (hcd:(x == ("__classdict__" : Str))=false:=by decide):PL X (.Name x pos) (ak i):=by
 intro ab s σ H Pr Z kz I E h;unfold ak Lm at h
 cases q:Z[i]? with
 |none=>rw[q]at h;exact h.elim
 | some l =>
  rw[q]at h;obtain⟨sv,hs,sl⟩:=E.slot q
  cases l with
  |un=>exact h.elim
  |dic a kvs=>exact h.elim
  | d y =>
   obtain⟨v,rfl,r⟩:=sl;exact PX (d4 hN hv hd hcd ab s σ H (λw H'=>w=v/\H'=H) I ⟨v,hs,rfl,rfl⟩) λu s1 ⟨w,H1,I1,r1,e1,e2⟩=>by subst e1 e2;exact⟨w,H1,_,Z,I1,r1,E.cons_d r,h⟩
  | own a xs =>
   obtain⟨rfl,vs,ha,r⟩:=sl;refine PX (d4 hN hv hd hcd ab s σ H (λw H'=>w=.ref a/\H'=H) I ⟨.ref a,hs,rfl,rfl⟩) λu s1 ⟨w,H1,I1,r1,e1,e2⟩=>?_;subst e1 e2;obtain⟨o,I2⟩:=I1.freezeL ha;have E2:=(E.out q).freeze ha o;have hi:i<Z.length:=(k4.mp q).1;have E3:=E2.back (i:=i) (by simp[hi]) hs;rw[List.set_set]at E3;obtain⟨_,e,p⟩:=E2.head_d;cases e;exact⟨_,_,_,_,I2,r1,E3.cons_d p,h⟩
  | bx a ls =>
   obtain⟨y,ey,h⟩:=uO h
   have hv':∃b,sv=some (.ref b):=by
    cases a with
    |none=>simp only[a6]at sl;obtain⟨b,_,e,_⟩:=sl;exact⟨b,e⟩
    |some b=>simp only[a6]at sl;exact⟨b,sl.1⟩
   obtain⟨b,rfl⟩:=hv';refine PX (d4 hN hv hd hcd ab s σ H (λw H'=>w=.ref b/\H'=H) I ⟨.ref b,hs,rfl,rfl⟩) λu s1 ⟨w,H1,I1,r1,e1,e2⟩=>?_;subst e1 e2;obtain⟨H2,I2,E2,_⟩:=Ll (.bx a ls) I1 (E.outL q hs) ey;have hi:i<Z.length:=(k4.mp q).1;have E3:=E2.back (i:=i) (by simp[hi]) hs;rw[List.set_set]at E3;obtain⟨_,e,p⟩:=E2.head_d;cases e;exact⟨_,_,_,_,I2,r1,E3.cons_d p,h⟩
def Lo(o:Option L)(i:Nat)(Z:Ev)(kz:L->Ev->Prop):Prop:=match o with
 |some (.d x)=>kz (.d x) Z
 |some (.own a xs)=>kz (.own a xs) (Z.set i .un)
 |some (.bx a ls)=>kz (.bx a ls) (Z.set i .un)
 |_=>False
def gK(i:Nat):W L:=λZ kz=>Lo Z[i]? i Z kz
theorem Lp(x:D)(i:Nat)(Z:Ev)(kz:L->Ev->Prop):Lo (some (.d x)) i Z kz=kz (.d x) Z:=(rfl)
theorem Fz(a:Addr)(xs:List D)(i:Nat)(Z:Ev)(kz:L->Ev->Prop):Lo (some (.own a xs)) i Z kz=kz (.own a xs) (Z.set i .un):=(rfl)
theorem IF(a:Option Addr)(ls:List L)(i:Nat)(Z:Ev)(kz:L->Ev->Prop):Lo (some (.bx a ls)) i Z kz=kz (.bx a ls) (Z.set i .un):=(rfl)
theorem cB(i:Nat){x:Str}{pos:Pos}(hN:X.N[i]?=some x:=by rfl)(hv:PQ X.env.scope x:=by first | exact Or.inl rfl | exact Or.inr (Or.inl rfl) | exact Or.inr (Or.inr rfl)) (hd:(x == ("__debug__" : Str))=false:=by decide)
  (hcd:(x == ("__classdict__" : Str))=false:=by decide):PL X (.Name x pos) (gK i):=by
 intro ab s σ H Pr Z kz I E h;unfold gK Lo at h
 cases q:Z[i]? with
 |none=>rw[q]at h;exact h.elim
 | some l =>
  rw[q]at h;obtain⟨sv,hs,sl⟩:=E.slot q
  cases l with
  |un=>exact h.elim
  |dic a kvs=>exact h.elim
  | d y =>
   obtain⟨v,rfl,r⟩:=sl;exact PX (d4 hN hv hd hcd ab s σ H (λw H'=>w=v/\H'=H) I ⟨v,hs,rfl,rfl⟩) λu s1 ⟨w,H1,I1,r1,e1,e2⟩=>by subst e1 e2;exact⟨w,H1,_,Z,I1,r1,E.cons_d r,h⟩
  | own a xs =>
   obtain⟨rfl,vs,ha,r⟩:=sl;refine PX (d4 hN hv hd hcd ab s σ H (λw H'=>w=.ref a/\H'=H) I ⟨.ref a,hs,rfl,rfl⟩) λu s1 ⟨w,H1,I1,r1,e1,e2⟩=>?_;subst e1 e2;exact⟨_,_,_,_,I1,r1,E.out q,h⟩
  | bx a ls =>
   have hv':∃b,sv=some (.ref b):=by
    cases a with
    |none=>simp only[a6]at sl;obtain⟨b,_,e,_⟩:=sl;exact⟨b,e⟩
    |some b=>simp only[a6]at sl;exact⟨b,sl.1⟩
   obtain⟨b,rfl⟩:=hv';refine PX (d4 hN hv hd hcd ab s σ H (λw H'=>w=.ref b/\H'=H) I ⟨.ref b,hs,rfl,rfl⟩) λu s1 ⟨w,H1,I1,r1,e1,e2⟩=>?_;subst e1 e2;exact⟨_,_,_,_,I1,r1,E.outL q hs,h⟩
theorem IG{x:Str}{v:V}{u:Value}{y:D}{pos:Pos}(hg:Gl X x)(hm:X.mg x=some u)(r:cJ v u)(hy:∀ H,QC X.K H v y) (hd:(x == ("__debug__" : Str))=false:=by decide):PL X (.Name x pos) (wC y) :=
 PL.of (Ib hg hm r hd) λσ H Pr Z kz E h=>⟨_,_,E.cons_d (hy H),h⟩
def B3:L->(Bool->Prop)->Prop
 |.d (.bl b),k=>k b
 |_,_=>False
def aY(t:W L):W Bool:=λZ kz=>t Z λr Z1=>B3 r λb=>kz b Z1
theorem uP{r:L}{k:Bool->Prop}(h:B3 r k):∃b,r=.d (.bl b)/\k b:=by
 cases r with
 | d x=>cases x with
  |bl b=>exact⟨b,rfl,h⟩
  |_=>exact h.elim
 |_=>exact h.elim
theorem cf{t:W L}(h:PL X e t)(he:∀whole,isTrue e X.env whole=(do let v <- whole;standAt e.pos;holding [v] (truthy v)):=by intro _;rfl):PB X e (aY t):=by intro ab s σ H Pr Z kz I E ht;rw[he];refine kS (PX (h ab s σ H Pr Z _ I E ht) λu s1 ⟨v,H1,r,Z1,I1,rv,E1,p⟩=>kS (wpAny_standAt (wpAny_holding ?_)));obtain⟨b,rfl,p⟩:=uP p;obtain⟨_,e1,p1⟩:=E1.head_d;cases e1;cases p1;cases rv;exact wpAny_truthy_bool ⟨H1,Z1,I1,E1.tail,p⟩
end
section
variable{X:Cx}{e a b c:Expr}{dF:List Expr}{pos:Pos}{ta tb:W L}{tA tB:W Bool}
def QI(X:Cx)(e:Expr)(t:W Bool):Prop :=
 ∀(whole:Sem Value)(ab:List (Addr×Obj))(s:Shared)(σ:St)(H Pr:Hp)(Z:Ev)(kz:Bool->Ev->Prop),PU X ab σ H s->aA X.K Pr H σ Z->t Z kz->wpAny (model X.prog X.w) X.A (isTrue e X.env whole) (EB X ab σ Pr kz) X.xe s
theorem QI.pb{t:W Bool}(h:QI X e t):PB X e t:=h _
def KB(t u:W Bool):W Bool:=λZ kz=>t Z λc Z1=>if c=true then u Z1 kz else kz false Z1
def QJ(t u:W Bool):W Bool:=λZ kz=>t Z λc Z1=>if c=true then kz true Z1 else u Z1 kz
def FD(t:W Bool):W Bool:=λZ kz=>t Z λc Z1=>kz (!c) Z1
theorem qu(ha:PB X a tA):QI X (.BoolOp .And [a] pos) tA:=by
 intro wh ab s σ H Pr Z kz I E h;refine isTrue_and (PX (ha ab s σ H Pr Z kz I E h) λc s1 e=>?_)
 cases c with
 |true=>exact isTrue_and_nil e
 |false=>exact e
theorem kY(ha:PB X a tA):QI X (.BoolOp .Or [a] pos) tA:=by
 intro wh ab s σ H Pr Z kz I E h;refine isTrue_or (PX (ha ab s σ H Pr Z kz I E h) λc s1 e=>?_)
 cases c with
 |false=>exact isTrue_or_nil e
 |true=>exact e
theorem uQ(ha:PB X a tA)(hb:QI X (.BoolOp .And (b::dF) pos) tB):QI X (.BoolOp .And (a::b::dF) pos) (KB tA tB):=by
 intro wh ab s σ H Pr Z kz I E h;refine isTrue_and (PX (ha ab s σ H Pr Z _ I E h) λc s1 ⟨H1,Z1,I1,E1,q1⟩=>?_)
 cases c with
 |true=>exact hb wh ab s1 σ H1 Pr Z1 kz I1 E1 q1
 |false=>exact⟨H1,Z1,I1,E1,q1⟩
theorem pd(ha:PB X a tA)(hb:QI X (.BoolOp .Or (b::dF) pos) tB):QI X (.BoolOp .Or (a::b::dF) pos) (QJ tA tB):=by
 intro wh ab s σ H Pr Z kz I E h;refine isTrue_or (PX (ha ab s σ H Pr Z _ I E h) λc s1 ⟨H1,Z1,I1,E1,q1⟩=>?_)
 cases c with
 |true=>exact⟨H1,Z1,I1,E1,q1⟩
 |false=>exact hb wh ab s1 σ H1 Pr Z1 kz I1 E1 q1
theorem qK(ha:PB X a tA):PB X (.UnaryOp .Not a pos) (FD tA):=by intro ab s σ H Pr Z kz I E h;exact isTrue_not (ha ab s σ H Pr Z (λc Z1=>kz (!c) Z1) I E h)
theorem QK{op:CmpOp}{o:QG}(ho:QH X (compareOp op) o)(ha:PL X a ta)(hb:PL X b tb)(hm:behindInMarks op b=false):PB X (.Compare a [op] [b] pos) (aY (av o ta tb)):=by intro ab s σ H Pr Z kz I E h;refine wpAny_isTrue_Compare1 (two (R:=λdx dy Z2=>o dx dy λr=>B3 r λb=>kz b Z2) ha hb I E h λv u s2 x y H2 dx dy Z2 I2 r1 r2 E2 p1 p2 q=>?_) hm;refine PX (ho ab s2 σ H2 Pr Z2 x y v u dx dy _ I2 r1 r2 E2.tail.tail p1 p2 q) λw s3 ⟨z,H3,r,I3,rz,E3,p⟩=>?_;obtain⟨b,rfl,p⟩:=uP p;obtain⟨_,e1,p1⟩:=E3.head_d;cases e1;cases p1;cases rz;exact wpAny_truthy_bool ⟨H3,Z2,I3,E3.tail,p⟩
def kZ(ta tb:W L):W L:=λZ kz=>ta Z λr Z1=>B3 r λc=>if c=true then tb Z1 kz else kz (.d (.bl false)) Z1
def M4(ta tb:W L):W L:=λZ kz=>ta Z λr Z1=>B3 r λc=>if c=true then kz (.d (.bl true)) Z1 else tb Z1 kz
def IH(t:W Bool):W L:=λZ kz=>t Z λc Z1=>kz (.d (.bl (!c))) Z1
theorem iS {op} {t:W L} (h:PL X a t):PL X (.BoolOp op [a] pos) t:=λab s σ H Pr Z kz I E hw=>BoolOp_one (h ab s σ H Pr Z kz I E hw)
theorem EL.bl{ab:List (Addr×Obj)}{σ:St}{Pr:Hp}{kz:Bool->Ev->Prop}{u:Value}{s':Shared}(h:EL X ab σ Pr (λr Z=>B3 r λb=>kz b Z) u s') :
  ∃H' b Z',u=.bool b/\PU X ab σ H' s'/\aA X.K Pr H' σ Z'/\kz b Z':=by
 obtain⟨v,H',r,Z',I,rv,E,p⟩:=h;obtain⟨b,rfl,p⟩:=uP p;obtain⟨_,e1,p1⟩:=E.head_d;cases e1;cases p1;cases rv;exact⟨H',b,Z',rfl,I,E.tail,p⟩
theorem gL(ha:PL X a ta)(hb:PL X (.BoolOp .And (b::dF) pos) tb):PL X (.BoolOp .And (a::b::dF) pos) (kZ ta tb):=by
 intro ab s σ H Pr Z kz I E h;refine BoolOp_and (PX (ha ab s σ H Pr Z _ I E h) λv s1 q=>?_)
 obtain⟨H1,c,Z1,rfl,I1,E1,q1⟩:=EL.bl (kz:=λc Z1=>if c=true then tb Z1 kz else kz (.d (.bl false)) Z1) q
 refine wpAny_truthy_bool ?_
 cases c with
 |true=>exact hb ab s1 σ H1 Pr Z1 kz I1 E1 q1
 |false=>exact⟨.bl false,H1,_,Z1,I1,rfl,E1.cons_d (.bl false),q1⟩
theorem Lq(ha:PL X a ta)(hb:PL X (.BoolOp .Or (b::dF) pos) tb):PL X (.BoolOp .Or (a::b::dF) pos) (M4 ta tb):=by
 intro ab s σ H Pr Z kz I E h;refine BoolOp_or (PX (ha ab s σ H Pr Z _ I E h) λv s1 q=>?_)
 obtain⟨H1,c,Z1,rfl,I1,E1,q1⟩:=EL.bl (kz:=λc Z1=>if c=true then kz (.d (.bl true)) Z1 else tb Z1 kz) q
 refine wpAny_truthy_bool ?_
 cases c with
 |false=>exact hb ab s1 σ H1 Pr Z1 kz I1 E1 q1
 |true=>exact⟨.bl true,H1,_,Z1,I1,rfl,E1.cons_d (.bl true),q1⟩
theorem Lr(ha:PL X a ta):PL X (.UnaryOp .Not a pos) (IH (aY ta)):=by intro ab s σ H Pr Z kz I E h;refine UnaryOp_ (PX (ha ab s σ H Pr Z _ I E h) λv s1 q=>?_);obtain⟨H1,c,Z1,rfl,I1,E1,q1⟩:=EL.bl (kz:=λc Z1=>kz (.d (.bl (!c))) Z1) q;exact not_of (wpAny_truthy_bool ⟨.bl (!c),H1,_,Z1,I1,rfl,E1.cons_d (.bl _),q1⟩)
def HF(t:W Bool)(ta tb:W L):W L:=λZ kz=>t Z λc Z1=>if c=true then ta Z1 kz else tb Z1 kz
theorem t7(hc:PB X c tA)(ha:PL X a ta)(hb:PL X b tb):PL X (.IfExp c a b pos) (HF tA ta tb):=by
 intro ab s σ H Pr Z kz I E h;refine wpAny_IfExp (PX (hc ab s σ H Pr Z _ I E h) λd s1 ⟨H1,Z1,I1,E1,q1⟩=>?_)
 cases d with
 |true=>exact ha ab s1 σ H1 Pr Z1 kz I1 E1 q1
 |false=>exact hb ab s1 σ H1 Pr Z1 kz I1 E1 q1
def QL(op:D->(L->Prop)->Prop)(t:W L):W L:=λZ kz=>t Z λx Z1=>QF x λdx=>op dx λr=>kz r Z1
def Bf:D->(L->Prop)->Prop
 |.int i,k=>k (.d (.int (-i)))
 |_,_=>False
theorem Cu(ha:PL X a ta):PL X (.UnaryOp .USub a pos) (QL Bf ta):=by
 intro ab s σ H Pr Z kz I E h;refine UnaryOp_ (PX (ha ab s σ H Pr Z _ I E h) λv s1 q=>?_);obtain⟨x,H1,dx,Z1,I1,r1,E1,q1⟩:=EL.frz (kz:=λdx Z1=>Bf dx λr=>kz r Z1) q;obtain⟨_,e1,p1⟩:=E1.head_d;cases e1
 cases p1 with
 | int i =>
  exact PX (K7 ab s1 σ H1 _ v (λw H'=>w=.int (-i)/\H'=H1) I1 r1 ⟨i,rfl,rfl,rfl⟩) λu s2 ⟨w,H2,I2,r2,e1,e2⟩=>by subst e1 e2;exact⟨_,_,_,Z1,I2,r2,E1.tail.cons_d (.int _),q1⟩
 |_=>exact q1.elim
variable{st:Stmt}{sts:List Stmt}{t u:W Fl}
def bM:W Fl:=λZ kz=>kz .nx Z
def aV(t u:W Fl):W Fl:=λZ kz=>t Z λf Z1=>match f with
 |.nx=>u Z1 kz
 |f=>kz f Z1
theorem aT:QE X [] bM:=λ_ _ σ H Pr Z kz I E h=>wpAny_execs_nil ⟨σ,H,Z,I,E,h⟩
theorem ai(h1:PM X st t)(h2:QE X sts u):QE X (st::sts) (aV t u):=by
 intro ab s σ H Pr Z kz I E h;refine wpAny_execs_cons (PX (h1 ab s σ H Pr Z _ I E h) λf s1 q=>?_)
 cases f with
 | next =>
  obtain⟨σ',H',Z',I',E',q⟩:=q;exact h2 ab s1 σ' H' Pr Z' kz I' E' q
 |ret v=>exact q
 |brk=>exact q
 |cont=>exact q
theorem aq(h1:PM X st t):QE X [st] t:=by
 intro ab s σ H Pr Z kz I E h;refine wpAny_execs_cons (PX (h1 ab s σ H Pr Z _ I E h) λf s1 q=>?_)
 cases f with
 |next=>exact wpAny_execs_nil q
 |ret v=>exact q
 |brk=>exact q
 |cont=>exact q
def n8(t:W L):W Fl:=λZ kz=>t Z λ_ Z1=>kz .nx Z1
theorem eX{te:W L}(he:PL X e te)(hs:swapsWith e none pos.line X.env=pure false:=by rfl):PM X (.Expr e pos) (n8 te):=by intro ab s σ H Pr Z kz I E h;exact wpAny_Expr_any (PX (he ab s σ H Pr Z _ I E h) λv s1 ⟨x,H1,r,Z1,I1,r1,E1,q1⟩=>⟨σ,H1,Z1,I1,E1.tail,q1⟩) I.quiet hs
def bH(t:W L):W Fl:=λZ kz=>t Z λr Z1=>kz (.rt r) Z1
theorem aC{te:W L}(he:PL X e te):PM X (.Return (some e) pos) (bH te):=by intro ab s σ H Pr Z kz I E h;exact wpAny_Return_some (PX (he ab s σ H Pr Z _ I E h) λv s1 ⟨x,H1,r,Z1,I1,r1,E1,q1⟩=>⟨x,σ,H1,r,Z1,σ,I1,r1,E1,q1⟩)
def QM(c:W Bool)(t u:W Fl):W Fl:=λZ kz=>c Z λb Z1=>if b=true then t Z1 kz else u Z1 kz
theorem bS{sa sb:List Stmt}(hc:PB X c tA)(ha:QE X sa t)(hb:QE X sb u):PM X (.If c sa sb pos) (QM tA t u):=by
 intro ab s σ H Pr Z kz I E h;refine wpAny_If (PX (hc ab s σ H Pr Z _ I E h) λd s1 ⟨H1,Z1,I1,E1,q1⟩=>?_)
 cases d with
 |true=>exact ha ab s1 σ H1 Pr Z1 kz I1 E1 q1
 |false=>exact hb ab s1 σ H1 Pr Z1 kz I1 E1 q1
def Ak:W Fl:=λ_ _=>False
theorem uR:PM X st Ak:=λ_ _ _ _ _ _ _ _ _ h=>h.elim
theorem aA.forget{K:PySem.W.Frag}{Pr H:Hp}{σ:St}{Z:Ev}(E:aA K Pr H σ Z)(i:Nat)(v:Option V):aA K Pr H (σ.set i v) (Z.set i .un):=by
 have hsub:(owns (Z.set i .un)).Sublist (owns Z):=by
  have:∀(Z:Ev)(i:Nat),(owns (Z.set i .un)).Sublist (owns Z):=by
   intro Z
   induction Z with
   |nil=>intro i;exact List.Sublist.refl _
   | cons l Z ih =>
    intro i
    cases i with
    | zero =>
     show(owns Z).Sublist (owns (l::Z));rw[aJ];exact List.sublist_append_right _ _
    | succ i =>
     show(owns (l::Z.set i .un)).Sublist (owns (l::Z));rw[aJ,aJ];exact(List.Sublist.refl _).append (ih i)
  exact this Z i
 exact⟨E.sub,E.nd.sublist hsub,λa h=>E.off a (hsub.subset h),Paired.set2 True.intro i E.sl⟩
theorem aA.store{K:PySem.W.Frag}{Pr H:Hp}{σ:St}{Z:Ev}{v:Option V}{l:L}(E:aA K Pr H (v::σ) (l::Z)){i:Nat}(hi:i<σ.length):aA K Pr H (σ.set i v) (Z.set i l):=by have E1:=E.forget (i+1) v;have E2:aA K Pr H (v::σ.set i v) (l::Z.set i .un):=E1;have hl:=E.tail.len;have E3:=E2.back (i:=i) (by rw[List.getElem?_set_self xL]) (by rw[List.getElem?_set_self hi]);rw[List.set_set]at E3;exact E3
def bj(i:Nat)(t:W L):W Fl:=λZ kz=>t Z λr Z1=>kz .nx (Z1.set i r)
theorem az{i:Nat}{x:Str}{te:W L}{pos':Pos}(hN:X.N.Nodup)(hi:X.N[i]?=some x)(hx:PR X.env.scope x)(he:PL X e te)(hs:swapsWith e (some (.Name x pos')) pos.line X.env=pure false:=by rfl)(hf:X.fn x=true∨X.env.scope.names.lookup x=some .local:=by first|exact .inl rfl|exact .inr rfl|assumption) :
  PM X (.Assign [.Name x pos'] e pos) (bj i te):=by
 intro ab s σ H Pr Z kz I E h;refine wpAny_Assign_Name (PX (he ab s σ H Pr Z _ I E h) λv s1 ⟨y,H1,r,Z1,I1,r1,E1,q1⟩=>?_) hs;exact mh I1 hN hi hx r1 (λs2 I2=>⟨_,H1,_,I2,E1.store (by rw[I1.len];exact(k4.mp hi).1),q1⟩) hf
end
theorem mn{a b:Ev}(h:a.Perm b):(owns a).Perm (owns b):=by
 induction h with
 |nil=>exact .refl _
 |cons x _ ih=>rw[aJ,aJ];exact ih.append_left _
 | swap x y l =>
  rw[aJ,aJ,aJ,aJ,<- List.append_assoc,<- List.append_assoc];exact List.Perm.append_right _ List.perm_append_comm
 |trans _ _ h1 h2=>exact h1.trans h2
theorem FE{a b:Ev}(h:a.Sublist b):(owns a).Sublist (owns b):=by
 induction h with
 |slnil=>exact .refl _
 |cons x _ ih=>rw[aJ];exact ih.trans (List.sublist_append_right _ _)
 |cons_cons x _ ih=>rw[aJ,aJ];exact(List.Sublist.refl _).append ih
def tL(K:PySem.W.Frag)(t:W L):TE:=λσ H Q=>∃Pr Z kz,aA K Pr H σ Z/\t Z kz/\∀v H' r Z',aA K Pr H' (some v::σ) (r::Z')->kz r Z'->Q v H'
def tW(K:PySem.W.Frag)(t:W Fl):TS:=λD σ H=>∃Pr Z kz,aA K Pr H σ Z/\t Z kz/\(∀σ' H' Z',aA K Pr H' σ' Z'->kz .nx Z'->D.nx σ' H')/\(∀σ' H' Z',aA K Pr H' σ' Z'->kz .bk Z'->D.bk σ' H')/\(∀σ' H' Z',aA K Pr H' σ' Z'->kz .ct Z'->D.ct σ' H') /\
 ∀v τ H' r Z',aA K Pr H' (some v::τ) (r::Z')->kz (.rt r) Z'->D.rt v H'
noncomputable def QN(K:PySem.W.Frag)(t:W Bool):TT:=λσ H Q=>∃Pr Z kz,aA K Pr H σ Z/\t Z kz/\∀b H' Z',aA K Pr H' σ Z'->kz b Z'->Q b H'
section
variable{X:Cx}{e a b:Expr}{es:List Expr}{pos:Pos}{st:Stmt}{sts:List Stmt}{t u:W Fl}
theorem PL.pe{t:W L}(h:PL X e t):PE X e (tL X.K t):=λab s σ H Q I ⟨Pr,Z,kz,E,ht,q⟩ =>
 PX (h ab s σ H Pr Z kz I E ht) λu s1 ⟨v,H1,r,Z1,I1,rv,E1,p⟩=>⟨v,H1,I1,rv,q v H1 r Z1 E1 p⟩
theorem PB.pt{t:W Bool}(h:PB X e t):PT X e (QN X.K t):=λab s σ H Q I ⟨Pr,Z,kz,E,ht,q⟩ =>
 PX (h ab s σ H Pr Z kz I E ht) λb s1 ⟨H1,Z1,I1,E1,p⟩=>⟨H1,I1,q b H1 Z1 E1 p⟩
theorem QE.pss(h:QE X sts t):PV X sts (tW X.K t):=λab s σ H D I ⟨Pr,Z,kz,E,ht,q1,q2,q3,q4⟩ =>
 PX (h ab s σ H Pr Z kz I E ht) λf s1 q=>by
  cases f with
  |next=>obtain⟨σ',H',Z',I',E',p⟩:=q;exact⟨σ',H',I',q1 σ' H' Z' E' p⟩
  |brk=>obtain⟨σ',H',Z',I',E',p⟩:=q;exact⟨σ',H',I',q2 σ' H' Z' E' p⟩
  |cont=>obtain⟨σ',H',Z',I',E',p⟩:=q;exact⟨σ',H',I',q3 σ' H' Z' E' p⟩
  |ret u=>obtain⟨v,σ',H',r,Z',τ,I',rv,E',p⟩:=q;exact⟨v,σ',H',I',rv,q4 v τ H' r Z' E' p⟩
noncomputable def Ls(K:PySem.W.Frag)(Pr:Hp)(kz:Fl->Ev->Prop):Kz where
 nx:=λσ' H'=>∃Z',aA K Pr H' σ' Z'/\kz .nx Z'
 rt:=λv H'=>∃τ r Z',aA K Pr H' (some v::τ) (r::Z')/\kz (.rt r) Z'
 bk:=λσ' H'=>∃Z',aA K Pr H' σ' Z'/\kz .bk Z'
 ct:=λσ' H'=>∃Z',aA K Pr H' σ' Z'/\kz .ct Z'
theorem PM.of{ts:TS}(h:PS X st ts)(q:∀σ H Pr Z kz,σ.length=X.N.length->aA X.K Pr H σ Z->t Z kz->ts (Ls X.K Pr kz) σ H):PM X st t:=λab s σ H Pr Z kz I E ht =>
 PX (h ab s σ H _ I (q σ H Pr Z kz I.len E ht)) λf s1 q=>by
  cases f with
  |next=>obtain⟨σ',H',I',Z',E',p⟩:=q;exact⟨σ',H',Z',I',E',p⟩
  |brk=>obtain⟨σ',H',I',Z',E',p⟩:=q;exact⟨σ',H',Z',I',E',p⟩
  |cont=>obtain⟨σ',H',I',Z',E',p⟩:=q;exact⟨σ',H',Z',I',E',p⟩
  |ret u=>obtain⟨v,σ',H',I',rv,τ,r,Z',E',p⟩:=q;exact⟨v,σ',H',r,Z',τ,I',rv,E',p⟩
theorem aA.narrow{K:PySem.W.Frag}{Pr H1 H:Hp}{σ1 σ:St}{Z1 Z:Ev}(E1:aA K Pr H1 σ1 Z1)(E:aA K (bq H1 Z1) H σ Z):aA K Pr H σ Z:=by
 refine⟨λb o e=>E.sub b o ?_,E.nd,λa ha=>?_,E.sl⟩
 . unfold bq;rw[if_neg,E1.sub b o e];intro hm;have z:=E1.off b hm;rw[e]at z;cases z
 .
  have z:=E.off a ha;unfold bq at z;by_cases hm:a∈owns Z1
  . exact E1.off a hm
  .
   rw[if_neg hm]at z
   cases q:Pr a with
   |none=>rfl
   |some o=>rw[E1.sub a o q]at z;cases z
def aF:W (List L):=λZ kz=>kz [] Z
def ar(t:W L)(r:W (List L)):W (List L):=λZ kz=>t Z λx Z1=>r Z1 λxs Z2=>kz (x::xs) Z2
def ma(i:Nat)(r:W (List L)):W (List L):=λZ kz=>match Z[i]? with
 |some (.own _ _)=>r Z λxs Z2=>kz (.un::xs) Z2
 |_=>False
theorem ag:QD X [] [] aF:=λ_ ab s σ H Pr Z kz I E h=>Calls.spliced_nil ⟨[],H,[],Z,I,.nil,rfl,rfl,E,λk i e=>by simp at e,h⟩
theorem af{bs:List (Option Nat)}{r:W (List L)}{t:W L}(ha:PL X e t)(hr:QD X es bs r)(hs:starEach (e::es) X.env=(false,eval e X.env)::starEach es X.env:=by rfl):QD X (e::es) (none::bs) (ar t r):=by
 intro pos ab s σ H Pr Z kz I E h;rw[hs];show wpAny _ _ (spliced ((false,eval e X.env)::backTo pos (starEach es X.env))) _ _ s;refine Calls.spliced_cons (PX (ha ab s σ H Pr Z _ I E h) λu s1 ⟨x,H1,l,Z1,I1,r1,E1,q1⟩=>?_);refine PX (hr pos ab s1 σ H1 _ Z1 _ I1 E1.tail.wide q1) λus s2 ⟨vs,H2,ls,Z2,I2,r2,hl,hb,E2,hv,q2⟩=>?_;have E3:aA X.K Pr H2 (vs.map some++(some x::σ)) (ls++(l::Z2)):=aA.step (τ:=[some x]) (lam:=[l]) E1 rfl E2 (by simp[hl])
 have E4:aA X.K Pr H2 (some x::(vs.map some++σ)) (l::(ls++Z2)):=by
  have pm:(owns (ls++(l::Z2))).Perm (owns (l::(ls++Z2))):=mn List.perm_middle;have s1:=Paired.unapp (by simp[hl]) E3.sl;obtain⟨s1,s2⟩:=s1
  cases s2 with
  |cons q t=>exact⟨E3.sub,pm.nodup_iff.mp E3.nd,λa h=>E3.off a (pm.mem_iff.mpr h),.cons q (Paired.app s1 t)⟩
 refine⟨x::vs,H2,l::ls,Z2,I2,.cons r1 r2,by simp[hl],by simp[hb],E4,λk i e=>?_,q2⟩
 cases k with
 |zero=>simp at e
 |succ k=>simpa using hv k i (by simpa using e)
theorem bp(i:Nat){x:Str}{p:Pos}{bs:List (Option Nat)}{r:W (List L)}(hr:QD X es bs r)(hN:X.N[i]?=some x:=by rfl)(hv:PQ X.env.scope x:=by first | exact Or.inl rfl | exact Or.inr (Or.inl rfl) | exact Or.inr (Or.inr rfl)) (hd:(x == ("__debug__" : Str))=false:=by decide)
  (hcd:(x == ("__classdict__" : Str))=false:=by decide) (hs:starEach (.Name x p::es) X.env=(false,eval (.Name x p) X.env)::starEach es X.env:=by rfl):QD X (.Name x p::es) (some i::bs) (ma i r):=by
 intro pos ab s σ H Pr Z kz I E h;unfold ma at h
 cases q:Z[i]? with
 |none=>rw[q]at h;exact h.elim
 | some l =>
  rw[q]at h
  cases l with
  |un=>exact h.elim
  |d y=>exact h.elim
  |bx _ _=>exact h.elim
  |dic _ _=>exact h.elim
  | own a xs =>
   obtain⟨sv,hsl,sl⟩:=E.slot q;obtain⟨rfl,_⟩:=sl;rw[hs];show wpAny _ _ (spliced ((false,eval (.Name x p) X.env)::backTo pos (starEach es X.env))) _ _ s;refine Calls.spliced_cons (PX (d4 hN hv hd hcd ab s σ H (λw H'=>w=.ref a/\H'=H) I ⟨.ref a,hsl,rfl,rfl⟩) λu s1 ⟨w,H1,I1,r1,e1,e2⟩=>?_);subst e1 e2;refine PX (hr pos ab s1 σ H1 Pr Z _ I1 E h) λus s2 ⟨vs,H2,ls,Z2,I2,r2,hl,hb,E2,hv,q2⟩=>?_;refine⟨.ref a::vs,H2,.un::ls,Z2,I2,.cons r1 r2,by simp[hl],by simp[hb],E2.cons_un,λk j e=>?_,q2⟩
   cases k with
   |zero=>simp at e;subst e;exact⟨rfl,.ref a,rfl,hsl⟩
   |succ k=>simpa using hv k j (by simpa using e)
def KC:List L->(List D->Prop)->Prop
 |[],k=>k []
 |.d x::r,k=>KC r λxs=>k (x::xs)
 |_::_,_=>False
theorem qL:∀{ls:List L}{k:List D->Prop},KC ls k->∃xs,ls=xs.map .d/\k xs
 |[],_,h=>⟨[],rfl,h⟩
 | .d x::r,k,h=>by obtain⟨xs,e,q⟩:=qL (ls:=r) h;exact⟨x::xs,by rw[e];rfl,q⟩
 |.un::_,_,h=>h.elim
 |.own _ _::_,_,h=>h.elim
theorem qM{K:PySem.W.Frag}{Pr H:Hp}{σ:St}{Z:Ev}:∀{vs:List V}{xs:List D},vs.length=xs.length->aA K Pr H (vs.map some++σ) (xs.map .d++Z)->bL K H vs xs
 |[],[],_,_=>.nil
 | v::vs,x::xs,hl,E=>by obtain⟨w,e,r⟩:=aA.head_d (v:=some v) (x:=x) E;cases e;exact .cons r (qM (by simpa using hl) (aA.tail (v:=some v) (l:=.d x) E))
 |[],_::_,hl,_=>by simp at hl
 |_::_,[],hl,_=>by simp at hl
def mq(t:W (List L)):W L:=λZ kz=>t Z λls Z1=>KC ls λxs=>xs.length<=sizeLine/\kz (.d (.tup xs)) Z1
def ko(t:W (List L)):W L:=λZ kz=>t Z λls Z1=>KC ls λxs=>xs.length<=sizeLine/\∀a,kz (.own a xs) Z1
theorem bT {x1} {bs:List (Option Nat)} {t:W (List L)} (h:QD X es bs t):PL X (.Tuple es x1 pos) (mq t):=by
 intro ab s σ H Pr Z kz I E hq;refine wpAny_Tuple_spliced (PX (h pos ab s σ H Pr Z _ I E hq) λus s1 ⟨vs,H1,ls,Z1,I1,r,hl,hb,E1,hv,q⟩=>?_);obtain⟨xs,rfl,z,q⟩:=qL q;have fI:vs.length=xs.length:=by simpa using hl
 refine⟨by rw[<- r.length,fI];exact z,?_⟩;have hf:H1 s1.heap.objs.size=none:=I1.hok.fresh (Uu _);refine⟨.ref s1.heap.objs.size,PD H1 s1.heap.objs.size (.tup vs),_,Z1,I1.laid (t':=s1.toks) (λb u e=>p4 _ e) (Uu _) ?_,rfl,(E1.drop (by simp[fI])).cons_tup hf (qM fI E1),q⟩;exact⟨by rw[fI];exact z,us,r,⟨_,Heap.get?_push_size _ rfl,rfl,_,rfl⟩⟩
theorem bI{bs:List (Option Nat)}{t:W (List L)}(h:QD X es bs t):PL X (.List es pos) (ko t):=by
 intro ab s σ H Pr Z kz I E hq;refine wpAny_List_spliced (PX (h pos ab s σ H Pr Z _ I E hq) λus s1 ⟨vs,H1,ls,Z1,I1,r,hl,hb,E1,hv,q⟩=>?_);obtain⟨xs,rfl,z,q⟩:=qL q;have fI:vs.length=xs.length:=by simpa using hl
 refine⟨by rw[<- r.length,fI];exact z,?_⟩;have hf:H1 s1.heap.objs.size=none:=I1.hok.fresh (Uu _);refine⟨.ref s1.heap.objs.size,PD H1 s1.heap.objs.size (.lst vs),_,Z1,I1.laid (t':=s1.toks) (λb u e=>p4 _ e) (Uu _) ?_,rfl,(E1.drop (by simp[fI])).cons_own hf (qM fI E1),q _⟩;exact⟨by rw[fI];exact z,us,0,r,Heap.get?_push_size _ rfl⟩
abbrev FS:=List L->(L->List L->Prop)->Prop
noncomputable def spF(K:PySem.W.Frag)(n:Nat)(fs:FS):Sp:=λvs H Q _=>vs.length=n/\∃Pr ls kz,aA K Pr H (vs.map some) ls/\fs ls kz/\∀v H' r ls',aA K Pr H' (some v::vs.map some) (r::ls')->kz r ls'->Q v H'
theorem aA.swap{K:PySem.W.Frag}{Pr H:Hp}{σ τ:St}{Z lam:Ev}(hl:τ.length=lam.length)(E:aA K Pr H (τ++σ) (lam++Z)):aA K Pr H (σ++τ) (Z++lam):=by have pm:(owns (lam++Z)).Perm (owns (Z++lam)):=mn List.perm_append_comm;obtain⟨s1,s2⟩:=Paired.unapp hl E.sl;exact⟨E.sub,pm.nodup_iff.mp E.nd,λa h=>E.off a (pm.mem_iff.mpr h),Paired.app s2 s1⟩
theorem HG{K:PySem.W.Frag}{Pr H H':Hp}{σ τ:St}{Z ls ls':Ev}{v:Option V}{r:L}(hl:τ.length=ls.length)(E:aA K Pr H (τ++σ) (ls++Z))(E':aA K (bq H ls) H' (v::τ) (r::ls')):aA K Pr H' (v::(τ++σ)) (r::(ls'++Z)):=by
 have hρ:σ.length=Z.length:=(E.drop hl).len;have z:=aA.step (τ:=σ) (σ:=τ) (lam:=Z) (Z:=ls) (w:=[v]) (μ:=[r]) (E.swap hl) hρ E' rfl;have hl':τ.length=ls'.length:=by have:=E'.len;simpa using this
 obtain⟨s1,s2⟩:=Paired.unapp (a:=[v]) (b:=[r]) rfl z.sl;obtain⟨s2,s3⟩:=Paired.unapp hρ s2;have pm:(owns ([r]++(Z++ls'))).Perm (owns (r::(ls'++Z))):=mn (List.Perm.cons r (List.perm_append_comm (l₁:=Z) (l₂:=ls')));exact⟨z.sub,pm.nodup_iff.mp z.nd,λa h=>z.off a (pm.mem_iff.mpr h),Paired.app s1 (Paired.app s3 s2)⟩
def aK(fs:FS)(t:W (List L)):W L:=λZ kz=>t Z λls Z1=>fs ls λr _=>kz r Z1
def bJ(fs:FS)(k i:Nat)(t:W (List L)):W L:=λZ kz=>t Z λls Z1=>match Z1[i]? with
 |some (.own a xs)=>fs (ls.set k (.own a xs)) λr ls'=>∃ys,ls'[k]?=some (.own a ys)/\kz r (Z1.set i (.own a ys))
 |_=>False
section
variable{CX:Qk}{k n:Nat}{f:Addr}{fd:FuncData}{ps:List Str}{fs:FS}{E:XK}{x:Str}{p:Pos}{bs:List (Option Nat)}{t:W (List L)}
theorem aA.drop1{K:PySem.W.Frag}{Pr H:Hp}{σ τ:St}{Z lam:Ev}{v:Option V}{r:L}(hl:τ.length=lam.length)(E:aA K Pr H (v::(τ++σ)) (r::(lam++Z))):aA K Pr H (v::σ) (r::Z):=by obtain⟨s1,s2⟩:=Paired.unapp (a:=[v]) (b:=[r]) rfl E.sl;obtain⟨s2,s3⟩:=Paired.unapp hl s2;have sb:(owns (r::Z)).Sublist (owns (r::(lam++Z))):=FE (List.Sublist.cons_cons r (List.sublist_append_right _ _));exact⟨E.sub,E.nd.sublist sb,λa h=>E.off a (sb.subset h),Paired.app s1 s3⟩
theorem II(F:FnOk X.prog X.w X.K X.mg X.base CX k f fd ps (spF X.K n fs))(hr:td k X.A)(hg:Gl X x)(hm:X.mg x=some (.ref f))(hk:PySem.W.keepIn X.K (.ref f)=true)(hb:yz X.K fd ps [])(hx:Af CX X E)
  (ha:QD X (e::es) bs t) (hn:bs.length=n) (hdb:(x == ("__debug__" : Str))=false:=by decide) (he:starEach (e::es) X.env=(false,eval e X.env)::starEach es X.env:=by rfl) (hpl:(backTo pos (starEach es X.env)).any (·.1)=false:=by rfl) :
  PL X (.Call (.Name x p) (e::es) [] pos) (aK fs t):=by
 intro ab s σ H Pr Z kz I E0 h;refine wpAny_Call_Name_kw (yx I hg hm ?_ hdb);refine PySem.W.callWith_K (h₀:=X.base) I.ok.mod.kin hk (PX (ha pos ab s σ H Pr Z _ I E0 h) λus s1 ⟨vs,H1,ls,Z1,I1,r,hl,hbl,E1,hv,q⟩=>⟨I1.kIn,?_⟩) he hpl;have hl':(vs.map some).length=ls.length:=by simp[hl]
 refine PX (Hw (Q:=λv H'=>∃r Z',aA X.K Pr H' (some v::σ) (r::Z')/\kz r Z') F hr hb .nil hx I1 r ?_) λu s2 ⟨v,H2,I2,rv,r,Z',E2,p⟩=>⟨v,H2,r,Z',I2,rv,E2,p⟩;rw[List.append_nil];refine⟨hbl.trans hn,bq H1 ls,ls,_,(E1.left hl').wide,q,λv H' r ls' E2 p=>⟨r,Z1,?_,p⟩⟩;have z:=HG hl' E1 E2;have hl2:(vs.map some).length=ls'.length:=by have:=E2.len;simpa using this
 exact z.drop1 hl2
theorem FF(F:FnOk X.prog X.w X.K X.mg X.base CX k f fd ps (spF X.K n fs))(hr:td k X.A)(hg:Gl X x)(hm:X.mg x=some (.ref f))(hk:PySem.W.keepIn X.K (.ref f)=true)(hb:yz X.K fd ps [])(hx:Af CX X E)
  (j i:Nat) (ha:QD X (e::es) bs t) (hj:bs[j]?=some (some i)) (hn:bs.length=n) (hdb:(x == ("__debug__" : Str))=false:=by decide) (he:starEach (e::es) X.env=(false,eval e X.env)::starEach es X.env:=by rfl) (hpl:(backTo pos (starEach es X.env)).any (·.1)=false:=by rfl) :
  PL X (.Call (.Name x p) (e::es) [] pos) (bJ fs j i t):=by
 intro ab s σ H Pr Z kz I E0 h;refine wpAny_Call_Name_kw (yx I hg hm ?_ hdb);refine PySem.W.callWith_K (h₀:=X.base) I.ok.mod.kin hk (PX (ha pos ab s σ H Pr Z _ I E0 h) λus s1 ⟨vs,H1,ls,Z1,I1,r,hl,hbl,E1,hv,q⟩=>⟨I1.kIn,?_⟩) he hpl;have hl':(vs.map some).length=ls.length:=by simp[hl]
 refine PX (Hw (Q:=λv H'=>∃r Z',aA X.K Pr H' (some v::σ) (r::Z')/\kz r Z') F hr hb .nil hx I1 r ?_) λu s2 ⟨v,H2,I2,rv,r,Z',E2,p⟩=>⟨v,H2,r,Z',I2,rv,E2,p⟩;rw[List.append_nil];dsimp only at q
 cases qi:Z1[i]? with
 |none=>rw[qi]at q;exact q.elim
 | some l =>
  rw[qi]at q
  cases l with
  |un=>exact q.elim
  |d y=>exact q.elim
  |bx _ _=>exact q.elim
  |dic _ _=>exact q.elim
  | own a xs =>
   obtain⟨hun,w,hw,hσ⟩:=hv j i hj;obtain⟨sv,hs2,rfl,_⟩:=(E1.drop hl').slot qi;rw[hσ]at hs2;cases hs2;have hjl:j<ls.length:=(k4.mp hun).1;have hjv:j<vs.length:=by omega
   have hil:i<Z1.length:=(k4.mp qi).1;have E2:=E1.out (i:=ls.length+i) (a:=a) (xs:=xs) (by rw[List.getElem?_append_right xL];simpa using qi);rw[List.set_append_right _ _ xL,Nat.add_sub_cancel_left]at E2;have E3:=E2.back (i:=j) (by rw[List.getElem?_append_left hjl];exact hun) (by rw[List.getElem?_append_left (by simp;omega)];simp[hw]);rw[List.set_append_left _ _ hjl]at E3;have hl3:(vs.map some).length=(ls.set j (.own a xs)).length:=by simp[hl]
   refine⟨hbl.trans hn,bq H1 (ls.set j (.own a xs)),_,_,(E3.left hl3).wide,q,λv H' r ls' E4 p=>?_⟩;obtain⟨ys,hys,p⟩:=p;refine⟨r,Z1.set i (.own a ys),?_,p⟩;have z:=HG hl3 E3 E4;have hl4:(vs.map some).length=ls'.length:=by have:=E4.len;simpa using this
   have hjl':j<ls'.length:=by simp at hl4;omega
   have z1:=z.out (i:=1+j) (a:=a) (xs:=ys) (by rw[Nat.add_comm];simp only[List.getElem?_cons_succ];rw[List.getElem?_append_left hjl'];exact hys);rw[Nat.add_comm 1 j,List.set_cons_succ,List.set_append_left _ _ hjl']at z1
   have z2:=z1.back (i:=(1+ls'.length)+i) (by
    rw[Nat.add_comm 1,Nat.add_right_comm,List.getElem?_cons_succ,List.getElem?_append_right x_]
    simp[hil]) (by
    rw[Nat.add_comm 1,Nat.add_right_comm,List.getElem?_cons_succ,List.getElem?_append_right (by simp at hl4 ⊢;omega)];simp at hl4 ⊢;rw[<- hl4,Nat.add_sub_cancel_left]
    exact hσ)
   rw[Nat.add_comm 1,Nat.add_right_comm,List.set_cons_succ,List.set_append_right _ _ x_]at z2;simp only[List.length_set,Nat.add_sub_cancel_left,List.set_set]at z2;exact z2.drop1 (by simp at hl4 ⊢;exact hl4)
end
end
def yr(Z:Ev):List L->List L->Prop:=Paired λl l'=>match l with
 |.own a _=>(∃ys,l'=.own a ys/\L.own a ys∈Z)∨l'=.un
 |.bx _ _=>l'=.un
 |.dic _ _=>l'=.un
 |l=>l'=l
def aW(ls:List L)(kz:L->List L->Prop):Fl->Ev->Prop:=λf Z=>match f with
 |.rt r=>∃ls',yr Z ls ls'/\kz r ls'
 |.nx=>∃ls',yr Z ls ls'/\kz (.d .non) ls'
 |_=>False
theorem yr.owns{Z:Ev}:∀{ls ls':List L},yr Z ls ls'->(owns ls').Sublist (owns ls)
 |_,_,.nil=>.refl _
 | l::ls,l'::ls',.cons h t=>by
  have ih:=yr.owns t;rw[aJ,aJ]
  cases l with
  | own a xs =>
   rcases h with⟨ys,rfl,_⟩|rfl
   . exact(List.Sublist.refl _).append ih
   . exact ih.trans (List.sublist_append_right _ _)
  |un=>have e:l'=.un:=h;subst e;exact(List.Sublist.refl _).append ih
  |d x=>have e:l'=.d x:=h;subst e;exact(List.Sublist.refl _).append ih
  |bx k ms=>have e:l'=.un:=h;subst e;exact ih.trans (List.sublist_append_right _ _)
  |dic k ms=>have e:l'=.un:=h;subst e;exact ih.trans (List.sublist_append_right _ _)
theorem yr.sub{Z:Ev}:∀{ls ls':List L},yr Z ls ls'->∀a∈L2.owns ls',a∈L2.owns Z
 |_,_,.nil=>λa ha=>by simp[L2.owns]at ha
 | l::ls,l'::ls',.cons h t=>λa ha=>by
  have ih:=yr.sub t;rw[aJ]at ha;rcases List.mem_append.mp ha with z|z
  .
   cases l with
   | own b xs =>
    rcases h with⟨ys,rfl,hm⟩|rfl
    .
     have e:a=b:=by simpa[a9]using z
     subst e;exact yG hm
    . simp[a9]at z
   |un=>have e:l'=.un:=h;subst e;simp[a9]at z
   |d x=>have e:l'=.d x:=h;subst e;simp[a9]at z
   |bx k ms=>have e:l'=.un:=h;subst e;simp[a9]at z
   |dic k ms=>have e:l'=.un:=h;subst e;simp[a9]at z
  . exact ih a z
theorem Al{K:PySem.W.Frag}{Pr H H':Hp}{σ τ:St}{ls ls' Z:Ev}{v:Option V}{r:L}(E:aA K Pr H σ ls)(E':aA K (bq H ls) H' (v::τ) (r::Z))(B:yr Z ls ls'):aA K Pr H' (v::σ) (r::ls'):=by
 have E1:=E.narrow E';have p:sT H H':=uN E E'.sub;have sub:=B.sub;have nd1:(owns ls').Nodup:=E.nd.sublist B.owns;refine⟨E1.sub,?_,λa ha=>?_,?_⟩
 . have nd:=E'.nd;rw[aJ]at nd ⊢;obtain⟨n1,n2,n3⟩:=List.nodup_append.mp nd;exact List.nodup_append.mpr ⟨n1,nd1,λa ha b hb=>n3 a ha b (sub b hb)⟩
 .
  rw[aJ]at ha;refine E1.off a ?_;rw[aJ];rcases List.mem_append.mp ha with z|z
  . exact List.mem_append_left _ z
  . exact List.mem_append_right _ (sub a z)
 .
  have s1:=E'.sl
  cases s1 with
  | cons q t =>
   refine .cons q ?_;have sl:=E.sl;clear E E' E1 nd1 sub
   induction B generalizing σ with
   |nil=>cases sl;exact .nil
   | cons h u ih =>
    rename_i l l' _ _
    cases sl with
    | cons s0 s2 =>
     refine .cons ?_ (ih s2)
     cases l with
     | own a xs =>
      rcases h with⟨ys,rfl,hm⟩|rfl
      . obtain⟨e,_⟩:=s0;obtain⟨_,_,_,z⟩:=Paired.mem2 t hm;exact⟨e,z⟩
      . unfold a6;exact True.intro
     |un=>have e:l'=.un:=h;subst e;unfold a6;exact True.intro
     |bx k ms=>have e:l'=.un:=h;subst e;unfold a6;exact True.intro
     |dic k ms=>have e:l'=.un:=h;subst e;unfold a6;exact True.intro
     | d x =>
      have e:l'=.d x:=h;subst e;obtain⟨w,e,r⟩:=s0;exact⟨w,e,r.pres p⟩
section
variable{P:Program}{w:World}{K:PySem.W.Frag}{mg:Str->Option Value}{base:Heap}
theorem aA.uns{K:PySem.W.Frag}{Pr H:Hp}{σ:St}{Z:Ev}(E:aA K Pr H σ Z):∀n,aA K Pr H (σ++List.replicate n none) (Z++List.replicate n .un):=λn=>by
 have e:owns (Z++List.replicate n .un)=owns Z:=by
  rw[aD]
  have:owns (List.replicate n L.un)=[]:=by
   induction n with
   |zero=>rfl
   |succ n ih=>rw[List.replicate_succ,o7];exact ih
  rw[this,List.append_nil]
 refine⟨E.sub,by rw[e];exact E.nd,λa h=>E.off a (by rw[e]at h;exact h),Paired.app E.sl ?_⟩
 induction n with
 |zero=>exact .nil
 | succ n ih =>
  rw[List.replicate_succ,List.replicate_succ];refine .cons True.intro (ih ?_)
  have:owns (List.replicate n L.un)=[]:=by
   clear ih e
   induction n with
   |zero=>rfl
   |succ n ih=>rw[List.replicate_succ,o7];exact ih
  rw[aD,this,List.append_nil]
theorem a7{x qual:Str}{st:Stmt}{f:Addr}{fd:FuncData}{N ps:List Str}{k:Nat}{fs:FS}(F:QA K x qual st f fd)(S:aB N ps (ao st))(t:W Fl)
  (hbody:∀(cdv:Value)(A:Around)(outer:List Env)(s:Shared)(H:Hp)(E:XK),td k (A.deeper (envOfC qual (ao st) s.heap.objs.size f cdv))->QE (Ii CX0 P w K mg base N qual (ao st) f cdv A outer s H E).nox (i5 st) t)
  (h:∀ls kz,ls.length=ps.length->fs ls kz->t (ls++List.replicate (N.length-ps.length) .un) (aW ls kz)):FnOk P w K mg base CX0 (k+1) f fd ps (spF K ps.length fs):=by
 refine F.ok S (λvs H Q E q=>q.1) (λcdv A outer s H vs Q E hr q=>?_);obtain⟨hl,Pr,ls,kz,E0,hf,q⟩:=q;refine⟨_,(hbody cdv A outer s H E hr).pss,bq H ls,ls++List.replicate (N.length-ps.length) .un,aW ls kz,?_,h ls kz (by rw[<- hl];have:=E0.len;simpa using this.symm) hf,λσ' H' Z' E' p=>?_,λ_ _ _ _ p=>p.elim,λ_ _ _ _ p=>p.elim,λv τ H' r Z' E' p=>?_⟩
 . unfold uG;rw[hl];exact E0.wide.uns _
 . obtain⟨ls',B,p⟩:=p;exact q .non H' (.d .non) ls' (Al E0 (E'.cons_d .non) B) p
 . obtain⟨ls',B,p⟩:=p;exact q v H' r ls' (Al E0 E' B) p
end
theorem aM{Z:Ev}:yr Z [] []:=.nil
theorem aj{Z:Ev}{x:D}{a b:List L}(t:yr Z a b):yr Z (.d x::a) (.d x::b):=.cons rfl t
theorem fR{Z:Ev}{p:Addr}{xs ys:List D}{a b:List L}(h:L.own p ys∈Z)(t:yr Z a b):yr Z (.own p xs::a) (.own p ys::b):=.cons (.inl ⟨ys,rfl,h⟩) t
theorem mr{Z:Ev}{p:Addr}{xs:List D}{a b:List L}(t:yr Z a b):yr Z (.own p xs::a) (.un::b):=.cons (.inr rfl) t
section
variable{X:Cx}{e a b c tg:Expr}{es:List Expr}{pos:Pos}{tA:W Bool}{t u:W Fl}
def kq(c:W Bool)(b:W Fl):W Fl:=λZ kz=>∃J:Nat->Ev->Prop,(∃n,J n Z)/\∀n Z,J n Z->c Z λt Z1=>if t=true then b Z1 λf Z2=>(match f with
 |.nx=>∃m,m<n/\J m Z2
 |.ct=>∃m,m<n/\J m Z2
 |.bk=>kz .nx Z2
 |.rt r=>kz (.rt r) Z2)else kz .nx Z1
theorem hJ{body:List Stmt}(hp:PassesOwn (model X.prog X.w) X.A X.env X.xe)(hc:PB X c tA)(hb:QE X body t):PM X (.While c body [] pos) (kq tA t):=by
 refine PM.of (Fj hp hc.pt hb.pss) λσ H Pr Z kz fI E h=>?_;obtain⟨J,⟨n0,j0⟩,turn⟩:=h;refine⟨λn σ H=>∃Z,aA X.K Pr H σ Z/\J n Z,⟨n0,Z,E,j0⟩,λn σ1 H1 ⟨Z1,E1,j1⟩=>⟨Pr,Z1,_,E1,turn n Z1 j1,λb H2 Z2 E2 q=>?_⟩⟩
 cases b with
 |false=>exact⟨Z2,E2,q⟩
 | true =>
  refine⟨λσ' H'=>∃Z' m,aA X.K Pr H' σ' Z'/\m<n/\J m Z',λσ' H' ⟨Z',m,E',hm,j⟩=>⟨m,hm,Z',E',j⟩,Pr,Z2,_,E2,q,λσ' H' Z' E' ⟨m,hm,j⟩=>⟨Z',m,E',hm,j⟩,λσ' H' Z' E' p=>⟨Z',E',p⟩,λσ' H' Z' E' ⟨m,hm,j⟩=>⟨Z',m,E',hm,j⟩,λv τ H' r Z' E' p=>⟨τ,r,Z',E',p⟩⟩
abbrev Tg:=D->Ev->(Ev->Prop)->Prop
def QO(X:Cx)(tg:Expr)(g:Tg):Prop:=∃gg:TG,PG X tg gg/\∀v σ H Pr Z x k,σ.length=X.N.length->aA X.K Pr H σ Z->QC X.K H v x->g x Z k->gg v σ H λσ' H'=>H'=H/\σ'.length=X.N.length/\∃Z',aA X.K Pr H σ' Z'/\k Z'
def aQ(i:Nat):Tg:=λx Z k=>k (Z.set i (.d x))
theorem cY{i:Nat}{x:Str}(hN:X.N.Nodup)(hi:X.N[i]?=some x)(hx:PR X.env.scope x)(hf:X.fn x=true∨X.env.scope.names.lookup x=some .local:=by first|exact .inl rfl|exact .inr rfl|assumption):QO X (.Name x pos) (aQ i) :=
 ⟨_,uF hN hi hx hf,λv σ H Pr Z x k hl E r h=>⟨rfl,by simpa using hl,_,(E.cons_d r).store (by rw[hl];exact(k4.mp hi).1),h⟩⟩
def hU:List Nat->List D->Ev->(Ev->Prop)->Prop
 |[],[],Z,k=>k Z
 |i::is,x::xs,Z,k=>hU is xs (Z.set i (.d x)) k
 |_,_,_,_=>False
def QP(X:Cx)(es:List Expr)(is:List Nat):Prop:=∃gg:P2,P4 X es gg/\es.length=is.length/\∀vs σ H Pr Z xs k,σ.length=X.N.length->aA X.K Pr H σ Z->bL X.K H vs xs->hU is xs Z k->gg vs σ H λσ' H'=>H'=H/\σ'.length=X.N.length/\∃Z',aA X.K Pr H σ' Z'/\k Z'
theorem qN:QP X [] []:=⟨_,B7,rfl,λvs σ H Pr Z xs k hl E r h=>by
 cases r with
 |nil=>exact⟨rfl,rfl,hl,Z,E,h⟩
 |cons _ _=>exact h.elim⟩
theorem cT{i:Nat}{is:List Nat}{x:Str}(hN:X.N.Nodup)(hi:X.N[i]?=some x)(hx:PR X.env.scope x)(hr:QP X es is)(hf:X.fn x=true∨X.env.scope.names.lookup x=some .local:=by first|exact .inl rfl|exact .inr rfl|assumption)
  (hs:(assignEach (.Name x pos::es) X.env).map (·.2)=assign (.Name x pos) X.env::(assignEach es X.env).map (·.2):=by rfl):QP X (.Name x pos::es) (i::is):=by
 obtain⟨gg,hg,fI,q⟩:=hr;refine⟨_,Ad (uF hN hi hx hf) hg hs,by simp[fI],λvs σ H Pr Z xs k hl E r h=>?_⟩
 cases r with
 |nil=>exact h.elim
 | cons r0 t =>
  refine⟨_,_,rfl,?_⟩;exact q _ _ H Pr _ _ k (by simpa using hl) ((E.cons_d r0).store (by rw[hl];exact(k4.mp hi).1)) t h
def eY(is:List Nat):Tg:=λx Z k=>match x with
 |.tup xs=>hU is xs Z k
 |_=>False
theorem k6:∀{is:List Nat}{xs:List D}{Z:Ev}{k:Ev->Prop},hU is xs Z k->xs.length=is.length
 |[],[],_,_,_=>rfl
 |_::is,_::xs,_,_,h=>by simp[k6 (is:=is) (xs:=xs) h]
 |[],_::_,_,_,h=>h.elim
 |_::_,[],_,_,h=>h.elim
theorem wM{is:List Nat}{k:Nat}(hc:X.calm=true)(h:QP X es is)(hn:(assignEach es X.env).length=is.length:=by rfl)(hst:(assignEach es X.env).findIdx? (·.1)=none:=by rfl):QO X (.Tuple es k pos) (eY is):=by
 obtain⟨gg,hg,fI,q⟩:=h;refine⟨_,Hs hc hg hn hst,λv σ H Pr Z x k hl E r h=>?_⟩
 cases r with
 |tup hs rs=>exact⟨_,_,rfl,hs,by rw[rs.length];exact k6 h,q _ σ H Pr Z _ k hl E rs h⟩
 |_=>exact h.elim
def eZ(g:Tg)(b:W Fl):List D->W Fl
 |[]=>λZ kz=>kz .nx Z
 | x::xs=>λZ kz=>g x Z λZ1=>b Z1 λf Z2=>match f with
  |.nx=>eZ g b xs Z2 kz
  |.ct=>eZ g b xs Z2 kz
  |.bk=>kz .nx Z2
  |.rt r=>kz (.rt r) Z2
def i6:D->(List D->Prop)->Prop
 |.lst xs,k=>k xs
 |.tup xs,k=>k xs
 |_,_=>False
def Lu(H H':Hp):Prop:=H'=H∨∃p o,H p=none/\H'=PD H p o
theorem aA.grown{K:PySem.W.Frag}{Pr H H':Hp}{σ:St}{Z:Ev}(E:aA K Pr H σ Z)(g:Lu H H'):aA K Pr H' σ Z:=by
 rcases g with rfl|⟨p,o,h,rfl⟩
 . exact E
 . exact E.new h
def yJ(K:PySem.W.Frag)(H:Hp)(J:It)(xs:List D):Prop:=∀H',sT H H' ->
 (∀i x,xs[i]?=some x->J.go i H'/\∀v H2,J.yld i H' v H2->Lu H' H2/\QC K H2 v x)/\J.stop xs.length H'
def EI(X:Cx)(ab:List (Addr×Obj))(σ:St)(tg:Expr)(Pr:Hp)(kz:List D->Ev->Prop)(itv:Value)(s2:Shared):Prop :=
 ∃(it:Addr)(fp:List Addr)(tn:Nat->Heap->Prop)(J:It)(H':Hp)(xs:List D)(Z':Ev),itv=.ref it/\PU X ab σ H' s2/\Ht X.prog X.w X.K tg J fp it tn/\tn 0 s2.heap/\(∀b∈fp,B2 X ab H' b)/\aA X.K Pr H' σ Z'/\yJ X.K H' J xs/\kz xs Z'
def QQ(X:Cx)(tg iter:Expr)(w:W (List D)):Prop :=
 ∀(ab:List (Addr×Obj))(s:Shared)(σ:St)(H Pr:Hp)(Z:Ev)(kz:List D->Ev->Prop),PU X ab σ H s->aA X.K Pr H σ Z->w Z kz ->
  wpAny (model X.prog X.w) X.A (eval iter X.env) (λv s1=>wpAny (model X.prog X.w) X.A (pyIter v) (EI X ab σ tg Pr kz) X.xe s1) X.xe s
def me(t:W L):W (List D):=λZ kz=>t Z λr Z1=>QF r λx=>i6 x λxs=>kz xs Z1
theorem Bg{K:PySem.W.Frag}{H:Hp}{a:Addr}{vs:List V}{xs:List D}(h:QB K H a vs)(r:bL K H vs xs):yJ K H (Qa K a) xs:=λH' p=>by have h':=(h.pres p).l;refine⟨λi x e=>?_,⟨vs,h',by rw[r.length];exact Uu _⟩⟩;obtain⟨v,ev,rv⟩:=r.get e;refine⟨⟨vs,v,h',ev⟩,λw H2 ⟨e1,e2⟩=>?_⟩;have e3:=e2 vs h';rw[ev]at e3;cases e3;subst e1;exact⟨.inl rfl,rv.pres p⟩
theorem Cv{K:PySem.W.Frag}{H:Hp}{a:Addr}{vs:List V}{xs:List D}(h:P1 K H a vs)(r:bL K H vs xs):yJ K H (Qb K a) xs:=λH' p=>by have h':=h.pres p;refine⟨λi x e=>?_,⟨vs,h',by rw[r.length];exact Uu _⟩⟩;obtain⟨v,ev,rv⟩:=r.get e;refine⟨⟨vs,v,h',ev⟩,λw H2 ⟨e1,e2⟩=>?_⟩;have e3:=e2 vs h';rw[ev]at e3;cases e3;subst e1;exact⟨.inl rfl,rv.pres p⟩
theorem bo{t:W L}(h:PL X e t):QQ X tg e (me t):=by
 intro ab s σ H Pr Z kz I E ht;refine PX (h ab s σ H Pr Z _ I E ht) λu s1 q=>?_;obtain⟨v,H1,x,Z1,I1,r1,E1,q2⟩:=EL.frz (kz:=λx Z1=>i6 x λxs=>kz xs Z1) q;obtain⟨_,e1,p⟩:=E1.head_d;cases e1
 cases p with
 | lst hz rs =>
  cases r1;obtain⟨its,rv,pl,hz'⟩:=I1.list hz.l;refine wpAny_pyIter_list pl.isList ?_;refine⟨s1.heap.objs.size,[s1.heap.objs.size],_,_,H1,_,Z1,rfl,I1.kept (t':=s1.toks) λb o e=>p4 _ e,B8 _ _,⟨_,Heap.get?_push_size _ rfl,rfl,rfl⟩,λb hb=>?_,E1.tail,Bg hz rs,q2⟩;have e:b=s1.heap.objs.size:=by simpa using hb
  subst e;exact I1.fpOk (Uu _) (I1.hok.fresh (Uu _))
 | tup hz rs =>
  cases r1;obtain⟨its,rv,pl,hz'⟩:=I1.tuple hz;refine wpAny_pyIter_tuple (show s1.heap.IsTuple _ its.toArray from pl) ?_;refine⟨s1.heap.objs.size,[s1.heap.objs.size],_,_,H1,_,Z1,rfl,I1.kept (t':=s1.toks) λb o e=>p4 _ e,A3 _ _,⟨_,Heap.get?_push_size _ rfl,rfl,rfl⟩,λb hb=>?_,E1.tail,Cv hz rs,q2⟩;have e:b=s1.heap.objs.size:=by simpa using hb
  subst e;exact I1.fpOk (Uu _) (I1.hok.fresh (Uu _))
 |_=>exact q2.elim
noncomputable def wm(lo:Int)(n:Nat):List D:=(List.range n).map λ(i:Nat)=>.int (lo+(i:Int))
theorem wN{K:PySem.W.Frag}{H:Hp}(lo:Int)(n:Nat):yJ K H (Qc lo n) (wm lo n):=λH' p=>by
 refine⟨λi x e=>?_,?_⟩
 .
  have hi:i<n:=by have:=(k4.mp e).1;simpa[wm]using this
  refine⟨hi,λv H2 ⟨e1,e2⟩=>?_⟩;subst e1 e2;have:x=.int (lo+(i:Int)):=by unfold wm at e;rw[List.getElem?_map,List.getElem?_range hi]at e;simpa using e.symm
  subst this;exact⟨.inl rfl,.int _⟩
 . show n<=(wm lo n).length;simp[wm]
def mv:L->(Int->Prop)->Prop
 |.d (.int i),k=>k i
 |_,_=>False
theorem da{r:L}{k:Int->Prop}(h:mv r k):∃i,r=.d (.int i)/\k i:=by
 cases r with
 | d x=>cases x with
  |int i=>exact⟨i,rfl,h⟩
  |_=>exact h.elim
 |_=>exact h.elim
def Cw(j:Int):Prop:=-(2^62)<=j/\j<2^62
def kg(t:W L):W (List D):=λZ kz=>t Z λr Z1=>mv r λj=>Cw j/\kz (wm 0 j.toNat) Z1
def FG(t u:W L):W (List D):=λZ kz=>t Z λr Z1=>mv r λi=>u Z1 λr Z2=>mv r λj=>Cw i/\Cw j/\kz (wm i (j-i).toNat) Z2
theorem cq{t:W L}{p pos:Pos} (hg:Gl X "range") (hm:X.mg "range"=none) (ha:PL X a t) (hs:starEach [a] X.env=[(false,eval a X.env)]:=by rfl):QQ X tg (.Call (.Name "range" p) [a] [] pos) (kg t):=by
 intro ab s σ H Pr Z kz I E h;refine PX (B9 (tg:=tg) hg hm (eD ha.pe mi hs) hs ab s σ H (λJ H1=>∃Z1 n,J=Qc 0 n/\aA X.K Pr H1 σ Z1/\kz (wm 0 n) Z1) I ?_) λv s1 q=>PX q λitv s2 ⟨it,fp,tn,J,H',e,I',T,t0,hf,Z1,n,eJ,E1,q⟩=>?_
 . refine⟨Pr,Z,_,E,h,λv H' r Z' E' p=>?_⟩;obtain⟨j,rfl,hj,p⟩:=da p;obtain⟨_,e1,p1⟩:=E'.head_d;cases e1;cases p1;exact⟨j,rfl,hj.1,hj.2,Z',_,rfl,E'.tail,p⟩
 . subst eJ;exact⟨it,fp,tn,_,H',_,Z1,e,I',T,t0,hf,E1,wN 0 n,q⟩
theorem Am{t u:W L}{p pos:Pos} (hg:Gl X "range") (hm:X.mg "range"=none) (ha:PL X a t) (hb:PL X b u) (hs:starEach [a,b] X.env=[(false,eval a X.env),(false,eval b X.env)]:=by rfl) (hs2:starEach [b] X.env=[(false,eval b X.env)]:=by rfl):QQ X tg (.Call (.Name "range" p) [a,b] [] pos) (FG t u):=by
 intro ab s σ H Pr Z kz I E h;refine PX (Ca (tg:=tg) hg hm (eD ha.pe (eD hb.pe mi hs2) (hs.trans (by rw[hs2]))) hs hs2 ab s σ H (λJ H1=>∃Z1 lo n,J=Qc lo n/\aA X.K Pr H1 σ Z1/\kz (wm lo n) Z1) I ?_) λv s1 q=>PX q λitv s2 ⟨it,fp,tn,J,H',e,I',T,t0,hf,Z1,lo,n,eJ,E1,q⟩=>?_
 . refine⟨Pr,Z,_,E,h,λv H' r Z' E' p=>?_⟩;obtain⟨i,rfl,p⟩:=da p;obtain⟨_,e1,p1⟩:=E'.head_d;cases e1;cases p1;refine⟨Pr,Z',_,E'.tail,p,λv H2 r Z2 E2 p=>?_⟩;obtain⟨j,rfl,hi,hj,p⟩:=da p;obtain⟨_,e1,p1⟩:=E2.head_d;cases e1;cases p1;exact⟨i,j,rfl,⟨hi.1,hi.2,hj.1,hj.2⟩,Z2,_,_,rfl,E2.tail,p⟩
 . subst eJ;exact⟨it,fp,tn,_,H',_,Z1,e,I',T,t0,hf,E1,wN lo n,q⟩
def tw(s:W (List D))(g:Tg)(b:W Fl):W Fl:=λZ kz=>s Z λxs Z1=>eZ g b xs Z1 kz
theorem dc{iter:Expr}{body:List Stmt}{w:W (List D)}{g:Tg}(hp:PassesOwn (model X.prog X.w) X.A X.env X.xe)(hc:X.calm=true)(hi:QQ X tg iter w)(hg:QO X tg g)(hb:QE X body t)
  (hs:∀x,foldedSetIterable iter X.env x=pure x:=by intro _;rfl):PM X (.For tg iter body [] pos) (tw w g t):=by
 intro ab s σ H Pr Z kz I E h;obtain⟨gg,hg,hgg⟩:=hg;refine wpAny_For (PX (hi ab s σ H Pr Z _ I E h) λv s1 h1=>PX h1 λitv s2 h2=>?_) hs;obtain⟨it,fp,tn,J,H2,xs,Z2,e,I2,T,st2,f2,E2,G,w0⟩:=h2;subst e;have stat:∀{H':Hp},(∀b∈fp,H' b=none)->∀b∈fp,B2 X ab H' b:=λhn b hb=>⟨hn b hb,(f2 b hb).2⟩;refine codeAny_forLoop_any (λn s'=>∃i σ' H' Z',n+i=xs.length/\PU X ab σ' H' s'/\tn i s'.heap/\(∀b∈fp,H' b=none)/\aA X.K (bq H2 Z2) H' σ' Z'/\eZ g t (xs.drop i) Z' kz) ?_ xs.length ⟨0,σ,H2,Z2,xL,I2,st2,λb hb=>(f2 b hb).1,E2.wide,by simpa using w0⟩;rintro n s3 ⟨i,σ3,H3,Z3,hn,I3,st3,fr3,E3,w3⟩;obtain⟨go,stop⟩:=G H3 (uN E2 E3.sub);by_cases hlt:i<xs.length
 .
  obtain⟨hgo,hy⟩:=go i xs[i] (gV hlt);rw[List.drop_eq_getElem_cons hlt]at w3;refine wpAny_passesOwn hp (PX (T.item X rfl rfl rfl hc i ab s3 σ3 H3 X.xe I3 (stat fr3) st3 hgo) λr s4 ⟨u,hr,h4⟩=>?_);subst hr;refine wpAny_passesOwn hp (PX h4 λ_ s5 ⟨x,H5,I5,r5,y5,st5,fr5⟩=>?_);obtain⟨gr,rx⟩:=hy x H5 y5;have I5':=I5.pinned (stat fr5) (T.obj _ _ st5);have E5:=E3.grown gr;refine wpAny_passesOwn hp (PX (hg _ s5 σ3 H5 x u _ I5' r5 (hgg x σ3 H5 _ Z3 xs[i] _ I5.len E5 rx w3)) λ_ s6 ⟨σ6,H6,I6,e6,hl6,Z6,E6,q6⟩=>?_);subst e6;refine wpAny_passesOwn hp (PX (hb _ s6 σ6 _ _ Z6 _ I6 E6 q6) λf s7 q7=>?_)
  have again:∀{σ7:St}{H7:Hp}{Z7:Ev},PU X (ab++tY fp s5.heap) σ7 H7 s7->aA X.K (bq H2 Z2) H7 σ7 Z7->eZ g t (xs.drop (i+1)) Z7 kz ->
    ∃m,m<n/\∃i σ' H' Z',m+i=xs.length/\PU X ab σ' H' s7/\tn i s7.heap/\(∀b∈fp,H' b=none)/\aA X.K (bq H2 Z2) H' σ' Z'/\eZ g t (xs.drop i) Z' kz:=λ{σ7 H7 Z7} I7 E7 n7=>by
   refine⟨n-1,xL,i+1,σ7,H7,Z7,xL,I7.unpinned,T.keep _ _ _ st5 λb hb o e=>(I7.pin (b,o) (List.mem_append_right _ (List.mem_append_right _ (eV hb e)))).1,λb hb=>?_,E7,n7⟩;obtain⟨o,e,d⟩:=T.obj _ _ st5 b hb;exact(I7.pin (b,o) (List.mem_append_right _ (List.mem_append_right _ (eV hb e)))).2.1
  cases f with
  |next=>obtain⟨σ7,H7,Z7,I7,E7,n7⟩:=q7;exact again I7 E7 n7
  |cont=>obtain⟨σ7,H7,Z7,I7,E7,n7⟩:=q7;exact again I7 E7 n7
  |brk=>obtain⟨σ7,H7,Z7,I7,E7,q7⟩:=q7;exact⟨σ7,H7,Z7,I7.unpinned,E2.narrow E7,q7⟩
  |ret v=>obtain⟨x7,σ7,H7,r,Z7,τ,I7,r7,E7,q7⟩:=q7;exact⟨x7,σ7,H7,r,Z7,τ,I7.unpinned,r7,E2.narrow E7,q7⟩
 .
  have e:i=xs.length:=by omega
  subst e;refine wpAny_passesOwn hp (PX (T.done X rfl rfl rfl hc xs.length ab s3 σ3 H3 X.xe I3 (stat fr3) st3 stop) λr s4 ⟨hr,I4⟩=>?_);subst hr;rw[List.drop_length]at w3;exact wpAny_execs_nil ⟨σ3,H3,Z3,I4,E2.narrow E3,w3⟩
end
section
variable{X:Cx}{e a b c:Expr}{pos:Pos}{ta tb:W L}
def cP(i:Int):Prop:=i.natAbs<2^1000000
def cn:QG:=λx y k=>match x,y with
 |.int i,.int j=>k (.d (.int (i+j)))
 |.str i,.str j=>i.length+j.length<=sizeLine/\k (.d (.str (i++j)))
 |.lst xs,.lst ys=>xs.length+ys.length<=sizeLine/\∀a,k (.own a (xs++ys))
 |_,_=>False
def k7:QG:=λx y k=>match x,y with
 |.int i,.int j=>k (.d (.int (i-j)))
 |_,_=>False
def mw:QG:=λx y k=>match x,y with
 |.int i,.int j=>j≠0/\j.natAbs<2^9000/\k (.d (.int (i.fdiv j)))
 |_,_=>False
def fN:QG:=λx y k=>match x,y with
 |.int i,.int j=>j≠0/\k (.d (.int (i.fmod j)))
 |_,_=>False
def Bh:QG:=λx y k=>match x,y with
 |.int i,.int j=>0<=j/\j<=1000000/\i.natAbs<2^64/\k (.d (.int (i^j.toNat)))
 |_,_=>False
def yt:QG:=λx y k=>match x,y with
 |.int i,.int j=>k (.d (.bl (decide (i<j))))
 |_,_=>False
def FH:QG:=λx y k=>match x,y with
 |.int i,.int j=>k (.d (.bl (decide (i<=j))))
 |_,_=>False
def EX:QG:=λx y k=>match x,y with
 |.int i,.int j=>k (.d (.bl (decide (j<i))))
 |_,_=>False
def M5:QG:=λx y k=>match x,y with
 |.int i,.int j=>k (.d (.bl (decide (j<=i))))
 |_,_=>False
theorem Cy{i j:Int}(h1:cP i)(h2:cP j):IntMulOk i j:=IntMulOk.of_le (PySem.intBits_le_iff.mpr h1) (PySem.intBits_le_iff.mpr h2) xp
theorem IJ:Qd X (binaryOp .Mult) (rI (λi j=>cP i/\cP j) λi j=>.int (i*j)):=Qh λ_ _ _ _ _ _ _ hc q=>mul_int q (Cy hc.1 hc.2)
theorem IK:Qd X (binaryOp .FloorDiv) (rI (λi j=>j≠0/\j.natAbs<2^9000) λi j=>.int (i.fdiv j)):=Qh λi j _ _ _ _ _ hc q=>floordiv_int hc.1 q (.inl (PyProof.noPylong_of_log2 ((Nat.log2_lt (by have:=hc.1;omega)).mpr hc.2)))
theorem Cz:Qd X (binaryOp .Add) (λx y H Q=>∃l b xs zs,x=.ref l/\y=.ref b/\P0 X.K H l xs/\P0 X.K H b zs/\xs.length+zs.length<=sizeLine/\∀p,H p=none->Q (.ref p) (PD H p (.lst (xs++zs)))):=by
 intro ab s σ H x y v u Q I rx ry h;obtain⟨l,b,xs,zs,rfl,rfl,hH,hB,hz,q⟩:=h;cases rx;cases ry;obtain⟨its,r,⟨o,n,e,c,d,f⟩,z⟩:=I.list hH;obtain⟨its2,r2,⟨o2,n2,e2,c2,d2,f2⟩,z2⟩:=I.list hB;obtain⟨cl,dd,dt,sl⟩:=o;obtain⟨cl2,dd2,dt2,sl2⟩:=o2;simp only at c f c2 f2;subst c f c2 f2;have hl:=r.length;have hl2:=r2.length;refine concat_meets ⟨_,e,rfl⟩ ⟨_,e2,rfl⟩ noFill_list_add seq_list_add PySem.F.slot_list_add PySem.F.entry_list_add (PySem.F.args_list_add_2 _ _) (list_addW l b its.toArray its2.toArray n n2 dd dd2 sl sl2 (by rw[List.size_toArray,List.size_toArray];omega)) ⟨e,e2,?_⟩;have ea:its.toArray++its2.toArray=(its++its2).toArray:=by simp
 rw[ea];exact⟨.ref _,_,I.lnew (t':=s.toks) (r.append r2) (by rw[List.length_append];omega),rfl,q _ I.fresh⟩
theorem FI{x y:D}{k:L->Prop}(h:cn x y k):(∃i j,x=.int i/\y=.int j/\k (.d (.int (i+j))))∨(∃i j,x=.str i/\y=.str j/\i.length+j.length<=sizeLine/\k (.d (.str (i++j))))∨∃xs ys,x=.lst xs/\y=.lst ys/\xs.length+ys.length<=sizeLine/\∀a,k (.own a (xs++ys)):=by
 unfold cn at h;split at h
 . exact .inl ⟨_,_,rfl,rfl,h⟩
 . exact .inr (.inl ⟨_,_,rfl,rfl,h⟩)
 . exact .inr (.inr ⟨_,_,rfl,rfl,h⟩)
 . exact h.elim
theorem IL:QH X (binaryOp .Add) (λx y k=>∃i j,x=.int i/\y=.int j/\k (.d (.int (i+j)))):=QH.of K4 λσ H Pr Z x y dx dy kz E px py ⟨i,j,e1,e2,h⟩=>by subst e1 e2;cases px;cases py;exact⟨i,j,rfl,rfl,_,E.cons_d (.int _),h⟩
theorem IM:QH X (binaryOp .Add) (λx y k=>∃i j,x=.str i/\y=.str j/\i.length+j.length<=sizeLine/\k (.d (.str (i++j)))):=QH.of A5 λσ H Pr Z x y dx dy kz E px py ⟨i,j,e1,e2,z,h⟩=>by subst e1 e2;cases px;cases py;exact⟨i,j,rfl,rfl,z,_,E.cons_d (.str _),h⟩
theorem IP:QH X (binaryOp .Add) (λx y k=>∃xs ys,x=.lst xs/\y=.lst ys/\xs.length+ys.length<=sizeLine/\∀a,k (.own a (xs++ys))):=QH.of Cz λσ H Pr Z x y dx dy kz E px py ⟨xs,ys,e1,e2,z,h⟩=>by
 subst e1 e2
 cases px with
 | lst h1 r1 =>
  cases py with
  |lst h2 r2=>exact⟨_,_,_,_,rfl,rfl,h1.l,h2.l,by rw[r1.length,r2.length];exact z,λp hp=>⟨_,E.cons_own hp (r1.append r2),h p⟩⟩
theorem bA:QH X (binaryOp .Add) cn:=by
 intro ab s σ H Pr Z x y v u dx dy kz I rx ry E px py ho;rcases FI ho with h|h|h
 . exact IL ab s σ H Pr Z x y v u dx dy kz I rx ry E px py h
 . exact IM ab s σ H Pr Z x y v u dx dy kz I rx ry E px py h
 . exact IP ab s σ H Pr Z x y v u dx dy kz I rx ry E px py h
theorem An{f:Value->Value->Sem Value}{C:Int->Int->Prop}{g:Int->Int->V}{gd:Int->Int->D}(h:Qd X f (rI C g))(hg:∀K H i j,QC K H (g i j) (gd i j)) :
  QH X f (λx y k=>∃i j,x=.int i/\y=.int j/\C i j/\k (.d (gd i j))) :=
 QH.of h λσ H Pr Z x y dx dy kz E px py ⟨i,j,e1,e2,z,h⟩=>by subst e1 e2;cases px;cases py;exact⟨i,j,rfl,rfl,z,_,E.cons_d (hg _ _ _ _),h⟩
theorem qO{f:Value->Value->Sem Value}{g:Int->Int->V}{gd:Int->Int->D}(h:Qd X f (Qg g))(hg:∀K H i j,QC K H (g i j) (gd i j)) :
  QH X f (λx y k=>∃i j,x=.int i/\y=.int j/\k (.d (gd i j))) :=
 QH.of h λσ H Pr Z x y dx dy kz E px py ⟨i,j,e1,e2,h⟩=>by subst e1 e2;cases px;cases py;exact⟨i,j,rfl,rfl,_,E.cons_d (hg _ _ _ _),h⟩
theorem iT:QH X (binaryOp .Sub) k7:=(qO K5 (gd:=λi j=>.int (i-j)) λ_ _ _ _=>.int _).imp λx y k h=>by
 unfold k7 at h;split at h
 . exact⟨_,_,rfl,rfl,h⟩
 . exact h.elim
theorem Lv:QH X (binaryOp .Mult) (λx y k=>∃i j,x=.int i/\y=.int j/\(cP i/\cP j)/\k (.d (.int (i*j)))):=An IJ (gd:=λi j=>.int (i*j)) λ_ _ _ _=>.int _
def a8:QG:=λx y k=>match x,y with
 |.int i,.int j=>cP i/\cP j/\k (.d (.int (i*j)))
 |_,_=>False
theorem aU:QH X (binaryOp .Mult) a8:=Lv.imp λx y k h=>by
 unfold a8 at h;split at h
 . exact⟨_,_,rfl,rfl,⟨h.1,h.2.1⟩,h.2.2⟩
 . exact h.elim
theorem i7:QH X (binaryOp .FloorDiv) mw:=(An IK (gd:=λi j=>.int (i.fdiv j)) λ_ _ _ _=>.int _).imp λx y k h=>by
 unfold mw at h;split at h
 . exact⟨_,_,rfl,rfl,⟨h.1,h.2.1⟩,h.2.2⟩
 . exact h.elim
theorem de:QH X (binaryOp .Mod) fN:=(An Ie (gd:=λi j=>.int (i.fmod j)) λ_ _ _ _=>.int _).imp λx y k h=>by
 unfold fN at h;split at h
 . exact⟨_,_,rfl,rfl,h.1,h.2⟩
 . exact h.elim
theorem CA:QH X (binaryOp .Pow) Bh:=(An K6 (gd:=λi j=>.int (i^j.toNat)) λ_ _ _ _=>.int _).imp λx y k h=>by
 unfold Bh at h;split at h
 . exact⟨_,_,rfl,rfl,⟨h.1,h.2.1,h.2.2.1⟩,h.2.2.2⟩
 . exact h.elim
theorem tD:QH X (compareOp .Lt) yt:=(qO K8 (gd:=λi j=>.bl (decide (i<j))) λ_ _ _ _=>.bl _).imp λx y k h=>by
 unfold yt at h;split at h
 . exact⟨_,_,rfl,rfl,h⟩
 . exact h.elim
theorem IQ:QH X (compareOp .LtE) FH:=(qO K9 (gd:=λi j=>.bl (decide (i<=j))) λ_ _ _ _=>.bl _).imp λx y k h=>by
 unfold FH at h;split at h
 . exact⟨_,_,rfl,rfl,h⟩
 . exact h.elim
theorem yK:QH X (compareOp .Gt) EX:=(qO Nx (gd:=λi j=>.bl (decide (j<i))) λ_ _ _ _=>.bl _).imp λx y k h=>by
 unfold EX at h;split at h
 . exact⟨_,_,rfl,rfl,h⟩
 . exact h.elim
theorem NF:QH X (compareOp .GtE) M5:=(qO Ny (gd:=λi j=>.bl (decide (j<=i))) λ_ _ _ _=>.bl _).imp λx y k h=>by
 unfold M5 at h;split at h
 . exact⟨_,_,rfl,rfl,h⟩
 . exact h.elim
mutual
noncomputable def QR:D->PyData
 |.non=>.none
 |.bl b=>.bool b
 |.int i=>.int i
 |.str x=>.str x
 |.tup xs=>.tuple (g8 xs)
 |.lst xs=>.list (g8 xs)
 |.dct _=>.dict []
 |.exc _ _ _=>.dict []
 |.fn _ _=>.dict []
noncomputable def g8:List D->List PyData
 |[]=>[]
 |x::xs=>QR x::g8 xs
end
noncomputable def QS(x y:D):Bool:=PyData.eqv (QR x) (QR y)
def df(x:D):Prop:=SeqAt.shaped (QR x)=true
def mx:QG:=λx y k=>df x/\df y/\k (.d (.bl (QS x y)))
def yu:QG:=λx y k=>df x/\df y/\k (.d (.bl (!QS x y)))
mutual
theorem my{ab:List (Addr×Obj)}{σ:St}{H:Hp}{s:Shared}(I:PU X ab σ H s):∀(d:D)(x:V)(u:Value),cJ x u->QC X.K H x d->(QR d).canLay0=true->∃as,Reads s.heap u (QR d) as
 |.non,_,_,rv,r,_=>by cases r;cases rv;exact⟨_,.none⟩
 |.bl b,_,_,rv,r,_=>by cases r;cases rv;exact⟨_,.bool b⟩
 |.int i,_,_,rv,r,_=>by cases r;obtain⟨t,rfl⟩:=rv;exact⟨_,.int i t⟩
 |.str z,_,_,rv,r,_=>by cases r;obtain⟨t,rfl⟩:=rv;exact⟨_,.str z t⟩
 | .tup xs,_,_,rv,r,hc=>by
  cases r with
  | tup h rs =>
   cases rv
   obtain⟨its,vs,⟨o,e,c,n,d⟩,_⟩:=I.tuple h
   obtain⟨as,ra⟩:=k8 I xs _ _ vs rs hc
   exact⟨_,.tuple (xs:=g8 xs) e c d (by simpa using ra)⟩
 | .lst xs,_,_,rv,r,hc=>by
  cases r with
  | lst h rs =>
   cases rv
   obtain⟨its,vs,⟨o,n,e,c,_,d⟩,_⟩:=I.list h.l
   obtain⟨as,ra⟩:=k8 I xs _ _ vs rs hc
   exact⟨_,.list (xs:=g8 xs) e c d (by simpa using ra)⟩
 |.dct _,_,_,_,_,hc=>nomatch hc
 |.exc _ _ _,_,_,_,_,hc=>nomatch hc
 |.fn _ _,_,_,_,_,hc=>nomatch hc
theorem k8{ab:List (Addr×Obj)}{σ:St}{H:Hp}{s:Shared}(I:PU X ab σ H s):∀(ds:List D)(vs:List V)(us:List Value),ck vs us->bL X.K H vs ds->PyData.canLayAll0 (g8 ds)=true->∃as,ReadsAll s.heap us (g8 ds) as
 |[],_,_,rv,r,_=>by cases r;cases rv;exact⟨_,.nil⟩
 | d::ds,_,_,rv,r,hc=>by
  have hc':(QR d).canLay0=true/\PyData.canLayAll0 (g8 ds)=true:=by simpa[g8,PyData.canLayAll0]using hc
  cases r with
  | cons r0 rs =>
   cases rv with
   | cons v0 vs =>
    obtain⟨as,ra⟩:=my I d _ _ v0 r0 hc'.1
    obtain⟨bs,rb⟩:=k8 I ds _ _ vs rs hc'.2
    exact⟨_,.cons ra rb⟩
end
theorem dJ(hu:X.A.units+64<cLine):QH X (compareOp .Eq) mx:=by intro ab s σ H Pr Z x y v u dx dy kz I rx ry E px py ⟨h1,h2,ho⟩;obtain⟨as,ra⟩:=my I dx x v rx px (SeqAt.canLay_of_shaped h1);obtain⟨bs,rb⟩:=my I dy y u ry py (SeqAt.canLay_of_shaped h2);exact eq_dataH ra rb h1 h2 hu ⟨.bl _,H,_,I,rfl,E.cons_d (.bl _),ho⟩
theorem p5(hu:X.A.units+64<cLine):QH X (compareOp .NotEq) yu:=by intro ab s σ H Pr Z x y v u dx dy kz I rx ry E px py ⟨h1,h2,ho⟩;obtain⟨as,ra⟩:=my I dx x v rx px (SeqAt.canLay_of_shaped h1);obtain⟨bs,rb⟩:=my I dy y u ry py (SeqAt.canLay_of_shaped h2);exact ne_dataH ra rb h1 h2 hu ⟨.bl _,H,_,I,rfl,E.cons_d (.bl _),ho⟩
theorem Lw:QH X (compareOp .Is) (λx y k=>y=.non/\k (.d (.bl (match x with | .non=>true|_=>false)))):=QH.of La λσ H Pr Z x y dx dy kz E px py ⟨e,h⟩=>by subst e;cases py;refine⟨rfl,_,E.cons_d (.bl _),?_⟩;cases px<;>exact h
theorem IR:QH X (compareOp .IsNot) (λx y k=>y=.non/\k (.d (.bl (match x with | .non=>false|_=>true)))):=QH.of Ig λσ H Pr Z x y dx dy kz E px py ⟨e,h⟩=>by subst e;cases py;refine⟨rfl,_,E.cons_d (.bl _),?_⟩;cases px<;>exact h
def aG:QG:=λx y k=>match x,y with
 |.lst xs,.int i=>∃v,Qp xs i=some v/\k (.d v)
 |.tup xs,.int i=>∃v,Qp xs i=some v/\k (.d v)
 |.str z,.int i=>z.length<=sizeLine/\∃c,Qp z.cps.toList i=some c/\k (.d (.str ⟨#[c]⟩))
 |_,_=>False
theorem yL{K:PySem.W.Frag}{H:Hp}{vs:List V}{xs:List D}(r:bL K H vs xs){i:Int}{x:D}(h:Qp xs i=some x):∃v,Qp vs i=some v/\QC K H v x:=by
 unfold Qp at h ⊢;rw[r.length]
 cases q:Qo xs.length i with
 |none=>rw[q]at h;cases h
 | some j =>
  rw[q]at h;exact r.get h
theorem IS{x y:D}{k:L->Prop}(h:aG x y k):∃i,y=.int i/\((∃xs,x=.lst xs/\∃v,Qp xs i=some v/\k (.d v))∨(∃xs,x=.tup xs/\∃v,Qp xs i=some v/\k (.d v))∨∃z,x=.str z/\z.length<=sizeLine/\∃c,Qp z.cps.toList i=some c/\k (.d (.str ⟨#[c]⟩))):=by
 unfold aG at h;split at h
 . exact⟨_,rfl,.inl ⟨_,rfl,h⟩⟩
 . exact⟨_,rfl,.inr (.inl ⟨_,rfl,h⟩)⟩
 . exact⟨_,rfl,.inr (.inr ⟨_,rfl,h⟩)⟩
 . exact h.elim
theorem au(ha:PL X a ta)(hb:PL X b tb)(hs:uH b):PL X (.Subscript a b pos) (av aG ta tb):=by
 intro ab s σ H Pr Z kz I E h;refine Subscript_ (two (R:=λdx dy Z2=>aG dx dy λr=>kz r Z2) ha hb I E h λv u s2 x y H2 dx dy Z2 I2 r1 r2 E2 p1 p2 q=>?_);have PZ:∀(Q:VK),(∀z H',Q z H'->∃r,aA X.K Pr H' (some z::σ) (r::Z2)/\kz r Z2)->∀w s',EP X ab σ Q w s'->EL X ab σ Pr kz w s':=λQ hQ w s' ⟨z,H',I',rz,q⟩=>by obtain⟨r,E',p⟩:=hQ z H' q;exact⟨z,H',r,Z2,I',rz,E',p⟩
 have Eσ:=E2.tail.tail;obtain⟨i,rfl,⟨xs,rfl,z,hz',q⟩|⟨xs,rfl,z,hz',q⟩|⟨z,rfl,hz,c,hc,q⟩⟩:=IS q
 .
  cases p2
  cases p1 with
  | lst hz rs =>
   obtain⟨w,hw,rw⟩:=yL rs hz';exact PX (yB a b ab s2 σ H2 _ _ v u (λz H'=>z=w/\H'=H2) I2 r1 r2 ⟨_,_,i,w,rfl,rfl,hz.l,hw,rfl,rfl⟩ (hs _ _)) (PZ _ λz H' ⟨e1,e2⟩=>by subst e1 e2;exact⟨_,Eσ.cons_d rw,q⟩)
 .
  cases p2
  cases p1 with
  | tup hz rs =>
   obtain⟨w,hw,rw⟩:=yL rs hz';exact PX (Cj a b ab s2 σ H2 _ _ v u (λz H'=>z=w/\H'=H2) I2 r1 r2 ⟨_,_,i,w,rfl,rfl,hz,hw,rfl,rfl⟩ (hs _ _)) (PZ _ λz H' ⟨e1,e2⟩=>by subst e1 e2;exact⟨_,Eσ.cons_d rw,q⟩)
 . cases p2;cases p1;exact PX (Le a b ab s2 σ H2 _ _ v u (λz H'=>z=.str ⟨#[c]⟩/\H'=H2) I2 r1 r2 ⟨z,i,c,rfl,rfl,hz,hc,rfl,rfl⟩ (hs _ _)) (PZ _ λz H' ⟨e1,e2⟩=>by subst e1 e2;exact⟨_,Eσ.cons_d (.str _),q⟩)
end
section
variable{X:Cx}{e a b c:Expr}{es:List Expr}{pos p:Pos}{ta:W L}{x:Str}{bs:List (Option Nat)}{t:W (List L)}{id T:String}
abbrev QT:=List D->(L->Prop)->Prop
def fO(X:Cx)(f:Value)(op:QT):Prop :=
 ∀(ab:List (Addr×Obj))(s:Shared)(σ:St)(H Pr:Hp)(Z:Ev)(vs:List V)(us:List Value)(ds:List D)(kz:L->Prop),PU X ab σ H s->ck vs us->aA X.K Pr H σ Z->bL X.K H vs ds->op ds kz ->
  wpAny (model X.prog X.w) X.A (call f us) (λw s'=>∃z H' r,PU X ab σ H' s'/\cJ z w/\aA X.K Pr H' (some z::σ) (r::Z)/\kz r) X.xe s
theorem fO.of{f:Value}{r:List V->Hp->VK->Prop}{op:QT}(h:iX X f r)(q:∀σ H Pr Z vs ds kz,aA X.K Pr H σ Z->bL X.K H vs ds->op ds kz->r vs H λz H'=>∃r,aA X.K Pr H' (some z::σ) (r::Z)/\kz r):fO X f op :=
 λab s σ H Pr Z vs us ds kz I rv E ps ho=>PX (h ab s σ H vs us _ I rv (q σ H Pr Z vs ds kz E ps ho)) λw s' ⟨z,H',I',rz,r,E',p⟩=>⟨z,H',r,I',rz,E',p⟩
def aX(op:QT)(t:W (List L)):W L:=λZ kz=>t Z λls Z1=>KC ls λds=>op ds λr=>kz r Z1
theorem aI(hc:fO X (.builtin id) op)(hg:Gl X x)(hm:X.mg x=none)(hv:bootBuiltins x=some (.builtin id))(ha:QD X (e::es) bs t) (hn:x≠"__name__":=by decide) (hdb:(x == ("__debug__" : Str))=false:=by decide)
  (he:starEach (e::es) X.env=(false,eval e X.env)::starEach es X.env:=by rfl) (hpl:(backTo pos (starEach es X.env)).any (·.1)=false:=by rfl):PL X (.Call (.Name x p) (e::es) [] pos) (aX op t):=by
 intro ab s σ H Pr Z kz I E h;refine wpAny_Call_Name_kw (iQ I hg hm hv ?_ hn hdb);refine PyProof.Rows.callWith_builtin1 (PX (ha pos ab s σ H Pr Z _ I E h) λus s1 ⟨vs,H1,ls,Z1,I1,r1,hl,hb,E1,_,q1⟩=>?_) he hpl;obtain⟨ds,rfl,q2⟩:=qL q1;have fI:vs.length=ds.length:=by simpa using hl
 exact PX (hc ab s1 σ H1 Pr Z1 vs us ds _ I1 r1 (E1.drop (by simp[fI])) (qM fI E1) q2) λw s2 ⟨z,H2,r,I2,rz,E2,q⟩=>⟨z,H2,r,Z1,I2,rz,E2,q⟩
theorem e8(hc:fO X (.type T) op)(hg:Gl X x)(hm:X.mg x=none)(hv:bootBuiltins x=some (.type T))(ha:QD X (e::es) bs t) (hn:x≠"__name__":=by decide) (hdb:(x == ("__debug__" : Str))=false:=by decide)
  (he:starEach (e::es) X.env=(false,eval e X.env)::starEach es X.env:=by rfl) (hpl:(backTo pos (starEach es X.env)).any (·.1)=false:=by rfl):PL X (.Call (.Name x p) (e::es) [] pos) (aX op t):=by
 intro ab s σ H Pr Z kz I E h;refine wpAny_Call_Name_kw (iQ I hg hm hv ?_ hn hdb);refine PyProof.Rows.callWith_type1 (PX (ha pos ab s σ H Pr Z _ I E h) λus s1 ⟨vs,H1,ls,Z1,I1,r1,hl,hb,E1,_,q1⟩=>?_) he hpl;obtain⟨ds,rfl,q2⟩:=qL q1;have fI:vs.length=ds.length:=by simpa using hl
 exact PX (hc ab s1 σ H1 Pr Z1 vs us ds _ I1 r1 (E1.drop (by simp[fI])) (qM fI E1) q2) λw s2 ⟨z,H2,r,I2,rz,E2,q⟩=>⟨z,H2,r,Z1,I2,rz,E2,q⟩
def bN:QT:=λds k=>match ds with
 |[.lst xs]=>k (.d (.int xs.length))
 |[.tup xs]=>k (.d (.int xs.length))
 |[.str x]=>x.length<=sizeLine/\k (.d (.int x.length))
 |_=>False
theorem qP{K:PySem.W.Frag}{H:Hp}{vs:List V}{d:D}(r:bL K H vs [d]):∃v,vs=[v]/\QC K H v d:=by
 cases r with
 |cons h t=>cases t;exact⟨_,rfl,h⟩
theorem Lx{K:PySem.W.Frag}{H:Hp}{vs:List V}{d d':D}(r:bL K H vs [d,d']):∃v w,vs=[v,w]/\QC K H v d/\QC K H w d':=by
 cases r with
 | cons h t=>cases t with
  |cons h' t=>cases t;exact⟨_,_,rfl,h,h'⟩
theorem bB:fO X (.builtin "len") bN:=fO.of (o6.or wD) λσ H Pr Z vs ds kz E ps h=>by
 unfold bN at h;split at h
 .
  obtain⟨v,rfl,r⟩:=qP ps
  cases r with
  |lst hz rs=>exact .inl ⟨_,_,rfl,.inl hz.l,_,E.cons_d (.int _),by rw[rs.length];exact h⟩
 .
  obtain⟨v,rfl,r⟩:=qP ps
  cases r with
  |tup hz rs=>exact .inl ⟨_,_,rfl,.inr hz,_,E.cons_d (.int _),by rw[rs.length];exact h⟩
 .
  obtain⟨v,rfl,r⟩:=qP ps
  cases r with
  |str z=>exact .inr ⟨_,rfl,h.1,_,E.cons_d (.int _),h.2⟩
 . exact h.elim
def Bi:QT:=λds k=>match ds with
 |[.int i]=>k (.d (.int (if i<0 then -i else i)))
 |_=>False
theorem CB:fO X (.builtin "abs") Bi:=fO.of Fo λσ H Pr Z vs ds kz E ps h=>by
 unfold Bi at h;split at h
 .
  obtain⟨v,rfl,r⟩:=qP ps
  cases r with
  |int i=>exact⟨_,rfl,_,E.cons_d (.int _),h⟩
 . exact h.elim
def FJ:QT:=λds k=>match ds with
 |[.int i,.int j]=>k (.d (.int (if j > i then j else i)))
 |_=>False
def CC:QT:=λds k=>match ds with
 |[.int i,.int j]=>k (.d (.int (if j<i then j else i)))
 |_=>False
theorem Ly(hc:X.calm=true):fO X (.builtin "max") FJ:=fO.of (Cc hc) λσ H Pr Z vs ds kz E ps h=>by
 unfold FJ at h;split at h
 .
  obtain⟨v,w,rfl,r,r'⟩:=Lx ps
  cases r with
  | int i=>cases r' with
   |int j=>exact⟨_,_,rfl,_,E.cons_d (.int _),h⟩
 . exact h.elim
theorem HH(hc:X.calm=true):fO X (.builtin "min") CC:=fO.of (Cd hc) λσ H Pr Z vs ds kz E ps h=>by
 unfold CC at h;split at h
 .
  obtain⟨v,w,rfl,r,r'⟩:=Lx ps
  cases r with
  | int i=>cases r' with
   |int j=>exact⟨_,_,rfl,_,E.cons_d (.int _),h⟩
 . exact h.elim
def uS:QT:=λds k=>match ds with
 |[.int i]=>k (.d (.int i))
 |[.bl b]=>k (.d (.int (if b then 1 else 0)))
 |_=>False
theorem t8:fO X (.type "int") uS:=fO.of Ce λσ H Pr Z vs ds kz E ps h=>by
 unfold uS at h;split at h
 .
  obtain⟨v,rfl,r⟩:=qP ps
  cases r with
  |int i=>exact .inl ⟨_,rfl,_,E.cons_d (.int _),h⟩
 .
  obtain⟨v,rfl,r⟩:=qP ps
  cases r with
  |bl i=>exact .inr ⟨_,rfl,_,E.cons_d (.int _),h⟩
 . exact h.elim
def Ao:QT:=λds k=>match ds with
 |[.lst xs]=>∀a,k (.own a xs)
 |[.tup xs]=>∀a,k (.own a xs)
 |_=>False
theorem IT:fO X (.type "list") Ao:=fO.of wF λσ H Pr Z vs ds kz E ps h=>by
 unfold Ao at h;split at h
 .
  obtain⟨v,rfl,r⟩:=qP ps
  cases r with
  |lst hz rs=>exact⟨_,_,rfl,.inl hz.l,λl hl=>⟨_,E.cons_own hl rs,h l⟩⟩
 .
  obtain⟨v,rfl,r⟩:=qP ps
  cases r with
  |tup hz rs=>exact⟨_,_,rfl,.inr hz,λl hl=>⟨_,E.cons_own hl rs,h l⟩⟩
 . exact h.elim
noncomputable def QU:D->Value
 |.non=>.type "NoneType"
 |.bl _=>.type "bool"
 |.int _=>.type "int"
 |.str _=>.type "str"
 |.tup _=>.type "tuple"
 |.lst _=>.type "list"
 |.dct _=>.type "dict"
 |.exc _ _ _=>.none
 |.fn _ _=>.type "function"
def QV(K:PySem.W.Frag)(d:D)(t:Value):Prop:=match d with
 |.exc c _ _=>∃C,t=.ref C/\t6 K c C=true
 |d=>t=QU d
theorem FK{ab:List (Addr×Obj)}{σ:St}{H:Hp}{s:Shared}{a:Addr}{o:Obj}{u:HO}{C:Addr}{ns:List Str}{vs:List V}(I:PU X ab σ H s)(h:H a=some (.frz o u))(hc:o.cls=.ref C)(hn:PySem.W.notCls o=true)(hf:XF H o.dict ns vs):∃od,PySem.W.InstAt s.heap a o C od/\∀d,o.dict=some d->∃q,od=some q/\s.heap.get? d=some q:=by
 have e:=(show s.heap.get? a=some o/\_ from I.hok a _ h).1;rcases hf with⟨_,_,z⟩|⟨d,od,z,h2,_⟩
 . exact⟨none,⟨e,hc,hn,by rw[z];trivial⟩,λd q=>by rw[z]at q;cases q⟩
 . have e2:=(show s.heap.get? d=some od/\_ from I.hok d _ h2).1;exact⟨some od,⟨e,hc,hn,by rw[z];exact e2⟩,λd' q=>by rw[z]at q;cases q;exact⟨od,rfl,e2⟩⟩
theorem FL{ab:List (Addr×Obj)}{σ:St}{H:Hp}{s:Shared}{x:V}{u c:Value}{d:D}{b:Bool}{Q:Value->Shared->Prop}{A:Around}{E:Value->Shared->Prop}(I:PU X ab σ H s)(rx:cJ x u)(r:QC X.K H x d)(e:∀t,QV X.K d t->PySem.W.kitOne X.K t c=some b)(h:∀tk,Q (.bool b) {s with toks:=tk}) :
  wpAny (model X.prog X.w) A (call (.builtin "isinstance") [u,c]) Q E s:=by
 cases r with
 |non=>cases rx;exact PySem.W.kia_one PySem.W.kitx_none I.kIn True.intro (e _ rfl) (λz=>nomatch z) h
 |bl y=>cases rx;exact PySem.W.kia_one PySem.W.kitx_bool I.kIn True.intro (e _ rfl) (λz=>nomatch z) h
 |int i=>obtain⟨t,rfl⟩:=rx;exact PySem.W.kia_one PySem.W.kitx_int I.kIn True.intro (e _ rfl) (λz=>nomatch z) h
 |str y=>obtain⟨t,rfl⟩:=rx;exact PySem.W.kia_one PySem.W.kitx_str I.kIn True.intro (e _ rfl) (λz=>nomatch z) h
 | lst hz rs =>
  cases rx;obtain⟨its,_,⟨o,n,e1,c1,_,_⟩,_⟩:=I.list hz.l;exact PySem.W.kia_one PySem.W.kitx_list I.kIn ⟨o,e1,c1⟩ (e _ rfl) (λz=>nomatch z) h
 | tup hz rs =>
  cases rx;obtain⟨its,_,⟨o,e1,c1,_⟩,_⟩:=I.tuple hz;exact PySem.W.kia_one PySem.W.kitx_tuple I.kIn ⟨o,e1,c1⟩ (e _ rfl) (λz=>nomatch z) h
 | @dct a o kvs hz =>
  cases rx;obtain⟨_,_,_,vs,_,o',es,ep,h1,h2,_⟩:=(show g9 X.prog X.w H s.heap a (.frz o (.dK kvs))from I.hok a _ hz);exact PySem.W.kia_one PySem.W.kitx_dict I.kIn ⟨o',h1,h2.1⟩ (e _ rfl) (λz=>nomatch z) h
 | @exc a o u cc C ns vs ds h1 hv hc hn hs hq hf rs =>
  cases rx;obtain⟨od,Ia,_⟩:=FK I h1 hc hn hf;obtain⟨LL,cd,S⟩:=wJ hs;exact PySem.W.kia_one (Fx S) I.kIn ⟨_,_,Ia⟩ (e _ ⟨C,rfl,hs⟩) (λz=>nomatch z) h
 | fn hl hf hq hc hz hd hv hm r =>
  cases rx;exact PySem.W.kia_one Ir I.kIn ⟨_,(I.hok _ _ hf).1,rfl⟩ (e _ rfl) (λz=>nomatch z) h
noncomputable def nZ(T:String):D->Bool
 |.non=>T == "NoneType"
 |.bl _=>T == "bool" ||T == "int"
 |.int _=>T == "int"
 |.str _=>T == "str"
 |.tup _=>T == "tuple"
 |.lst _=>T == "list"
 |.dct _=>T == "dict"
 |.exc _ _ _=>(["ValueError","Exception","BaseException","object"]:List String).contains T
 |.fn _ _=>T == "function"
def n9(T:String):D->(L->Prop)->Prop:=λd k=>k (.d (.bl (nZ T d)))
theorem kr{T:String}{y:Str}{py:Pos}(hT:∀ K d t,QV K d t->PySem.W.kitOne K t (.type T)=some (nZ T d)) (hg:Gl X "isinstance") (hm:X.mg "isinstance"=none) (hy:Gl X y) (hmy:X.mg y=none) (hby:bootBuiltins y=some (.type T)) (ha:PL X a ta)
  (hny:y≠"__name__":=by decide) (hdy:(y == ("__debug__" : Str))=false:=by decide)
  (h1:starEach [a,.Name y py] X.env=(false,eval a X.env)::starEach [.Name y py] X.env:=by rfl) (h2:starEach [.Name y py] X.env=[(false,eval (.Name y py) X.env)]:=by rfl) (hpl:(backTo pos (starEach [.Name y py] X.env)).any (·.1)=false:=by rfl) :
  PL X (.Call (.Name "isinstance" p) [a,.Name y py] [] pos) (QL (n9 T) ta):=by
 have cr:iX X (.builtin "isinstance") (λxs H Q=>∃ x d,xs=[x,.ty T]/\QC X.K H x d/\Q (.bl (nZ T d)) H):=by intro ab s σ H xs us Q I rv h;obtain⟨x,d,rfl,r,q⟩:=h;obtain⟨u,w,rfl,r1,r2⟩:=Ih rv;cases r2;exact FL I r1 r (hT _ d) λtk=>⟨.bl _,H,I.tok _,rfl,q⟩
 refine PL.of (Ah cr hg hm y_ (eD (ay ha).pe (eD (Ic hy hmy hby (v:=.ty T) rfl hny hdy) mi h2) h1) (he:=h1) (hpl:=hpl)) λσ H Pr Z kz E h=>?_
 refine⟨Pr,Z,λr Z1=>match r with
  |.d x=>n9 T x λr=>kz r Z1
  |_=>False,E,h,λv H' r Z' E' p=>?_⟩
 cases r with
 | d x =>
  obtain⟨_,e1,p1⟩:=E'.head_d;cases e1;exact⟨_,x,rfl,p1,_,Z',E'.tail.cons_d (.bl _),p⟩
 |_=>exact p.elim
end
section
variable{X:Cx}{e a b:Expr}{pos p apos cpos:Pos}{tb te:W L}{x:Str}
theorem aA.updOwn{K:PySem.W.Frag}{Pr H:Hp}{σ:St}{Z:Ev}{i:Nat}{l:Addr}{xs ys:List D}{vs:List V}(E:aA K Pr H σ Z)(q:Z[i]?=some (.own l xs))(r:bL K H vs ys):aA K Pr (PD H l (.lst vs)) σ (Z.set i (.own l ys)):=by obtain⟨sv,hs,rfl,_⟩:=E.slot q;have hi:i<Z.length:=(k4.mp q).1;have E1:=(E.out q).write r;have E2:=E1.back (i:=i) (by simp[hi]) hs;rw[List.set_set]at E2;exact E2
theorem aA.ownAt{K:PySem.W.Frag}{Pr H:Hp}{σ:St}{Z:Ev}{i:Nat}{l:Addr}{xs:List D}(E:aA K Pr H σ Z)(q:Z[i]?=some (.own l xs)):σ[i]?=some (some (.ref l))/\∃vs,H l=some (.lst vs)/\bL K H vs xs:=by obtain⟨sv,hs,rfl,r⟩:=E.slot q;exact⟨hs,r⟩
def t9(i:Nat)(Z:Ev)(k:Addr->List D->Prop):Prop:=match Z[i]? with
 |some (.own a xs)=>k a xs
 |_=>False
theorem dM{i:Nat}{Z:Ev}{k:Addr->List D->Prop}(h:t9 i Z k):∃a xs,Z[i]?=some (.own a xs)/\k a xs:=by
 unfold t9 at h
 cases q:Z[i]? with
 |none=>rw[q]at h;exact h.elim
 | some l =>
  rw[q]at h
  cases l with
  |own a xs=>exact⟨a,xs,rfl,h⟩
  |un=>exact h.elim
  |d x=>exact h.elim
  |bx _ _=>exact h.elim
  |dic _ _=>exact h.elim
def EY(i:Nat)(te:W L):W L:=λZ kz=>t9 i Z λ_ _=>te Z λr Z1=>QF r λy=>t9 i Z1 λa xs=>xs.length<sizeLine/\kz (.d .non) (Z1.set i (.own a (xs++[y])))
theorem d7(i:Nat)(he:PL X e te)(hN:X.N[i]?=some x:=by rfl)(hv:PQ X.env.scope x:=by first | exact Or.inl rfl | exact Or.inr (Or.inl rfl) | exact Or.inr (Or.inr rfl)) (hd:(x == ("__debug__" : Str))=false:=by decide)
  (hcd:(x == ("__classdict__" : Str))=false:=by decide) (hs1:starEach [e] X.env=[(false,eval e X.env)]:=by rfl) (hbase:attributeBase (.Name x p) "append" X.env (eval (.Name x p) X.env)=eval (.Name x p) X.env:=by rfl)
  (hfew:((backTo cpos (starEach [e] X.env)).all (λx=>!x.1) && (backToKw cpos (keywordEach [] X.env)).all (λx=>x.1.isSome)
   && decide (([e]).length+([]:List Keyword).length+(if([]:List Keyword).isEmpty then 0 else 1)<30))=true:=by rfl)
  (hline:(apos.endLine == cpos.line)=true:=by rfl) (hplain:(backTo cpos (starEach ([]:List Expr) X.env)).any (·.1)=false:=by rfl) :
  PL X (.Call (.Attribute (.Name x p) "append" apos) [e] [] cpos) (EY i te):=by
 refine PL.of (Ft PySem.F.plainAttrs_list PySem.F.slot_list_append PySem.F.type_list_append mj (d4 hN hv hd hcd) (eD (ay he).pe mi hs1) (hbase:=hbase) (hfew:=hfew) (hline:=hline) (hs:=hs1) (hplain:=hplain)) λσ H Pr Z kz E h=>?_;obtain⟨l,xs0,q0,h⟩:=dM h;obtain⟨hσ,vs0,hl0,_⟩:=E.ownAt q0
 refine⟨.ref l,hσ,.inl ⟨rfl,vs0,P0.of hl0⟩,Pr,Z,λr Z1=>match r with
  |.d y=>t9 i Z1 λa xs=>xs.length<sizeLine/\kz (.d .non) (Z1.set i (.own a (xs++[y])))
  |_=>False,E,h,λv H' r Z' E' pp=>?_⟩
 cases r with
 | d y =>
  obtain⟨l',xs,q,fI,pp⟩:=dM pp;obtain⟨hσ',vs,hl,r⟩:=E'.tail.ownAt q;rw[hσ]at hσ';cases hσ';obtain⟨_,e1,p1⟩:=E'.head_d;cases e1;exact⟨l,vs,v,rfl,rfl,hl,by rw[r.length];exact fI,_,_,(E'.tail.updOwn q (r.append (.cons p1 .nil))).cons_d .non,pp⟩
 |_=>exact pp.elim
def Bj(i:Nat)(tb:W L):W L:=λZ kz=>t9 i Z λ_ _=>tb Z λr Z1=>mv r λj=>t9 i Z1 λ_ xs=>∃y,Qp xs j=some y/\kz (.d y) Z1
theorem i8(i:Nat)(hb:PL X b tb)(hs:uH b)(hN:X.N[i]?=some x:=by rfl)(hv:PQ X.env.scope x:=by first | exact Or.inl rfl | exact Or.inr (Or.inl rfl) | exact Or.inr (Or.inr rfl)) (hd:(x == ("__debug__" : Str))=false:=by decide)
  (hcd:(x == ("__classdict__" : Str))=false:=by decide):PL X (.Subscript (.Name x p) b pos) (Bj i tb):=by
 refine PL.of (Im yB (d4 hN hv hd hcd) hb.pe hs) λσ H Pr Z kz E h=>?_;obtain⟨l,xs0,q0,h⟩:=dM h;obtain⟨hσ,vs0,hl0,_⟩:=E.ownAt q0;refine⟨.ref l,hσ,Pr,Z,_,E,h,λv H' r Z' E' pp=>?_⟩;obtain⟨j,rfl,pp⟩:=da pp;obtain⟨l',xs,q,y,hy,pp⟩:=dM pp;obtain⟨hσ',vs,hl,r⟩:=E'.tail.ownAt q;rw[hσ]at hσ';cases hσ';obtain⟨_,e1,p1⟩:=E'.head_d;cases e1;cases p1;obtain⟨w,hw,rw⟩:=yL r hy;exact⟨l,vs,j,w,rfl,rfl,P0.of hl,hw,_,Z',E'.tail.cons_d rw,pp⟩
def CD(i:Nat):W L:=λZ kz=>t9 i Z λ_ xs=>kz (.d (.int xs.length)) Z
theorem yM(i:Nat) (hg:Gl X "len") (hm:X.mg "len"=none) (hN:X.N[i]?=some x:=by rfl) (hv:PQ X.env.scope x:=by first | exact Or.inl rfl | exact Or.inr (Or.inl rfl) | exact Or.inr (Or.inr rfl)) (hd:(x == ("__debug__" : Str))=false:=by decide)
  (hcd:(x == ("__classdict__" : Str))=false:=by decide) (h1:starEach [.Name x p] X.env=[(false,eval (.Name x p) X.env)]:=by rfl) (hpl:(backTo pos (starEach ([]:List Expr) X.env)).any (·.1)=false:=by rfl) :
  PL X (.Call (.Name "len" apos) [.Name x p] [] pos) (CD i):=by
 refine PL.of (Ah o6 hg hm PySem.boot_len (eD (d4 hN hv hd hcd) mi h1) (he:=h1) (hpl:=hpl)) λσ H Pr Z kz E h=>?_;obtain⟨l,xs0,q0,h⟩:=dM h;obtain⟨hσ,vs0,hl0,r⟩:=E.ownAt q0;exact⟨.ref l,hσ,l,vs0,rfl,.inl (P0.of hl0),_,Z,E.cons_d (.int _),by rw[r.length];exact h⟩
def yN(i:Nat)(tb te:W L):W Fl:=λZ kz=>te Z λr Z1=>QF r λy=>t9 i Z1 λ_ _=>tb Z1 λr Z2=>mv r λj=>t9 i Z2 λa xs=>∃k,Qo xs.length j=some k/\kz .nx (Z2.set i (.own a (xs.set k y)))
theorem qQ(i:Nat){b:Expr}{ps:Pos}(hb:PL X b tb)(he:PL X e te)(hN:X.N[i]?=some x:=by rfl)(hv:PQ X.env.scope x:=by first | exact Or.inl rfl | exact Or.inr (Or.inl rfl) | exact Or.inr (Or.inr rfl)) (hd:(x == ("__debug__" : Str))=false:=by decide)
  (hcd:(x == ("__classdict__" : Str))=false:=by decide)
  (ha:∀v,assign (.Subscript (.Name x p) b ps) X.env v=(do
   let ov <- holding [v] (eval (.Name x p) X.env)
   let iv <- holding [v,ov] (eval b X.env)
   standAt ps
   holding [v,ov,iv] (setItem ov iv v)
   release [v,ov,iv] []):=by intro _;rfl)
  (hs:swapsWithSole [.Subscript (.Name x p) b ps] e pos.line X.env=pure false:=by rfl) (hw:swappedStores [.Subscript (.Name x p) b ps] e X.env=pure none:=by rfl)
  (h1:(assignEach [.Subscript (.Name x p) b ps] X.env).map (·.2)=[assign (.Subscript (.Name x p) b ps) X.env]:=by rfl):PM X (.Assign [.Subscript (.Name x p) b ps] e pos) (yN i tb te):=by
 refine PM.of (KZ (ay he).pe (KY (d4 hN hv hd hcd) hb.pe Fs ha) hs hw h1) λσ H Pr Z kz fI E h=>?_
 refine⟨Pr,Z,λr Z1=>match r with
  |.d y=>t9 i Z1 λ_ _=>tb Z1 λr Z2=>mv r λj=>t9 i Z2 λa xs=>∃k,Qo xs.length j=some k/\kz .nx (Z2.set i (.own a (xs.set k y)))
  |_=>False,E,h,λv H' r Z' E' pp=>?_⟩
 cases r with
 | d y =>
  obtain⟨l,xs0,q0,pp⟩:=dM pp;obtain⟨hσ,vs0,hl0,_⟩:=E'.tail.ownAt q0;refine⟨.ref l,hσ,bq H' Z',Z',_,E'.tail.wide,pp,λw H2 r2 Z2 E2 pp=>?_⟩;obtain⟨j,rfl,pp⟩:=da pp;obtain⟨l',xs,q,k,hk,pp⟩:=dM pp;obtain⟨_,e1,p1⟩:=E2.head_d;cases e1;cases p1;have E3:aA X.K Pr H2 (some (.int j)::some v::σ) (.d (.int j)::.d y::Z2):=aA.step (τ:=[some v]) (lam:=[.d y]) (w:=[some (.int j)]) (μ:=[.d (.int j)]) E' rfl E2 rfl;obtain⟨_,e1,p1⟩:=E3.tail.head_d;cases e1;obtain⟨hσ',vs,hl,r⟩:=E3.tail.tail.ownAt q;rw[hσ]at hσ';cases hσ';refine⟨l,vs,j,k,rfl,rfl,hl,by rw[r.length];exact hk,_,E3.tail.tail.updOwn q (r.set p1 k),pp⟩
 |_=>exact pp.elim
def Bk:Option (W L)->Ev->(Option Int->Ev->Prop)->Prop
 |none=>λZ k=>k none Z
 |some t=>λZ k=>t Z λr Z1=>mv r λi=>k (some i) Z1
noncomputable def IU{α:Type}(xs:List α)(lo hi:Option Int):List α:=(xs.drop (HT.sIx xs.length 0 lo)).take (HT.sIx xs.length xs.length hi-HT.sIx xs.length 0 lo)
end
noncomputable def aR:List Nat->Ev->Ev
 |[],Z=>Z
 |j::r,Z=>(aR r Z).set j .un
noncomputable def bF(fi:List Nat)(Z:Ev):Ev:=fi.map λj=>(Z[j]?).getD .un
noncomputable def bf(fi:List Nat)(σ:St):St:=fi.map λj=>(σ[j]?).getD none
noncomputable def dg:List Nat->Ev->Ev->Ev
 |j::r,c::cs,Z=>dg r cs (Z.set j c)
 |_,_,Z=>Z
theorem cC:∀(fi:List Nat)(Z:Ev),(aR fi Z).length=Z.length
 |[],_=>rfl
 |j::r,Z=>by unfold aR;rw[List.length_set,cC r Z]
theorem wO:∀(fi:List Nat)(Z:Ev)(j:Nat),j∉fi->(aR fi Z)[j]?=Z[j]?
 |[],_,_,_=>rfl
 | i::r,Z,j,h=>by unfold aR;rw[List.getElem?_set_ne (λe=>h (by simp[e])),wO r Z j λe=>h (k5 _ e)]
theorem uT:∀(fi:List Nat)(Z:Ev)(j:Nat),j∈fi->j<Z.length->(aR fi Z)[j]?=some .un
 | i::r,Z,j,h,hl=>by
  unfold aR;by_cases e:i=j
  . subst e;rw[List.getElem?_set_self (by rw[cC];exact hl)]
  . rw[List.getElem?_set_ne e];exact uT r Z j ((Uq.mp h).resolve_left λz=>e z.symm) hl
section
variable{K:PySem.W.Frag}{Pr H:Hp}{σ:St}{Z:Ev}
theorem aA.takeAt(E:aA K Pr H σ Z){i:Nat}{l:L}{s:Option V}(h:Z[i]?=some l)(hs:σ[i]?=some s):aA K Pr H (s::σ) (l::Z.set i .un):=E.outL h hs
theorem aA.takes(E:aA K Pr H σ Z):∀(fi:List Nat),fi.Nodup->(∀j∈fi,j<Z.length)->aA K Pr H (bf fi σ++σ) (bF fi Z++aR fi Z)
 |[],_,_=>E
 | j::r,nd,hl=>by
  have ih:=E.takes r (List.nodup_cons.mp nd).2 λi hi=>hl i (k5 _ hi);have hj:j<Z.length:=hl j tv;have hjs:j<σ.length:=by rw[E.len];exact hj
  have e1:(bF r Z++aR r Z)[r.length+j]?=some Z[j]:=by rw[List.getElem?_append_right (by simp[bF])];simp only[bF,Up,Nat.add_sub_cancel_left];rw[wO r Z j (List.nodup_cons.mp nd).1];exact gV hj
  have e2:(bf r σ++σ)[r.length+j]?=some σ[j]:=by rw[List.getElem?_append_right (by simp[bf])];simp only[bf,Up,Nat.add_sub_cancel_left];exact gV hjs
  have z:=ih.takeAt e1 e2;rw[List.set_append_right _ _ (by simp[bF])]at z;simp only[bF,Up,Nat.add_sub_cancel_left]at z;have c1:bf (j::r) σ=σ[j]::bf r σ:=by simp[bf,hjs]
  have c2:bF (j::r) Z=Z[j]::bF r Z:=by simp[bF,hj]
  rw[c1,c2];exact z
theorem aA.backs:∀(fi:List Nat){cs Z:Ev},fi.Nodup->cs.length=fi.length->(∀j∈fi,Z[j]?=some .un)->(∀j∈fi,j<σ.length)->aA K Pr H (bf fi σ++σ) (cs++Z)->aA K Pr H σ (dg fi cs Z)
 |[],[],Z,_,_,_,_,E=>E
 | j::r,c::cs,Z,nd,hl,hu,hs,E=>by
  have hjs:j<σ.length:=hs j tv;have hj:=hu j tv;have c1:bf (j::r) σ=σ[j]::bf r σ:=by simp[bf,hjs]
  rw[c1]at E;have hlr:cs.length=r.length:=by simpa using hl
  have z:=aA.back (σ:=bf r σ++σ) (Z:=cs++Z) (l:=c) E (i:=r.length+j) (by
   rw[List.getElem?_append_right xL,hlr,Nat.add_sub_cancel_left];exact hj) (by
   rw[List.getElem?_append_right (by simp[bf])];simp only[bf,Up,Nat.add_sub_cancel_left]
   exact gV hjs)
  rw[List.set_append_right _ _ xL,hlr,Nat.add_sub_cancel_left]at z
  exact aA.backs r (List.nodup_cons.mp nd).2 hlr (λi hi=>by
   rw[List.getElem?_set_ne (λe=>(List.nodup_cons.mp nd).1 (by rw[e];exact hi))];exact hu i (k5 _ hi)) (λi hi=>hs i (k5 _ hi)) z
 |[],_::_,_,_,hl,_,_,_=>by simp at hl
 |_::_,[],_,_,hl,_,_,_=>by simp at hl
end
noncomputable def wQ(cells:List (Str×Addr)):List (Str×NameKind)->List (Str×Addr)->List (Str×Addr)
 |[],acc=>acc
 |(n,k)::r,acc=>wQ cells r (if k == .free then(match cells.lookup n with|some c=>(n,c)::acc|none=>acc)else acc)
theorem oa{env:Env}:∀(names:List (Str×NameKind))(acc:List (Str×Addr)),(∀x∈names,x.2=.free->∃c,env.cells.lookup x.1=some c) ->
  (forIn names acc λ(x:Str×NameKind) (cs:List (Str×Addr))=>(if x.2 == .free then do let c <- cellOf env x.1;pure (ForInStep.yield ((x.1,c)::cs))else pure (ForInStep.yield cs):Sem (ForInStep (List (Str×Addr)))))=pure (wQ env.cells names acc)
 |[],acc,_=>rfl
 | (n,k)::r,acc,h=>by
  rw[List.forIn_cons];by_cases hk:(k == NameKind.free)=true
  .
   obtain⟨c,hc⟩:=h (n,k) tv (by simpa using hk);have e:cellOf env n=pure c:=by unfold cellOf;rw[show env.cells.lookup n=some c from hc]
   simp only[hk,if_true,e,pure_bind,wQ,hc];exact oa r _ λx hx=>h x (k5 _ hx)
  . simp only[hk,wQ,if_false,pure_bind];exact oa r _ λx hx=>h x (k5 _ hx)
theorem mz{scope:Scope}{env:Env}(h:∀x∈scope.names,x.2=.free->∃c,env.cells.lookup x.1=some c):closureFor scope env=pure (wQ env.cells scope.names []):=by have:=oa (env:=env) scope.names [] h;unfold closureFor;simp only[bind_pure_comp]at this ⊢;rw[this];rfl
theorem uU{cells:List (Str×Addr)}:∀(names:List (Str×NameKind))(acc:List (Str×Addr)),(∀x c,acc.lookup x=some c->cells.lookup x=some c)->∀x c,(wQ cells names acc).lookup x=some c->cells.lookup x=some c
 |[],acc,h,x,c,e=>h x c e
 | (n,k)::r,acc,h,x,c,e=>by
  unfold wQ at e;refine uU r _ (λy d ey=>?_) x c e;split at ey
  .
   split at ey
   .
    rename_i q;rw[List.lookup_cons]at ey;split at ey
    .
     rename_i e2;have:y=n:=by simpa using e2
     cases ey;rw[this];exact q
    . exact h y d ey
   . exact h y d ey
  . exact h y d ey
theorem p6{n:Str}{c:Addr}{acc:List (Str×Addr)}{x:Str}(h:∃d,acc.lookup x=some d):∃d,((n,c)::acc).lookup x=some d:=by
 rw[List.lookup_cons];split
 . exact⟨_,rfl⟩
 . exact h
theorem mB{cells:List (Str×Addr)}:∀(names:List (Str×NameKind))(acc:List (Str×Addr))(x:Str),((∃d,acc.lookup x=some d)∨((x,NameKind.free)∈names/\∃c,cells.lookup x=some c))->∃d,(wQ cells names acc).lookup x=some d
 | [],acc,x,h=>by
  rcases h with h|⟨h,_⟩
  . exact h
  . simp at h
 | (n,k)::r,acc,x,h=>by
  unfold wQ;refine mB r _ x ?_;rcases h with h|⟨hm,c,hc⟩
  .
   left;split
   .
    split
    . exact p6 h
    . exact h
   . exact h
  .
   rcases Uq.mp hm with e|hm
   . cases e;left;simp only[hc,beq_self_eq_true,if_true];exact⟨c,by simp[List.lookup_cons]⟩
   . exact .inr ⟨hm,c,hc⟩
noncomputable def cS(X:Cx)(scope:Scope)(cl:List (Str×Addr))(Nb:List Str)(s₀:Shared)(H₀:Hp)(fp:List Addr):Cx :=
 {X with N:=Nb,s₀:=s₀,H₀:=H₀,env:=compEnvC scope cl s₀.heap.objs.size X.env,outer:=X.stack,stack:=X.stack,ex:=fp,fn:=λ_=>false,pn:=[],xe:=λ_ _=>False}
theorem jY{α β:Type}{F:α->β->Prop}:∀{a:List α}{b:List β},Paired F a b↔a.length=b.length/\∀p∈a.zip b,F p.1 p.2
 |[],[]=>⟨λ_=>⟨rfl,λ_ h=>by simp at h⟩,λ_=>.nil⟩
 |[],_::_=>⟨(λh=>nomatch h),λh=>by simp at h⟩
 |_::_,[]=>⟨(λh=>nomatch h),λh=>by simp at h⟩
 | x::a,y::b=>by
  constructor
  .
   intro h
   cases h with
   | cons r t =>
    obtain⟨h1,h2⟩:=jY.mp t
    exact⟨by simp[h1],λp hp=>by
     rw[List.zip_cons_cons]at hp;rcases Uq.mp hp with rfl|hp
     . exact r
     .
      exact h2 p hp⟩
  . rintro⟨hl,h⟩;exact .cons (h (x,y) x_) (jY.mpr ⟨by simpa using hl,λp hp=>h p (by rw[List.zip_cons_cons];exact k5 _ hp)⟩)
theorem uV:∀{σ:St}{Z:Ev},σ.length=Z.length->(σ.zip Z).map (·.2)=Z
 |[],[],_=>rfl
 | _::σ,l::Z,h=>by have ih:=uV (σ:=σ) (Z:=Z) (by simpa using h);rw[List.zip_cons_cons,List.map_cons,ih]
 |[],_::_,h=>by simp at h
 |_::_,[],h=>by simp at h
theorem aA.rearr{K:PySem.W.Frag}{Pr H:Hp}{σ σ2:St}{Z Z2:Ev}(E:aA K Pr H σ Z)(hl:σ2.length=Z2.length)(extra:List (Option V×L))(h:(σ.zip Z).Perm (σ2.zip Z2++extra)):aA K Pr H σ2 Z2:=by
 have pm:(owns Z).Perm (owns Z2++owns (extra.map (·.2))):=by have q:=mn (h.map (·.2));rw[List.map_append,uV E.len,uV hl,aD]at q;exact q
 refine⟨E.sub,(List.nodup_append.mp (pm.nodup_iff.mp E.nd)).1,λa ha=>E.off a (pm.mem_iff.mpr (List.mem_append_left _ ha)),jY.mpr ⟨hl,λp hp=>?_⟩⟩;exact(jY.mp E.sl).2 p (h.mem_iff.mpr (List.mem_append_left _ hp))
theorem mC{fi:List Nat}{σ τ:St}(h:∀j∈fi,j<σ.length):bf fi (σ++τ)=bf fi σ:=by unfold bf;refine List.map_congr_left λj hj=>?_;rw[List.getElem?_append_left (h j hj)]
theorem ua{fi:List Nat}{σ τ:Ev}(h:∀j∈fi,j<σ.length):bF fi (σ++τ)=bF fi σ:=by unfold bF;refine List.map_congr_left λj hj=>?_;rw[List.getElem?_append_left (h j hj)]
theorem qR{τ:Ev}:∀{fi:List Nat}{Z:Ev},(∀j∈fi,j<Z.length)->aR fi (Z++τ)=aR fi Z++τ
 |[],_,_=>rfl
 | j::r,Z,h=>by unfold aR;rw[qR λi hi=>h i (k5 _ hi),List.set_append_left _ _ (by rw[cC];exact h j tv)]
theorem og{τ:Ev}:∀{fi:List Nat}{cs Z:Ev},(∀j∈fi,j<Z.length)->dg fi cs (Z++τ)=dg fi cs Z++τ
 |[],[],_,_=>rfl
 |[],_::_,_,_=>rfl
 |_::_,[],_,_=>rfl
 | j::r,c::cs,Z,h=>by unfold dg;rw[List.set_append_left _ _ (h j tv)];exact og λi hi=>by rw[List.length_set];exact h i (k5 _ hi)
theorem cZ{env:Env}:∀{names:List (Str×NameKind)}{x:Str},names.lookup x=some .free ->
  (names.map λ(n,k)=>if(k == NameKind.free && env.scope.kind == .function && env.kindOf n == some .cell)then(n,NameKind.cell)else(n,k)).lookup x=some .cell ∨
  (names.map λ(n,k)=>if(k == NameKind.free && env.scope.kind == .function && env.kindOf n == some .cell)then(n,NameKind.cell)else(n,k)).lookup x=some .free
 |[],_,h=>by simp at h
 | (n,k)::r,x,h=>by
  have ih:=@cZ env r x;rw[List.map_cons]
  cases hx:x == n with
  | true =>
   simp only[List.lookup_cons,hx]at h;cases h;dsimp only;by_cases hc:(NameKind.free == NameKind.free && env.scope.kind == .function && env.kindOf n == some .cell)=true
   . left;rw[if_pos hc];simp[List.lookup_cons,hx]
   . right;rw[if_neg hc];simp[List.lookup_cons,hx]
  | false =>
   simp only[List.lookup_cons,hx]at h;dsimp only;by_cases hc:(k == NameKind.free && env.scope.kind == .function && env.kindOf n == some .cell)=true
   . rw[if_pos hc];simp only[List.lookup_cons,hx];exact ih h
   . rw[if_neg hc];simp only[List.lookup_cons,hx];exact ih h
theorem dN{env:Env}:∀{names:List (Str×NameKind)}{x:Str}{k:NameKind},(∀y∈names,y.2≠.cell)->(k=.cell∨k=.free) ->
  (names.map λ(n,k)=>if(k == NameKind.free && env.scope.kind == .function && env.kindOf n == some .cell)then(n,NameKind.cell)else(n,k)).lookup x=some k->(x,NameKind.free)∈names
 |[],_,_,_,_,h=>by simp at h
 | (n,k0)::r,x,k,hc,hk,h=>by
  rw[List.map_cons]at h;dsimp only at h;by_cases q:(k0 == NameKind.free && env.scope.kind == .function && env.kindOf n == some .cell)=true
  .
   rw[if_pos q,List.lookup_cons]at h;have e0:k0=.free:=by have:=(Bool.and_eq_true_iff.mp (Bool.and_eq_true_iff.mp q).1).1;simpa using this
   split at h
   .
    rename_i e;have:x=n:=by simpa using e
    subst this e0;exact tv
   . exact k5 _ (dN (λy hy=>hc y (k5 _ hy)) hk h)
  .
   rw[if_neg q,List.lookup_cons]at h;split at h
   .
    rename_i e;have:x=n:=by simpa using e
    subst this;have e1:k0=k:=by simpa using h
    subst e1;rcases hk with z|z
    . exact absurd z (hc (x,k0) tv)
    . subst z;exact tv
   . exact k5 _ (dN (λy hy=>hc y (k5 _ hy)) hk h)
section
variable{prog:Program}{w:World}{A:Around}{R:Result->Shared->Prop}
theorem wR{elt target iter:Expr}{ifs:List Expr}{scope:Scope}{pos:Pos}{it acc:Value}{env:Env}(I:Nat->Shared->Prop)
  (turn:∀n s,I n s->wpAny (model prog w) A (pyNext it) (λr s₁=>match r with
   |none=>R (.ok .next) s₁
   | some v=>wpAny (model prog w) A (letOwnedTupleGo target it v) (λ_ s₀=>wpAny (model prog w) A (assign target env v) (λ_ s₂ =>
     wpAny (model prog w) A (forIn ifs true λc r=>if r=true then do let ok <- isTrue c env (eval c env);pure (ForInStep.yield ok)else pure (ForInStep.yield r)) (λok s₃ =>
      if ok=true then wpAny (model prog w) A (eval elt env) (λx s₄ =>
       wpAny (model prog w) A (call (.builtin "list.append") [acc,x]) (λ_ s₅=>∃ m,m < n/\I m s₅) (λ_ _=>False) s₄) (λ_ _=>False) s₃
      else ∃m,m<n/\I m s₃) (λ_ _=>False) s₂) (λ_ _=>False) s₀) (λ_ _=>False) s₁) (λ_ _=>False) s)
  (n:Nat) {s:Shared} (h:I n s) :
  codeAny (model prog w) A (.compLoop (.ListComp elt [⟨target,iter,ifs,0⟩] scope pos) 0 it acc env) R s:=by
 refine codeAny_loop rfl I (λn s hI=>?_) n h
 show wpAny _ A ((compTurn (.ListComp elt [⟨target,iter,ifs,0⟩] scope pos) 0 it acc env).onRaise (λx=>do noteFrame x env;theTreesLotGoes x)) _ _ s
 refine wpAny_noted ?_;rw[compTurn_list];have fe:∀{α:Type}{t:Sem α}{Q:α->Shared->Prop}{E:Value->Shared->Prop}{s:Shared},wpAny (model prog w) A t Q (λ_ _=>False) s->wpAny (model prog w) A t Q E s:=λh=>wpAny_mono h (λ_ _ q=>q) λ_ _ z=>z.elim;refine kS (wpAny_standAt (kS (wpAny_mono (turn n s hI) (λr s₁ h₁=>?_) λ_ _ h'=>h'.elim)))
 cases r with
 |none=>exact Uw h₁
 | some v =>
  refine kS (wpAny_mono h₁ (λ_ s₀ h₀=>?_) λ_ _ z=>z.elim);refine kS (wpAny_mono h₀ (λ_ s₂ h₂=>kS (wpAny_mono h₂ (λok s₃ h₃=>?_) λ_ _ h'=>h'.elim)) λ_ _ h'=>h'.elim)
  cases ok with
  |false=>exact Uw ⟨rfl,h₃⟩
  | true =>
   exact kS (kS (wpAny_mono h₃ (λx s₄ h₄=>kS (wpAny_mono h₄ (λ_ s₅ h₅=>Uw (Uw ⟨rfl,h₅⟩)) λ_ _ h'=>h'.elim)) λ_ _ h'=>h'.elim))
end
def QW(X:Cx)(tg:Expr)(n:Nat)(g:Tg):Prop:=∃gg:TG,PG X tg gg/\∀v σ H Pr Z x k,σ.length=X.N.length->aA X.K Pr H σ Z->QC X.K H v x->g x Z k->gg v σ H λσ' H'=>H'=H/\σ'.drop n=σ.drop n/\∃Z',aA X.K Pr H σ' Z'/\k Z'
theorem bu{X:Cx}{i n:Nat}{x:Str}{pos:Pos}(hn:i<n)(hN:X.N.Nodup)(hi:X.N[i]?=some x)(hx:PR X.env.scope x)(hf:X.fn x=true∨X.env.scope.names.lookup x=some .local:=by first|exact .inl rfl|exact .inr rfl|assumption):QW X (.Name x pos) n (aQ i) :=
 ⟨_,uF hN hi hx hf,λv σ H Pr Z x k hl E r h=>⟨rfl,by rw[List.drop_set_of_lt hn],_,(E.cons_d r).store (by rw[hl];exact(k4.mp hi).1),h⟩⟩
def QX(X:Cx)(ifs:List Expr)(t:W Bool):Prop :=
 ∀(ab:List (Addr×Obj))(s:Shared)(σ:St)(H Pr:Hp)(Z:Ev)(kz:Bool->Ev->Prop),PU X ab σ H s->aA X.K Pr H σ Z->t Z kz ->
  wpAny (model X.prog X.w) X.A (forIn ifs true λc r=>if r=true then do let ok <- isTrue c X.env (eval c X.env);pure (ForInStep.yield ok)else pure (ForInStep.yield r)) (EB X ab σ Pr kz) X.xe s
def bZ:W Bool:=λZ kz=>kz true Z
theorem bg{X:Cx}:QX X [] bZ:=λab s σ H Pr Z kz I E h=>wpAny_tests_nil ⟨H,Z,I,E,h⟩
theorem yO{X:Cx}{c:Expr}{t:W Bool}(h:PB X c t):QX X [c] t:=λab s σ H Pr Z kz I E ht=>wpAny_tests_one (h ab s σ H Pr Z kz I E ht)
def eE(g:Tg)(ti:W Bool)(te:W L):List D->Ev->List D->(List D->Ev->Prop)->Prop
 |[],Z,acc,k=>k acc Z
 |x::xs,Z,acc,k=>g x Z λZ1=>ti Z1 λb Z2=>if b=true then te Z2 λr Z3=>QF r λy=>eE g ti te xs Z3 (acc++[y]) k else eE g ti te xs Z2 acc k
def cD(n:Nat)(fi:List Nat)(src:W (List D))(g:Tg)(ti:W Bool)(te:W L):W L:=λZ kz=>src Z λxs Z1=>xs.length<=sizeLine /\
 eE g ti te xs (List.replicate n .un++bF fi Z1) [] λys ρb=>∀a,kz (.own a ys) (dg fi (ρb.drop n) (aR fi Z1))
section
variable{X:Cx}
theorem wU{elt tg iter:Expr}{ifs:List Expr}{scope sc:Scope}{pos:Pos}{N Nt Nf:List Str}{fi:List Nat}{src:W (List D)}{g:Tg}{ti:W Bool}{te:W L}
  (hsc:X.env.scope=sc) (hXN:X.N=N) (hc:X.calm=true) (hi:QQ X tg iter src)
  (hkind:scope.kind=.function) (hnames:∀x∈scope.names,x.2=.local->scope.names.lookup x.1=some .local) (hcell:∀y∈scope.names,y.2≠.cell)
  (hfr:∀x∈scope.names,x.2=.free->sc.names.lookup x.1=some .cell∨sc.names.lookup x.1=some .free)
  (hnd:fi.Nodup) (hNf:Nf.map some=fi.map (λj=>N[j]?)) (hNk:∀x∈Nf,scope.names.lookup x=some .free) (hfl:∀j∈fi,j<N.length)
  (hg:∀cl s₀ H₀ fp,QW (cS X scope cl (Nt++Nf) s₀ H₀ fp) tg Nt.length g) (hti:∀cl s₀ H₀ fp,QX (cS X scope cl (Nt++Nf) s₀ H₀ fp) ifs ti) (hte:∀cl s₀ H₀ fp,PL (cS X scope cl (Nt++Nf) s₀ H₀ fp) elt te)
  {ab:List (Addr×Obj)} {s:Shared} {σ:St} {H Pr:Hp} {Z:Ev} {kz:L->Ev->Prop} {use:Option (Value->Sem Unit)} {Q:Value->Shared->Prop} (I:PU X ab σ H s) (E:aA X.K Pr H σ Z) (h:cD Nt.length fi src g ti te Z kz)
  (hRR:∀D C s7 H6 acc Z'' m,PU X ab σ H6 s7->s7.heap.Ns C m->H6 C=none->C≠X.env.locals->X.s₀.heap.objs.size<=C->(∀x c,X.env.cells.lookup x=some c->c≠C)->(∀p∈X.pn++ab,p.1≠C)->aA X.K Pr H6 (some (.ref D)::σ) (.own D acc::Z'')->kz (.own D acc) Z'' ->
   compPost (model X.prog X.w) X.A X.xe use Q (.ref D) C (.ok .next) s7)
  (hs:∀x,foldedSetIterable iter X.env x=pure x):wpAny (model X.prog X.w) X.A (comprehension (.ListComp elt [⟨tg,iter,ifs,0⟩] scope pos) scope X.env (firstIterPos [⟨tg,iter,ifs,0⟩] pos) (newList []) false (eval iter X.env) use) Q X.xe s:=by
 have hcells:∀x∈scope.names,x.2=.free->∃c,X.env.cells.lookup x.1=some c:=λx hx hk=>I.ok.has x.1 (by
  show X.env.scope.names.lookup x.1=_∨X.env.scope.names.lookup x.1=_
  rw[hsc];exact hfr x hx hk)
 have hsub:=uU (cells:=X.env.cells) scope.names [] (λx c e=>by simp at e);refine wpAny_comprehension_free (use:=use) rfl hs (mz hcells) hkind hnames (PX (hi ab s σ H Pr Z _ I E h) λv s1 h1=>PX h1 λitv s2 h2=>?_);obtain⟨it,fp,tn,J,H2,xs,Z2,e,I2,T,st2,f2,E2,G,fI,w0⟩:=h2;subst e;refine wpAny_newObj_type (T:="list") ?_;generalize hD:s2.heap.objs.size=D;have fD:H2 D=none:=by rw[<- hD];exact I2.fresh
 have I3:PU X ab σ (PD H2 D (.lst [])) {s2 with heap:=s2.heap.push {cls:=.type "list",dict:=none,data:=.seq ([]:List Value).toArray} }:=by have:=PU.lnew (ys:=[]) (its:=[]) (t':=s2.toks) I2 .nil (Nat.zero_le _);rw[hD]at this;exact this
 have E3:=E2.cons_own (p:=D) (vs:=[]) (xs:=[]) fD .nil;have sz3:(s2.heap.push {cls:=.type "list",dict:=none,data:=.seq ([]:List Value).toArray}).objs.size=D+1:=by rw[Heap.size_push,hD]
 generalize hs3:({s2 with heap:=s2.heap.push {cls:=.type "list",dict:=none,data:=.seq ([]:List Value).toArray} }:Shared)=s3 at I3;have hs3h:s3.heap=s2.heap.push {cls:=.type "list",dict:=none,data:=.seq ([]:List Value).toArray}:=by rw[<- hs3]
 have fpD:∀b∈fp,b≠D:=λb hb=>by obtain⟨o,e,_⟩:=T.obj 0 _ st2 b hb;rw[<- hD];exact Nat.ne_of_lt (Ut e)
 have old3:∀b o,s2.heap.get? b=some o->s3.heap.get? b=some o:=λb o e=>by rw[hs3h];exact p4 _ e
 refine wpAny_newFunctionEnv (around:=some X.env) hcell (by intro y hy;simp at hy) (λh4 hns4 hsb4=>?_) hkind
 have hns4':h4.Ns s3.heap.objs.size (λ_=>none):=by
  have:(λx=>(([]:List (Str×Value)).reverse.lookup x))=λ_=>(none:Option Value):=by funext x;rfl
  rw[this]at hns4;exact hns4
 have old4:∀b o,s3.heap.get? b=some o->h4.get? b=some o:=λb o e=>by rw[hsb4.2 b (Nat.ne_of_lt (Ut e))];exact p4 _ e
 have hσl:σ.length=N.length:=by rw[<- hXN];exact I.len
 have hρ2:σ.length=Z2.length:=E2.len;have hjσ:∀j∈fi,j<σ.length:=λj hj=>by rw[hσl];exact hfl j hj
 have hjρ:∀j∈fi,j<Z2.length:=λj hj=>by rw[<- hρ2];exact hjσ j hj
 have hfpl:∀b∈fp,b<s3.heap.objs.size:=λb hb=>by obtain⟨o,e,_⟩:=T.obj 0 _ st2 b hb;exact Ut (old3 b o e)
 have hlNf:Nf.length=fi.length:=by have:=congrArg List.length hNf;simpa using this
 have Bok:(cS X scope (wQ X.env.cells scope.names []) (Nt++Nf) s3 (PD H2 D (.lst [])) fp).Ok:=by
  refine⟨I3.ok.mod,hkind,I.ok.glob,I.ok.blt,Uu _,λx y c e1 e2=>I.ok.inj x y c (hsub x c e1) (hsub y c e2),λx hx=>?_,λx c hf _=>(Bool.false_ne_true hf).elim,I.ok.hd,I.ok.frames,.inl rfl,λb hb=>⟨Nat.ne_of_lt (hfpl b hb),λx c e=>(f2 b hb).2.2.2.2.1 x c (hsub x c e)⟩,I3.bs,Ur I.ok.bsz I3.sz,λb o e hb=>?_,λb hb hm=>?_,I3.stack,I3.stkFree,I3.tbs⟩
  .
   have hm:(x,NameKind.free)∈scope.names:=by
    rcases hx with hx|hx
    . exact dN (env:=X.env) hcell (.inl rfl) hx
    . exact dN (env:=X.env) hcell (.inr rfl) hx
   exact mB scope.names [] x (.inr ⟨hm,hcells _ hm rfl⟩)
  .
   rcases(f2 b hb).2.2.2.1 with z|z
   . exact I.ok.noex b o e z
   . exact absurd (so (Ut (I.ok.bs b o e).1) z) (Nat.lt_irrefl _)
  .
   rcases Uq.mp (I3.stkSub b hm)with z|z
   . exact(f2 b hb).2.1 z
   . exact(f2 b hb).2.2.1 z
 have I4:PU (cS X scope (wQ X.env.cells scope.names []) (Nt++Nf) s3 (PD H2 D (.lst [])) fp) [] (List.replicate Nt.length none++bf fi σ) (PD H2 D (.lst [])) {s3 with heap:=h4,toks:=s3.toks+([]:List (Str×Value)).length}:=by
  refine⟨Bok,rfl,I3.bare,Un.kept old4,⟨_,hns4',λi x v e1 e2 e3=>?_⟩,λx c e=>?_,I3.fresh,λx c e=>(I3.freeC x c (hsub x c e)).imp id λz=>⟨rfl,z.2⟩,λp hp=>absurd (show p∈([]:List (Addr×Obj))from hp) x_,I3.hok.kept old4,?_⟩
  .
   have e1:(Nt++Nf)[i]?=some x:=e1
   have hi':Nt.length<=i:=by
    by_cases q:i<Nt.length
    . rw[List.getElem?_append_left (by simpa using q),List.getElem?_replicate]at e2;split at e2<;>cases e2
    . omega
   rw[List.getElem?_append_right hi']at e1;rw[List.getElem?_append_right (by simpa using hi')]at e2;simp only[List.length_replicate]at e2;generalize i-Nt.length=k at e1 e2;have hk:k<fi.length:=by have:=(k4.mp e1).1;omega
   have e4:(Nf.map some)[k]?=(fi.map λj=>N[j]?)[k]?:=by rw[hNf]
   rw[List.getElem?_map,List.getElem?_map,e1,gV hk]at e4;have e5:N[fi[k]]?=some x:=by simpa using e4.symm
   have e6:σ[fi[k]]?=some (some v):=by unfold bf at e2;rw[List.getElem?_map,gV hk]at e2;have hjl:=hjσ fi[k] (List.getElem_mem hk);rw[gV hjl];simpa[gV hjl]using e2
   have hxm:x∈Nf:=List.mem_of_getElem? e1;have hfree:=hNk x hxm;have hmem:(x,NameKind.free)∈scope.names:=PySem.mem_of_lookup hfree;have hkx:=hfr _ hmem rfl;obtain⟨m,_,hl⟩:=I3.loc;obtain⟨u,ru,lk⟩:=hl fi[k] x v (by rw[hXN];exact e5) e6 (by rw[hsc];exact .inr hkx);refine⟨u,ru,.inr ⟨cZ (env:=X.env) hfree,?_⟩⟩;rcases lk with⟨z,_⟩|⟨_,c,hc1,hc2⟩
   .
    have z:X.env.scope.names.lookup x=some .local:=z;rw[hsc]at z;rcases hkx with q|q
    . rw[z]at q;cases q
    . rw[z]at q;cases q
   .
    obtain⟨d,hd⟩:=mB (cells:=X.env.cells) scope.names [] x (.inr ⟨hmem,c,hc1⟩);have:d=c:=by have:=hsub x d hd;rw[hc1]at this;exact(Option.some.inj this).symm
    subst this;obtain⟨o,ho,hdd⟩:=hc2;exact⟨d,hd,o,old4 _ o ho,hdd⟩
  . obtain⟨v,o,ho,hd⟩:=I3.cell x c (hsub x c e);exact⟨v,o,old4 c o ho,hd⟩
  . show(List.replicate Nt.length none++bf fi σ).length=(Nt++Nf).length;simp[bf,hlNf]
 have E4:aA X.K Pr (PD H2 D (.lst [])) (some (.ref D)::(σ++(List.replicate Nt.length none++bf fi σ))) (.own D []::(aR fi Z2++(List.replicate Nt.length .un++bF fi Z2))):=by
  have a1:aA X.K Pr (PD H2 D (.lst [])) (σ++[some (.ref D)]) (Z2++[.own D []]):=E3.rearr (by simp[hρ2]) [] (by
   rw[List.append_nil,List.zip_append hρ2]
   exact(List.perm_append_comm (l₁:=[(some (V.ref D),L.own D [])]) (l₂:=σ.zip Z2)))
  have a2:=a1.takes fi hnd λj hj=>by have:=hjρ j hj;simp;omega
  rw[mC hjσ,ua hjρ,qR hjρ]at a2;have a3:=a2.uns Nt.length;have hcl:(bf fi σ).length=(bF fi Z2).length:=by simp[bf,bF]
  have hul:σ.length=(aR fi Z2).length:=by rw[cC];exact hρ2
  refine a3.rearr (by simp[hul,hcl]) [] ?_;have l1:(bf fi σ++(σ++[some (V.ref D)])++List.replicate Nt.length none).zip (bF fi Z2++(aR fi Z2++[L.own D []])++List.replicate Nt.length L.un)=((bf fi σ).zip (bF fi Z2)++(σ.zip (aR fi Z2)++[(some (V.ref D),L.own D [])]))++(List.replicate Nt.length none).zip (List.replicate Nt.length L.un):=by rw[List.zip_append (by simp only[List.length_append,hcl,hul];rfl),List.zip_append hcl,List.zip_append hul];rfl
  have l2:(some (V.ref D)::(σ++(List.replicate Nt.length none++bf fi σ))).zip (L.own D []::(aR fi Z2++(List.replicate Nt.length L.un++bF fi Z2)))=(some (V.ref D),L.own D [])::(σ.zip (aR fi Z2)++((List.replicate Nt.length none).zip (List.replicate Nt.length L.un)++(bf fi σ).zip (bF fi Z2))):=by rw[List.zip_cons_cons,List.zip_append hul,List.zip_append x_]
  rw[List.append_nil,l1,l2];generalize (bf fi σ).zip (bF fi Z2)=z1;generalize σ.zip (aR fi Z2)=z2;generalize (List.replicate Nt.length none).zip (List.replicate Nt.length L.un)=z3;show(z1++(z2++[(some (V.ref D),L.own D [])])++z3).Perm ((some (V.ref D),L.own D [])::(z2++(z3++z1)));have p1:(z1++(z2++[(some (V.ref D),L.own D [])])++z3).Perm ((z2++[(some (V.ref D),L.own D [])])++z3++z1):=by rw[List.append_assoc];exact List.perm_append_comm
  refine p1.trans ?_;rw[List.append_assoc,List.append_assoc];exact List.perm_middle
 clear E3
 let B:Cx:=cS X scope (wQ X.env.cells scope.names []) (Nt++Nf) s3 (PD H2 D (.lst [])) fp
 have hul:σ.length=(aR fi Z2).length:=by rw[cC];exact hρ2
 have stat:∀{H':Hp},(∀b∈fp,H' b=none)->∀b∈fp,B2 B [] H' b:=λhn b hb=>by
  refine⟨hn b hb,Nat.ne_of_lt (hfpl b hb),λhm=>?_,.inl hb,λx c e=>(f2 b hb).2.2.2.2.1 x c (hsub x c e),λp hp=>absurd (show p∈([]:List (Addr×Obj))from hp) x_⟩;rcases Uq.mp (I3.stkSub b hm)with z|z
  . exact(f2 b hb).2.1 z
  . exact(f2 b hb).2.2.1 z
 have loop:∀s5:Shared,s5={s3 with heap:=h4,toks:=s3.toks+([]:List (Str×Value)).length}->codeAny (model X.prog X.w) X.A (.compLoop (.ListComp elt [⟨tg,iter,ifs,0⟩] scope pos) 0 (.ref it) (.ref D) B.env)
   (compPost (model X.prog X.w) X.A X.xe use Q (.ref D) s3.heap.objs.size) s5:=by
  rintro s5 rfl
  refine wR (λn s'=>∃i σ' H' Z' acc,n+i=xs.length/\PU B [] σ' H' s'/\tn i s'.heap/\(∀b∈fp,H' b=none)/\σ'.drop Nt.length=bf fi σ/\aA X.K Pr H' (some (.ref D)::(σ++σ')) (.own D acc::(aR fi Z2++Z'))/\acc.length<=i /\
   eE g ti te (xs.drop i) Z' acc λys ρb=>∀a,kz (.own a ys) (dg fi (ρb.drop Nt.length) (aR fi Z2))) ?_ xs.length
   ⟨0,_,_,_,[],xL,I4,T.keep 0 _ _ st2 λb hb o e=>old4 b o (old3 b o e),λb hb=>by rw[aE (fpD b hb)];exact(f2 b hb).1,x_,E4,Uu _,by simpa using w0⟩
  rintro n s6 ⟨i,σ6,H6,Z6,acc,hn,I6,st6,fr6,dr6,E6,hal,w6⟩
  have pr:sT H2 H6:=λb o p e=>by
   have ne:b≠D:=λz=>by rw[z,fD]at e;cases e
   have e':B.H₀ b=some o:=by show PD H2 D (.lst []) b=some o;rw[aE ne];exact e
   cases o with
   |tup ys=>exact I6.base.tups b ys e'
   |frz ob u=>exact I6.base.frzs b ob u e'
   |tbl t=>exact I6.base.tbls b t e'
   |_=>exact p.elim
  obtain⟨go,stop⟩:=G H6 pr;have hτ:(some (V.ref D)::σ).length=(L.own D acc::aR fi Z2).length:=by simp[hul]
  by_cases hlt:i<xs.length
  .
   obtain⟨hgo,hy⟩:=go i xs[i] (gV hlt);rw[List.drop_eq_getElem_cons hlt]at w6;refine PX (T.item B rfl rfl rfl hc i [] s6 σ6 H6 (λ_ _=>False) I6 (stat fr6) st6 hgo) λr s7 ⟨u,hr,h7⟩=>?_;subst hr;refine PX h7 λ_ s8 ⟨x,H8,I8,r8,y8,st8,fr8⟩=>?_;obtain⟨gr,rx⟩:=hy x H8 y8;have I8':=I8.pinned (stat fr8) (T.obj _ _ st8);have E8:=E6.grown gr;have E8a:aA X.K (bq H8 Z6) H8 σ6 Z6:=(aA.drop (τ:=some (V.ref D)::σ) (lam:=L.own D acc::aR fi Z2) E8 hτ).wide;obtain⟨gg,hgg,hgs⟩:=hg (wQ X.env.cells scope.names []) s3 (PD H2 D (.lst [])) fp;refine PX (hgg _ s8 σ6 H8 x u _ I8' r8 (hgs x σ6 H8 _ Z6 xs[i] _ I8.len E8a rx w6)) λ_ s9 ⟨σ9,H9,I9,e9,dr9,Z9,E9,q9⟩=>?_;subst e9;have F9:aA X.K Pr H9 (some (V.ref D)::(σ++σ9)) (L.own D acc::(aR fi Z2++Z9)):=aA.step (τ:=some (V.ref D)::σ) (lam:=L.own D acc::aR fi Z2) (w:=[]) (μ:=[]) E8 hτ E9 rfl;have F9a:aA X.K (bq H9 Z9) H9 σ9 Z9:=(aA.drop (τ:=some (V.ref D)::σ) (lam:=L.own D acc::aR fi Z2) F9 hτ).wide;refine PX (hti _ _ _ _ _ s9 σ9 H9 _ Z9 _ I9 F9a q9) λok sA ⟨HA,ρA,IA,EA,qA⟩=>?_;have FA:aA X.K Pr HA (some (V.ref D)::(σ++σ9)) (L.own D acc::(aR fi Z2++ρA)):=aA.step (τ:=some (V.ref D)::σ) (lam:=L.own D acc::aR fi Z2) (w:=[]) (μ:=[]) F9 hτ EA rfl
   have again:∀{sZ:Shared}{HZ:Hp}{ρZ:Ev}{acc':List L2.D},PU B ([]++tY fp s8.heap) σ9 HZ sZ->aA X.K Pr HZ (some (.ref D)::(σ++σ9)) (.own D acc'::(aR fi Z2++ρZ))->acc'.length<=i+1 ->
     (eE g ti te (xs.drop (i+1)) ρZ acc' λys ρb=>∀a,kz (.own a ys) (dg fi (ρb.drop Nt.length) (aR fi Z2)))->∃m,m<n/\∃i σ' H' Z' acc,m+i=xs.length/\PU B [] σ' H' sZ/\tn i sZ.heap/\(∀b∈fp,H' b=none)/\σ'.drop Nt.length=bf fi σ /\
     aA X.K Pr H' (some (.ref D)::(σ++σ')) (.own D acc::(aR fi Z2++Z'))/\acc.length<=i/\eE g ti te (xs.drop i) Z' acc λys ρb=>∀a,kz (.own a ys) (dg fi (ρb.drop Nt.length) (aR fi Z2)):=λ{sZ HZ ρZ acc'} IZ EZ hz qZ=>by
    refine⟨n-1,xL,i+1,σ9,HZ,ρZ,acc',xL,IZ.unpinned,T.keep _ _ _ st8 λb hb o e=>(IZ.pin (b,o) (List.mem_append_right _ (List.mem_append_right _ (eV hb e)))).1,λb hb=>?_,dr9.trans dr6,EZ,hz,qZ⟩;obtain⟨o,e,d⟩:=T.obj _ _ st8 b hb;exact(IZ.pin (b,o) (List.mem_append_right _ (List.mem_append_right _ (eV hb e)))).2.1
   cases ok with
   | false =>
    rw[if_neg Bool.false_ne_true]at qA ⊢;exact again IA FA xL qA
   | true =>
    rw[if_pos rfl]at qA ⊢;have FAa:aA X.K (bq HA ρA) HA σ9 ρA:=(aA.drop (τ:=some (V.ref D)::σ) (lam:=L.own D acc::aR fi Z2) FA hτ).wide;refine PX (hte _ _ _ _ _ sA σ9 HA _ ρA _ IA FAa qA) λux sB qB=>?_;obtain⟨vy,HB,y,ρB,IB,rB,EB,qB⟩:=EL.frz (X:=B) (kz:=λy Z3=>eE g ti te (xs.drop (i+1)) Z3 (acc++[y]) λys ρb=>∀a,kz (.own a ys) (dg fi (ρb.drop Nt.length) (aR fi Z2))) qB;have FB:aA X.K Pr HB (some vy::(some (V.ref D)::(σ++σ9))) (.d y::(L.own D acc::(aR fi Z2++ρB))):=aA.step (τ:=some (V.ref D)::σ) (lam:=L.own D acc::aR fi Z2) (w:=[some vy]) (μ:=[.d y]) FA hτ EB rfl;obtain⟨_,e1,p1⟩:=FB.head_d;cases e1;have QY:=FB.tail.sl
    cases QY with
    | cons q0 _ =>
     obtain⟨_,vs,hDB,rvs⟩:=q0;refine PX (mj (X:=B) _ sB σ9 HB (.ref D) [vy] (.ref D) [ux] (λz H'=>H'=PD HB D (.lst (vs++[vy]))) IB rfl (.cons rB .nil) ⟨D,vs,vy,rfl,rfl,hDB,by rw[rvs.length];omega,rfl⟩) λ_ sC ⟨z,HC,IC,_,eC⟩=>?_;subst eC;exact again IC (FB.tail.write (rvs.append (.cons p1 .nil))) (by simp;omega) qB
  .
   have e:i=xs.length:=by omega
   subst e;refine PX (T.done B rfl rfl rfl hc xs.length [] s6 σ6 H6 (λ_ _=>False) I6 (stat fr6) st6 stop) λr s7 ⟨hr,I7⟩=>?_;subst hr;rw[List.drop_length]at w6;obtain⟨m,hm,_⟩:=id I7.loc;have I8:PU X ab σ H6 s7:=I3.call' (ch:=fp) I7.os I7.base I7.hok I7.bare λb hb=>⟨(f2 b hb).2.2.2.1,(f2 b hb).2.1,(f2 b hb).2.2.2.2.1,(f2 b hb).2.2.2.2.2⟩;have f4:=I3.fpOk (H':=H6) (b:=s3.heap.objs.size) (Uu _) I7.free
   .
    have hlen6:σ6.length=Z6.length:=(aA.drop (τ:=some (V.ref D)::σ) (lam:=L.own D acc::aR fi Z2) E6 hτ).len
    have a1:aA X.K Pr H6 (bf fi σ++(σ++[some (V.ref D)])) (Z6.drop Nt.length++(aR fi Z2++[L.own D acc])):=by
     have hcd:(bf fi σ).length=(Z6.drop Nt.length).length:=by rw[<- dr6,List.length_drop,List.length_drop,hlen6]
     refine E6.rearr (by simp[hcd,hul,hlen6]) ((σ6.take Nt.length).zip (Z6.take Nt.length)) ?_;have l0:σ6.zip Z6=(σ6.take Nt.length).zip (Z6.take Nt.length)++(bf fi σ).zip (Z6.drop Nt.length):=by rw[<- dr6,<- List.zip_append (by simp[hlen6]),List.take_append_drop,List.take_append_drop]
     have l1:(some (V.ref D)::(σ++σ6)).zip (L.own D acc::(aR fi Z2++Z6))=(some (V.ref D),L.own D acc)::(σ.zip (aR fi Z2)++σ6.zip Z6):=by rw[List.zip_cons_cons,List.zip_append hul]
     have l2:(bf fi σ++(σ++[some (V.ref D)])).zip (Z6.drop Nt.length++(aR fi Z2++[L.own D acc]))=(bf fi σ).zip (Z6.drop Nt.length)++(σ.zip (aR fi Z2)++[(some (V.ref D),L.own D acc)]):=by rw[List.zip_append hcd,List.zip_append hul];rfl
     rw[l1,l2,l0];generalize (bf fi σ).zip (Z6.drop Nt.length)=z1;generalize σ.zip (aR fi Z2)=z2;generalize (σ6.take Nt.length).zip (Z6.take Nt.length)=z3;have p1:((some (V.ref D),L.own D acc)::(z2++(z3++z1))).Perm ((z2++[(some (V.ref D),L.own D acc)])++(z3++z1)):=by rw[List.append_assoc];exact List.perm_middle.symm
     refine p1.trans ?_;have p2:((z2++[(some (V.ref D),L.own D acc)])++(z3++z1)).Perm ((z3++z1)++(z2++[(some (V.ref D),L.own D acc)])):=List.perm_append_comm;refine p2.trans ?_;rw[List.append_assoc];exact List.perm_append_comm
    have a2:=aA.backs (σ:=σ++[some (V.ref D)]) (cs:=Z6.drop Nt.length) (Z:=aR fi Z2++[L.own D acc]) fi hnd (by rw[List.length_drop,<- hlen6,<- List.length_drop,dr6];simp[bf]) (λj hj=>by
     rw[List.getElem?_append_left (by rw[cC];exact hjρ j hj)];exact uT fi Z2 j hj (hjρ j hj)) (λj hj=>by have:=hjσ j hj;simp;omega) (by rw[mC hjσ];exact a1)
    rw[og λj hj=>by rw[cC];exact hjρ j hj]at a2;have hpl:σ.length=(dg fi (Z6.drop Nt.length) (aR fi Z2)).length:=by have:=a2.len;simpa using this
    refine hRR D s3.heap.objs.size s7 H6 acc (dg fi (Z6.drop Nt.length) (aR fi Z2)) m I8 hm f4.1 f4.2.1 I3.sz f4.2.2.2.2.1 f4.2.2.2.2.2 (a2.rearr (by simp[hpl]) [] ?_) (w6 D);rw[List.append_nil,List.zip_append hpl,List.zip_cons_cons];exact List.perm_append_comm (l₂:=[(some (V.ref D),L.own D acc)])
 exact codeAny_compStart_list (loop _ rfl) (T.self _ 0 _ _ _ (T.keep 0 _ _ st2 λb hb o e=>old4 b o (old3 b o e)) (loop _ rfl))
theorem bC{elt tg iter:Expr}{ifs:List Expr}{scope sc:Scope}{pos:Pos}{N Nt Nf:List Str}{fi:List Nat}{src:W (List D)}{g:Tg}{ti:W Bool}{te:W L}
  (hsc:X.env.scope=sc) (hXN:X.N=N) (hc:X.calm=true) (hi:QQ X tg iter src)
  (hkind:scope.kind=.function) (hnames:∀x∈scope.names,x.2=.local->scope.names.lookup x.1=some .local) (hcell:∀y∈scope.names,y.2≠.cell)
  (hfr:∀x∈scope.names,x.2=.free->sc.names.lookup x.1=some .cell∨sc.names.lookup x.1=some .free)
  (hnd:fi.Nodup) (hNf:Nf.map some=fi.map (λj=>N[j]?)) (hNk:∀x∈Nf,scope.names.lookup x=some .free) (hfl:∀j∈fi,j<N.length)
  (hg:∀cl s₀ H₀ fp,QW (cS X scope cl (Nt++Nf) s₀ H₀ fp) tg Nt.length g) (hti:∀cl s₀ H₀ fp,QX (cS X scope cl (Nt++Nf) s₀ H₀ fp) ifs ti) (hte:∀cl s₀ H₀ fp,PL (cS X scope cl (Nt++Nf) s₀ H₀ fp) elt te)
  (hs:∀x,foldedSetIterable iter X.env x=pure x:=by intro _;rfl):PL X (.ListComp elt [⟨tg,iter,ifs,0⟩] scope pos) (cD Nt.length fi src g ti te):=by
 intro ab s σ H Pr Z kz I E h;rw[eval_ListComp];refine wU (use:=none) hsc hXN hc hi hkind hnames hcell hfr hnd hNf hNk hfl hg hti hte I E h (λD C s7 H6 acc Z'' m I7 hm h1 h2 h3 h4 h5 E7 p=>?_) hs;exact⟨m,hm,λh' hsb=>⟨.ref D,H6,_,Z'',I7.turned (t':=s7.toks) (λb o hb e=>(hsb.2 b hb).trans e) h1 (Ne.symm (Ne.symm h2)) (.inr h3) h4 h5,rfl,E7,p⟩⟩
theorem k9{elt tg iter:Expr}{ifs:List Expr}{scope sc:Scope}{pos spos py:Pos}{y:Str}{j:Nat}{N Nt Nf:List Str}{fi:List Nat}{src:W (List D)}{g:Tg}{ti:W Bool}{te:W L}
  (hN:X.N.Nodup) (hj:X.N[j]?=some y) (hy:PR X.env.scope y)
  (hsc:X.env.scope=sc) (hXN:X.N=N) (hc:X.calm=true) (hi:QQ X tg iter src)
  (hkind:scope.kind=.function) (hnames:∀x∈scope.names,x.2=.local->scope.names.lookup x.1=some .local) (hcell:∀y∈scope.names,y.2≠.cell)
  (hfr:∀x∈scope.names,x.2=.free->sc.names.lookup x.1=some .cell∨sc.names.lookup x.1=some .free)
  (hnd:fi.Nodup) (hNf:Nf.map some=fi.map (λj=>N[j]?)) (hNk:∀x∈Nf,scope.names.lookup x=some .free) (hfl:∀j∈fi,j<N.length)
  (hg:∀cl s₀ H₀ fp,QW (cS X scope cl (Nt++Nf) s₀ H₀ fp) tg Nt.length g) (hti:∀cl s₀ H₀ fp,QX (cS X scope cl (Nt++Nf) s₀ H₀ fp) ifs ti) (hte:∀cl s₀ H₀ fp,PL (cS X scope cl (Nt++Nf) s₀ H₀ fp) elt te)
  (hsw:swapsWith (.ListComp elt [⟨tg,iter,ifs,0⟩] scope pos) (some (.Name y py)) spos.line X.env=pure true:=by rfl) (hf:X.fn y=true∨X.env.scope.names.lookup y=some .local:=by first|exact .inl rfl|exact .inr rfl|assumption)
  (hs:∀x,foldedSetIterable iter X.env x=pure x:=by intro _;rfl):PM X (.Assign [.Name y py] (.ListComp elt [⟨tg,iter,ifs,0⟩] scope pos) spos) (bj j (cD Nt.length fi src g ti te)):=by
 intro ab s σ H Pr Z kz I E h;rw[exec_Assign_Name_used _ _ _ _ hsw];refine kS (wpAny_standAt (kS ?_))
 show wpAny _ X.A (do let _ <- comprehension (.ListComp elt [⟨tg,iter,ifs,0⟩] scope pos) scope X.env (firstIterPos [⟨tg,iter,ifs,0⟩] pos) (newList []) false (eval iter X.env) (some (assign (.Name y py) X.env))) _ _ s
 refine kS (PX (wU (use:=some (assign (.Name y py) X.env)) (Q:=λ_ s'=>SM X ab Pr kz .next s') (kz:=λr Z1=>kz .nx (Z1.set j r)) hsc hXN hc hi hkind hnames hcell hfr hnd hNf hNk hfl hg hti hte I E h (λD C s7 H6 acc Z'' m I7 hm h1 h2 h3 h4 h5 E7 p=>?_) hs) λ_ s' hq=>Uw (Uw hq))
 show wpAny _ X.A (assign (.Name y py) X.env (.ref D)) _ _ _;refine wpAny_assign_Name (wu (v:=.ref D) I7 hN hj hy rfl (λs8 I8 ⟨a,sb,ha⟩=>?_) hf)
 have hCa:C≠a:=by
  rcases ha with z|z
  . rw[z];exact h2
  . exact λq=>h4 y a z q.symm
 refine⟨m,hm.sameBut sb hCa,λh' hsb=>⟨_,H6,_,I8.turned (t':=s8.toks) (λb o hb e=>(hsb.2 b hb).trans e) h1 h2 (.inr h3) h4 h5,E7.store (by rw[I7.len];exact(k4.mp hj).1),p⟩⟩
end
section
variable{X:Cx}{e a b:Expr}{pos:Pos}{ta tb te:W L}{x y:Str}
def M6(i j:Nat)(ta tb:W L):W Fl:=λZ kz=>ta Z λr Z1=>QF r λv=>tb Z1 λr2 Z2=>QF r2 λw=>kz .nx ((Z2.set i (.d v)).set j (.d w))
theorem HI{i j:Nat}{px py pt:Pos} {kt k2 pt2} (hc:X.calm=true) (hN:X.N.Nodup) (hi:X.N[i]?=some x) (hj:X.N[j]?=some y) (hij:i≠j)
  (hx:X.env.scope.names.lookup x=some .local) (hy:X.env.scope.names.lookup y=some .local) (ha:PL X a ta) (hb:PL X b tb)
  (hw:swappedStores [.Tuple [.Name x px,.Name y py] kt pt] (.Tuple [a,b] k2 pt2) X.env=pure (some [x,y]))
  (hs:swapsWithSole [.Tuple [.Name x px,.Name y py] kt pt] (.Tuple [a,b] k2 pt2) pos.line X.env=pure false:=by rfl)
  (h1:starEach [a,b] X.env=(false,eval a X.env)::starEach [b] X.env:=by rfl) (h2:starEach [b] X.env=[(false,eval b X.env)]:=by rfl) :
  PM X (.Assign [.Tuple [.Name x px,.Name y py] kt pt] (.Tuple [a,b] k2 pt2) pos) (M6 i j ta tb):=by
 refine PM.of (K0 hc hN hi hj hij hx hy (eD (ay ha).pe (eD (ay hb).pe mi h2) h1) hw hs) λσ H Pr Z kz fI E h=>?_
 refine⟨Pr,Z,λr Z1=>match r with
  |.d v=>tb Z1 λr2 Z2=>QF r2 λw=>kz .nx ((Z2.set i (.d v)).set j (.d w))
  |_=>False,E,h,λv H1 r Z1 E1 pp=>?_⟩
 cases r with
 | d dv =>
  refine⟨bq H1 Z1,Z1,λr Z2=>match r with
   |.d w=>kz .nx ((Z2.set i (.d dv)).set j (.d w))
   |_=>False,E1.tail.wide,pp,λw H2 r2 Z2 E2 pp=>?_⟩
  cases r2 with
  | d dw =>
   have E3:aA X.K Pr H2 (some w::some v::σ) (.d dw::.d dv::Z2):=aA.step (τ:=[some v]) (lam:=[.d dv]) (w:=[some w]) (μ:=[.d dw]) E1 rfl E2 rfl;have il:i<σ.length:=by rw[fI];exact(k4.mp hi).1
   have jl:j<σ.length:=by rw[fI];exact(k4.mp hj).1
   obtain⟨_,e1,r1⟩:=E3.head_d;cases e1;have E4:aA X.K Pr H2 (σ.set i (some v)) (Z2.set i (.d dv)):=E3.tail.store il;exact⟨v,w,rfl,_,(E4.cons_d r1).store (by simpa using jl),pp⟩
  |_=>exact pp.elim
 |_=>exact pp.elim
def IV(is:List Nat)(te:W L):W Fl:=λZ kz=>te Z λr Z1=>QF r λv=>eY is v Z1 λZ2=>kz .nx Z2
theorem IW{tg:Expr}{is:List Nat}(hg:QO X tg (eY is))(he:PL X e te)(hs:swapsWithSole [tg] e pos.line X.env=pure false:=by rfl)(hw:swappedStores [tg] e X.env=pure none:=by rfl)
  (h1:(assignEach [tg] X.env).map (·.2)=[assign tg X.env]:=by rfl):PM X (.Assign [tg] e pos) (IV is te):=by
 intro ab s σ H Pr Z kz I E h;obtain⟨gg,hg,hgg⟩:=hg;refine wpAny_Assign_stores (PX (he ab s σ H Pr Z _ I E h) λv s1 q=>?_) hs hw;obtain⟨w,H1,d,Z1,I1,r1,E1,q1⟩:=EL.frz (kz:=λd Z1=>eY is d Z1 λZ2=>kz .nx Z2) q;rw[h1];obtain⟨_,e1,p1⟩:=E1.head_d;cases e1;exact PX (hg ab s1 σ H1 w v _ I1 r1 (hgg w σ H1 Pr Z1 d _ I1.len E1.tail p1 q1)) λ_ s2 ⟨σ',H',I',e',_,Z',E',q⟩=>by subst e';exact⟨σ',_,Z',I',E',q⟩
noncomputable def qS:D->Bool
 |.non=>true | .bl _=>true | .int _=>true | .str _=>true
 |_=>false
noncomputable def QZ:D->D->Bool
 |.non,.non=>true
 |.bl a,.bl b=>a == b
 |.bl a,.int b=>(if a then 1 else 0) == b
 |.int a,.bl b=>a == (if b then 1 else 0)
 |.int a,.int b=>a == b
 |.str a,.str b=>a == b
 |_,_=>false
theorem uW{K:PySem.W.Frag}{H:Hp}{v:V}{d:D}(r:QC K H v d)(h:qS d=true):tj v=true:=by cases r<;>first|rfl|(exact absurd h (by simp[qS]))
theorem Lz{K:PySem.W.Frag}{H:Hp}{v w:V}{d f:D}(r:QC K H v d)(q:QC K H w f)(h:qS d=true)(h':qS f=true):Qs v w=QZ d f:=by cases r<;>cases q<;>first|rfl|(exact absurd h (by simp[qS]))|(exact absurd h' (by simp[qS]))
noncomputable def Qz(x:D)(ys:List D):Bool:=ys.any λy=>QZ y x
theorem CF{K:PySem.W.Frag}{H:Hp}{v:V}{x:D}(r:QC K H v x)(h:qS x=true):∀{vs:List V}{ys:List D},bL K H vs ys->ys.all qS=true->Qu v vs=Qz x ys/\vs.all tj=true
 |_,_,.nil,_=>⟨rfl,rfl⟩
 | _,_,.cons r0 t,ha=>by rw[List.all_cons,Bool.and_eq_true]at ha;obtain⟨i1,i2⟩:=CF r h t ha.2;unfold Qu Qz at i1 ⊢;rw[List.any_cons,List.any_cons,List.all_cons,i1,Lz r0 r ha.1 h,uW r0 ha.1,i2];exact⟨rfl,rfl⟩
def CG(neg:Bool):QG:=λx y k=>qS x=true/\i6 y λys=>ys.all qS=true/\k (.d (.bl (if neg then !Qz x ys else Qz x ys)))
theorem IX:QH X (compareOp .In) (CG false):=QH.of Ck λσ H Pr Z x y dx dy kz E px py ⟨hx,h⟩=>by
 cases py with
 | lst hz rs =>
  obtain⟨ha,h⟩:=h;obtain⟨i1,i2⟩:=CF px hx rs ha;exact⟨_,_,rfl,.inl hz.l,uW px hx,i2,_,E.cons_d (.bl _),by rw[i1];exact h⟩
 | tup hz rs =>
  obtain⟨ha,h⟩:=h;obtain⟨i1,i2⟩:=CF px hx rs ha;exact⟨_,_,rfl,.inr hz,uW px hx,i2,_,E.cons_d (.bl _),by rw[i1];exact h⟩
 |_=>exact h.elim
def Q0(X:Cx)(lo:Option Expr)(t:Option (W L)):Prop:=match lo,t with
 |none,none=>True
 |some e,some t=>PL X e t
 |_,_=>False
theorem wV{K:PySem.W.Frag}{H:Hp}{vs:List V}{xs:List D}(r:bL K H vs xs)(l u:Option Int):bL K H (Hx vs l u) (IU xs l u):=by unfold Hx IU;rw[r.length];exact(r.drop _).take _
noncomputable def Q1(K:PySem.W.Frag)(t:Option (W L)):TO:=λσ H Q=>∃Pr Z kz,aA K Pr H σ Z/\Bk t Z kz/\∀i H' Z',aA K Pr H' σ Z'->kz i Z'->Q i H'
theorem LA{lo:Option Expr}{t:Option (W L)}(h:Q0 X lo t):PO X lo (Q1 X.K t):=by
 cases lo with
 | none =>
  cases t with
  | none =>
   intro ab s σ H Q I ⟨Pr,Z,kz,E,hw,q⟩;exact Ik ab s σ H Q I (q none H Z E hw)
  |some t=>exact h.elim
 | some e =>
  cases t with
  |none=>exact h.elim
  | some t =>
   intro ab s σ H Q I ⟨Pr,Z,kz,E,hw,q⟩;refine Il (PL.pe (show PL X e t from h)) ab s σ H Q I ⟨Pr,Z,_,E,hw,λv H' r Z' E' pp=>?_⟩;obtain⟨i,rfl,pp⟩:=da pp;obtain⟨_,e1,p1⟩:=E'.head_d;cases e1;cases p1;exact⟨i,rfl,q (some i) H' Z' E'.tail pp⟩
end
def LC{α:Type}(o:Option L)(t u:W α)(Z:Ev)(kz:α->Ev->Prop):Prop:=match o with
 |some (.own _ _)=>t Z kz
 |_=>u Z kz
noncomputable def d8{α:Type}(i:Nat)(t u:W α):W α:=λZ kz=>LC Z[i]? t u Z kz
theorem FM{α:Type}(a:Addr)(xs:List D)(t u:W α)(Z:Ev)(kz:α->Ev->Prop):LC (some (.own a xs)) t u Z kz=t Z kz:=(rfl)
theorem LD{α:Type}(x:D)(t u:W α)(Z:Ev)(kz:α->Ev->Prop):LC (some (.d x)) t u Z kz=u Z kz:=(rfl)
theorem IY{α:Type}(a:Option Addr)(ls:List L)(t u:W α)(Z:Ev)(kz:α->Ev->Prop):LC (some (.bx a ls)) t u Z kz=u Z kz:=(rfl)
theorem fS{X:Cx}{e:Expr}{i:Nat}{t u:W L}(h:PL X e t)(h':PL X e u):PL X e (d8 i t u):=λab s σ H Pr Z kz I E q=>by
 unfold d8 LC at q;split at q
 . exact h ab s σ H Pr Z kz I E q
 . exact h' ab s σ H Pr Z kz I E q
theorem I0{K:PySem.W.Frag}{c:Str}{C:Addr}{T:String}(h:t6 K c C=true)(hm:PySem.W.kitMeta T=true):PySem.W.kitOne K (.ref C) (.type T)=some ((["ValueError","Exception","BaseException","object"]:List String).contains T):=by obtain⟨L,cd,S⟩:=wJ h;unfold PySem.W.kitOne PySem.W.kitCls;rw[if_neg (show ¬((Value.ref C == Value.type T)=true)from λz=>by cases z)];dsimp only;rw[if_pos hm];show PySem.W.mroIn K C (.type T)=_;rw[S.mroIn,qI]
theorem wW{T:String}(h0:∀K d,(∀c ns xs,d≠.exc c ns xs)->PySem.W.kitOne K (QU d) (.type T)=some (nZ T d))(hm:PySem.W.kitMeta T=true):∀K d t,QV K d t->PySem.W.kitOne K t (.type T)=some (nZ T d):=by
 intro K d t h
 cases d with
 | exc c ns xs =>
  obtain⟨C,e,h⟩:=h;rw[e];exact I0 h hm
 |_=>cases h;exact h0 K _ (λ_ _ _ z=>nomatch z)
theorem Ja:∀ K d t,QV K d t->PySem.W.kitOne K t (.type "int")=some (nZ "int" d):=wW (λK d hd=>by cases d <;> first | rfl | exact absurd rfl (hd _ _ _)) y_
theorem FN:∀ K d t,QV K d t->PySem.W.kitOne K t (.type "bool")=some (nZ "bool" d):=wW (λK d hd=>by cases d <;> first | rfl | exact absurd rfl (hd _ _ _)) y_
theorem CH:∀ K d t,QV K d t->PySem.W.kitOne K t (.type "str")=some (nZ "str" d):=wW (λK d hd=>by cases d <;> first | rfl | exact absurd rfl (hd _ _ _)) y_
theorem Ap:∀ K d t,QV K d t->PySem.W.kitOne K t (.type "list")=some (nZ "list" d):=wW (λK d hd=>by cases d <;> first | rfl | exact absurd rfl (hd _ _ _)) y_
theorem mD:∀ K d t,QV K d t->PySem.W.kitOne K t (.type "tuple")=some (nZ "tuple" d):=wW (λK d hd=>by cases d <;> first | rfl | exact absurd rfl (hd _ _ _)) y_
def p7(K:PySem.W.Frag)(mg:Str->Option Value)(x:Str)(d:D):Prop:=∃v u,mg x=some u/\cJ v u/\∀H,QC K H v d
theorem sU{X:Cx}{x:Str}{d:D}{pos:Pos}(g:p7 X.K X.mg x d)(hg:Gl X x) (hdb:(x == ("__debug__" : Str))=false:=by decide):PL X (.Name x pos) (wC d):=by obtain⟨v,u,h1,h2,h3⟩:=g;exact IG hg h1 h2 h3 hdb
def NG(o:Obj)(d:D):Prop:=∃ its n vs ds,d=.tup ds/\o.cls=.type "tuple"/\o.data=.seq its n/\its.size<=sizeLine/\ck vs its.toList/\∀ K H,bL K H vs ds
theorem FO{K:PySem.W.Frag}{mg:Str->Option Value}{x:Str}{d:D}{l:Addr}{o:Obj}(h1:mg x=some (.ref l))(h2:K.lookup l=some o)(h3:NG o d):p7 K mg x d:=by obtain⟨its,n,vs,ds,rfl,hc,hd,hz,hv,hr⟩:=h3;exact⟨.ref l,_,h1,rfl,λH=>.tup (.inr ⟨o,its,n,h2,hc,hd,hz,hv⟩) (hr K H)⟩
theorem mE{K:PySem.W.Frag}{mg:Str->Option Value}{x:Str}{s:Str}{t:Tok}(h1:mg x=some (.str s t)):p7 K mg x (.str s):=⟨.str s,_,h1,⟨t,rfl⟩,λH=>.str s⟩
theorem Aq{K:PySem.W.Frag}{mg:Str->Option Value}{x:Str}{s:Int}{t:Tok}(h1:mg x=some (.int s t)):p7 K mg x (.int s):=⟨.int s,_,h1,⟨t,rfl⟩,λH=>.int s⟩
theorem wX{K:PySem.W.Frag}{H:Hp}:∀ns:List Int,bL K H (ns.map V.int) (ns.map D.int)
 |[]=>.nil
 |n::ns=>.cons (.int n) (wX ns)
theorem CI{K:PySem.W.Frag}{H:Hp}{a:Addr}{ns:List Int}{fs:FS}{n:Nat}(hl:ns.length<=n)(hO:MZ H)(hS:P0 K H a (ns.map V.int))(h:fs [.d (.lst (ns.map .int))] (λr _=>r=.d (.bl true))):spF K 1 fs [.ref a] H (λv _=>v=.bl true) λ_ _ _=>False:=by
 have hz:QB K H a (ns.map V.int):=by
  rcases hS with(h|⟨o,h⟩)|h
  .
   rcases hO a with z|⟨o,xs,z⟩|⟨q,z⟩
   . rw[z]at h;cases h
   . rw[z]at h;cases h
   . rw[z]at h;cases h
  . exact .inl ⟨o,h⟩
  . exact .inr h
 refine⟨rfl,λ_=>none,[.d (.lst (ns.map .int))],_,⟨(λb o e=>nomatch e),(show([]:List Addr).Nodup from List.nodup_nil),(λa h=>absurd (show a∈([]:List Addr)from h) x_),.cons ⟨.ref a,rfl,.lst hz (wX ns)⟩ .nil⟩,h,λv H' r ls' E p=>?_⟩;subst p;obtain⟨_,e,r⟩:=E.head_d;cases e;cases r;rfl
section
variable{X:Cx}
def Bl:QG:=λx y k=>match y with
 |.non=>k (.d (.bl (match x with | .non=>true|_=>false)))
 |_=>False
def ub:QG:=λx y k=>match y with
 |.non=>k (.d (.bl (match x with | .non=>false|_=>true)))
 |_=>False
theorem yP:QH X (compareOp .Is) Bl:=Lw.imp λx y k h=>by
 unfold Bl at h;split at h
 . exact⟨rfl,h⟩
 . exact h.elim
theorem uX:QH X (compareOp .IsNot) ub:=IR.imp λx y k h=>by
 unfold ub at h;split at h
 . exact⟨rfl,h⟩
 . exact h.elim
end
end L2
namespace L2
open PySem
theorem uY(a b:Int):Int.gcd b (a.fmod b)=Int.gcd a b:=by rw[Int.fmod_def,Int.gcd_sub_mul_left_right,Int.gcd_comm]
theorem gm(a:Int){b:Int}(h:b≠0):(a.fmod b).natAbs<b.natAbs:=by
 rw[Int.fmod_eq_emod];have h1:=Int.emod_nonneg a h;have h2:a % b<(b.natAbs:Int):=Int.emod_lt a h;split
 . omega
 . rename_i q;have:a % b≠0:=λe=>q (.inr (Int.dvd_of_emod_eq_zero e));omega
noncomputable def Q2(q:Rat):D:=.tup [.int q.num,.int (q.den:Int)]
theorem yQ{t b:Int}(h:b≠0):0<Int.gcd t b:=Int.gcd_pos_of_ne_zero_right _ h
noncomputable def cQ(t b:Int):Int:=if b<0 then -(Int.gcd t b:Int)else(Int.gcd t b:Int)
theorem Ar{t b:Int}(h:b≠0):cQ t b≠0:=by have:=yQ (t:=t) h;unfold cQ;split<;>omega
theorem CJ(t b:Int):(cQ t b).natAbs=Int.gcd t b:=by unfold cQ;split<;>omega
theorem As{t b:Int}(h:b≠0):(cQ t b).natAbs<=b.natAbs:=by rw[CJ];exact Nat.le_of_dvd xL (by have:=Int.gcd_dvd_right t b;exact Int.natAbs_dvd_natAbs.mpr this |> λq=>by simpa using q)
theorem qT{a g:Int}(hg:g≠0)(h:g∣a):a.fdiv (-g)=-(a / g):=by obtain⟨k,rfl⟩:=h;rw[Int.mul_ediv_cancel_left _ hg,show g*k=(-g)*(-k) by rw[Int.neg_mul_neg],Int.mul_fdiv_cancel_left _ xL]
theorem CK{t b:Int}(h:b≠0):t.fdiv (cQ t b)=(Rat.divInt t b).num:=by
 have hg:=yQ (t:=t) h;have hd:(Int.gcd t b:Int)∣t:=Int.gcd_dvd_left t b;rw[Rat.num_divInt,Int.gcd_comm b t];unfold cQ;split
 . rename_i hb;rw[qT xL hd,Int.sign_eq_neg_one_of_neg hb,Int.neg_one_mul,Int.neg_ediv_of_dvd hd]
 . rename_i hb;rw[Int.sign_eq_one_of_pos xL,Int.one_mul,Int.fdiv_eq_ediv_of_nonneg _ xL]
theorem Jb{t b:Int}(h:b≠0):b.fdiv (cQ t b)=((Rat.divInt t b).den:Int):=by
 have hg:=yQ (t:=t) h;have hd:(Int.gcd t b:Int)∣b:=Int.gcd_dvd_right t b;rw[Rat.den_divInt,if_neg h,Int.gcd_comm b t,Int.natCast_ediv];unfold cQ;split
 .
  rename_i hb;rw[qT xL hd,<- Int.neg_ediv_of_dvd hd]
  congr 1
  omega
 .
  rename_i hb;rw[Int.fdiv_eq_ediv_of_nonneg _ xL]
  congr 1
  omega
theorem CL{t b:Int}(h:b≠0):(Rat.divInt t b).den<=b.natAbs:=by rw[Rat.den_divInt,if_neg h];exact Nat.div_le_self _ _
theorem HJ{t b:Int}(h:b≠0):(Rat.divInt t b).num.natAbs<=t.natAbs:=by rw[<- CK h];exact PySem.natAbs_fdiv_le _ _
theorem den_pos(q:Rat):0<q.den:=Nat.pos_of_ne_zero q.den_nz
theorem Au(p q:Rat):Rat.divInt (p.num*(q.den:Int)+q.num*(p.den:Int)) ((p.den:Int)*(q.den:Int))=p+q:=by have hp:=den_pos p;have hq:=den_pos q;have:=Rat.divInt_add_divInt p.num q.num (d₁:=(p.den:Int)) (d₂:=(q.den:Int)) xL xL;rw[Rat.num_divInt_den,Rat.num_divInt_den]at this;exact this.symm
theorem LF(p q:Rat):Rat.divInt (p.num*(q.den:Int)-q.num*(p.den:Int)) ((p.den:Int)*(q.den:Int))=p-q:=by have:=Au p (-q);rw[Rat.sub_eq_add_neg,<- this];simp only[Rat.neg_num,Rat.neg_den,Int.neg_mul,Int.sub_eq_add_neg]
def RB(n:Nat)(q:Rat):Prop:=q.num.natAbs<2^n/\q.den<2^n
theorem RB.mono{m n:Nat}{q:Rat}(h:RB m q)(hl:m<=n):RB n q:=⟨so h.1 (Us xp hl),so h.2 (Us xp hl)⟩
theorem RB.bn{n:Nat}{q:Rat}(h:RB n q)(hl:n<=1000000):cP q.num:=so h.1 (Us xp hl)
theorem RB.bd{n:Nat}{q:Rat}(h:RB n q)(hl:n<=1000000):cP (q.den:Int):=by unfold cP;rw[Int.natAbs_natCast];exact so h.2 (Us xp hl)
theorem ba{a b m n:Nat}(h1:a<2^m)(h2:b<2^n):a*b<2^(m+n):=by rw[Nat.pow_add];exact Nat.mul_lt_mul'' h1 h2
theorem RB.add{m n:Nat}{p q:Rat}(hp:RB m p)(hq:RB n q):RB (m+n+1) (p+q):=by
 have dp:=den_pos p;have dq:=den_pos q;have hne:((p.den:Int)*(q.den:Int))≠0:=Int.mul_ne_zero xL xL;rw[<- Au p q];have a1:=ba hp.1 hq.2;have a2:=ba hq.1 hp.2;have a3:=ba hp.2 hq.2;have e:(2:Nat)^(m+n+1)=2^(m+n)+2^(m+n):=by rw[Nat.pow_succ];omega
 rw[Nat.add_comm n m]at a2;constructor
 . refine Uv (HJ hne) ?_;refine Uv (Int.natAbs_add_le _ _) ?_;rw[Int.natAbs_mul,Int.natAbs_mul,Int.natAbs_natCast,Int.natAbs_natCast,e];omega
 . refine Uv (CL hne) ?_;rw[Int.natAbs_mul,Int.natAbs_natCast,Int.natAbs_natCast,e];omega
theorem Bm(p q:Rat):(p+q).den<=p.den*q.den:=by have dp:=den_pos p;have dq:=den_pos q;have hne:((p.den:Int)*(q.den:Int))≠0:=Int.mul_ne_zero xL xL;rw[<- Au p q];have:=CL (t:=p.num*(q.den:Int)+q.num*(p.den:Int)) hne;rw[Int.natAbs_mul,Int.natAbs_natCast,Int.natAbs_natCast]at this;exact this
@[simp] theorem qU(i j:Int):QS (.int i) (.int j)=decide (i=j):=by simp[QS,QR,PyData.eqv];by_cases h:i=j<;>simp[h]
@[simp] theorem CM(i j:Str):QS (.str i) (.str j)=decide (i=j):=by simp[QS,QR,PyData.eqv];by_cases h:i=j<;>simp[h]
@[simp] theorem LG(i j:Bool):QS (.bl i) (.bl j)=decide (i=j):=by simp[QS,QR,PyData.eqv];cases i<;>cases j<;>rfl
@[simp] theorem Bn(i:Int):df (.int i):=rfl
@[simp] theorem CN(i:Bool):df (.bl i):=rfl
@[simp] theorem ud:df .non:=rfl
mutual
noncomputable def Q3:Nat->D->Bool
 |_,.non=>true
 |_,.bl _=>true
 |_,.int _=>true
 |_,.str x=>PyData.strOk x
 |0,.tup _=>false
 |0,.lst _=>false
 |n+1,.tup xs=>qv n xs
 |n+1,.lst xs=>qv n xs
 |_,.dct _=>false
 |_,.exc _ _ _=>false
 |_,.fn _ _=>false
noncomputable def qv:Nat->List D->Bool
 |_,[]=>true
 |n,x::xs=>Q3 n x && qv n xs
end
mutual
theorem uZ:∀(n:Nat)(d:D),Q3 n d=true->(QR d).canLay0=true/\(QR d).depth<=n
 |_,.non,_=>⟨rfl,Nat.zero_le _⟩
 |_,.bl _,_=>⟨rfl,Nat.zero_le _⟩
 |_,.int _,_=>⟨rfl,Nat.zero_le _⟩
 |_,.str x,h=>⟨by simpa[Q3,QR,PyData.canLay0]using h,Nat.zero_le _⟩
 |0,.tup _,h=>by simp[Q3]at h
 |0,.lst _,h=>by simp[Q3]at h
 | n+1,.tup xs,h=>by
  obtain⟨h1,h2⟩:=u3 n xs (by simpa[Q3]using h)
  exact⟨h1,Nat.succ_le_succ h2⟩
 | n+1,.lst xs,h=>by
  obtain⟨h1,h2⟩:=u3 n xs (by simpa[Q3]using h)
  exact⟨h1,Nat.succ_le_succ h2⟩
 |_,.dct _,h=>by simp[Q3]at h
 |_,.exc _ _ _,h=>by simp[Q3]at h
 |_,.fn _ _,h=>by simp[Q3]at h
theorem u3:∀(n:Nat)(ds:List D),qv n ds=true->PyData.canLayAll0 (g8 ds)=true/\PyData.depthAll (g8 ds)<=n
 |_,[],_=>⟨rfl,Nat.zero_le _⟩
 | n,d::ds,h=>by
  have h':Q3 n d=true/\qv n ds=true:=by simpa[qv]using h
  obtain⟨a1,a2⟩:=uZ n d h'.1
  obtain⟨b1,b2⟩:=u3 n ds h'.2
  exact⟨by simp[g8,PyData.canLayAll0,a1,b1],by simp only[g8,PyData.depthAll];omega⟩
end
theorem bR{n:Nat}{d:D}(h:Q3 n d=true)(hn:n<=64):df d:=by obtain⟨h1,h2⟩:=uZ n d h;unfold df SeqAt.shaped;rw[h1,decide_eq_true xL];rfl
theorem CO(xs ys:List D):QS (.tup xs) (.tup ys)=PyData.eqvAll (g8 xs) (g8 ys):=by simp[QS,QR,PyData.eqv]
theorem mF(x y:D)(xs ys:List D):PyData.eqvAll (g8 (x::xs)) (g8 (y::ys))=(QS x y && PyData.eqvAll (g8 xs) (g8 ys)):=by simp[g8,PyData.eqvAll,QS]
theorem Av:PyData.eqvAll (g8 []) (g8 [])=true:=by simp[g8,PyData.eqvAll]
theorem u4{n:Nat}{d:D}(h:Q3 n d=true):QS d d=true:=SeqAt.eqv_refl _ (uZ n d h).1
theorem FP(q:Rat):df (Q2 q):=bR (n:=1) (by simp[Q2,Q3,qv]) xp
theorem LH(p q:Rat):QS (Q2 p) (Q2 q)=decide (p=q):=by
 unfold Q2;rw[CO,mF,mF,Av,qU,qU,Bool.and_true];by_cases h:p=q
 . subst h;simp
 .
  rw[decide_eq_false h];by_cases h1:p.num=q.num
  . have:¬((p.den:Int)=(q.den:Int)):=λe=>h (Rat.ext h1 xL);simp[this]
  . simp[h1]
end L2
namespace L2
open PySem PySem.Spec PyProof.Rows
section
variable{X:Cx}{a b c:Expr}{pos p:Pos}{ta tb tc:W L}
def wY(o o':QG)(ta tb tc:W L):W L:=λZ kz=>ta Z λr Z1=>mv r λi=>tb Z1 λr Z2=>mv r λj=>o (.int i) (.int j) λz=>B3 z λk=>if k=true then tc Z2 λr Z3=>mv r λl=>o' (.int j) (.int l) λz=>kz z Z3 else kz (.d (.bl false)) Z2
def M7(X:Cx)(op:CmpOp)(o:QG):Prop:=∃f:Int->Int->Bool,Qd X (compareOp op) (Qg λi j=>.bl (f i j))/\∀i j k,o (.int i) (.int j) k->k (.d (.bl (f i j)))
theorem LI:M7 X .Lt yt:=⟨_,K8,λ_ _ _ h=>h⟩
theorem LJ:M7 X .LtE FH:=⟨_,K9,λ_ _ _ h=>h⟩
theorem FQ{op op':CmpOp}{o o':QG}{f f':Int->Int->Bool}(h1:∀i j k,o (.int i) (.int j) k->k (.d (.bl (f i j))))(h2:∀i j k,o' (.int i) (.int j) k->k (.d (.bl (f' i j))))
  (σ:St) (H Pr:Hp) (Z:Ev) (kz:L->Ev->Prop) (Q:VK) (hQ:∀v H' r Z',aA X.K Pr H' (some v::σ) (r::Z')->kz r Z'->Q v H') (E:aA X.K Pr H σ Z) (h:wY o o' ta tb tc Z kz) :
  Hv (Qg λi j=>.bl (f i j)) (Qg λi j=>.bl (f' i j)) (tL X.K ta) (tL X.K tb) (tL X.K tc) σ H Q:=by
 refine⟨Pr,Z,_,E,h,λv H1 r Z1 E1 p=>?_⟩;obtain⟨i,rfl,p⟩:=da p;obtain⟨_,e1,r1⟩:=E1.head_d;cases e1;cases r1;refine⟨Pr,Z1,_,E1.tail,p,λv H2 r Z2 E2 p=>?_⟩;obtain⟨j,rfl,p⟩:=da p;obtain⟨_,e1,r1⟩:=E2.head_d;cases e1;cases r1;refine⟨i,j,rfl,rfl,f i j,rfl,?_⟩;have q:=h1 i j _ p
 cases hk:f i j with
 | false =>
  rw[hk]at q;exact hQ _ _ _ Z2 (E2.tail.cons_d (.bl false)) q
 | true =>
  rw[hk]at q;refine⟨Pr,Z2,_,E2.tail,q,λv H3 r Z3 E3 p=>?_⟩;obtain⟨l,rfl,p⟩:=da p;obtain⟨_,e1,r1⟩:=E3.head_d;cases e1;cases r1;exact⟨j,l,rfl,rfl,hQ _ _ _ Z3 (E3.tail.cons_d (.bl _)) (h2 j l _ p)⟩
theorem Aw{op op':CmpOp}{o o':QG}(ho:M7 X op o)(ho':M7 X op' o')(ha:PL X a ta)(hb:PL X b tb)(hc:PL X c tc)(hm:lastMarks [op,op'] [b,c]=false:=by with_unfolding_all rfl) :
  PL X (.Compare a [op,op'] [b,c] pos) (wY o o' ta tb tc):=by
 obtain⟨f,r1,h1⟩:=ho;obtain⟨f',r2,h2⟩:=ho';exact PL.of (Fm r1 r2 ha.pe hb.pe hc.pe hm) λσ H Pr Z kz E h=>FQ (op:=op) (op':=op') h1 h2 σ H Pr Z kz _ (λv H' r Z' E' p=>⟨r,Z',E',p⟩) E h
end
end L2
namespace L2
open PySem PySem.Spec PyProof.Rows PySem.Builtin.Str
section
variable{X:Cx}{a:Expr}{pos p2:Pos}{ta:W L}{x:Str}
theorem LK:Qm X (λx lo hi H Q=>∃z,x=.str z/\z.length<=sizeLine/\Q (.str (Txt.slice z lo hi)) H):=by
 intro ab s σ H x v vl vu lo hi sl Q I rx hs pl pu h;obtain⟨z,rfl,hz,q⟩:=h;obtain⟨t,rfl⟩:=rx;refine⟨"str",_,F.slot_str_getitem.lookup,typeIs_str _ _ _,?_⟩
 obtain⟨l',rfl,rfl⟩:∃l':Option (Int×Tok),vl=partValue l'/\lo=l'.map (·.1):=by
  cases pl
  . exact⟨none,rfl,rfl⟩
  . exact⟨some (_,_),rfl,rfl⟩
 obtain⟨u',rfl,rfl⟩:∃l':Option (Int×Tok),vu=partValue l'/\hi=l'.map (·.1):=by
  cases pu
  . exact⟨none,rfl,rfl⟩
  . exact⟨some (_,_),rfl,rfl⟩
 exact wpAny_getItem_str_slice (l:=l') (u:=u') (st:=none) hs rfl (post_val_or_str ⟨Ur (Txt.slice_le z _ _) hz,λt' k=>⟨.str _,H,I.tok k,⟨t',rfl⟩,q⟩⟩)
def KD(ta:W L)(lo hi:Option (W L)):W L:=λZ kz=>ta Z λr Z1=>QF r λd=>Bk lo Z1 λl Z2=>Bk hi Z2 λu Z3=>match d with
 |.lst xs=>∀a,kz (.own a (IU xs l u)) Z3
 |.str z=>z.length<=sizeLine/\kz (.d (.str (Txt.slice z l u))) Z3
 |.tup xs=>¬(HT.sIx xs.length 0 l=0/\HT.sIx xs.length xs.length u=xs.length)/\kz (.d (.tup (IU xs l u))) Z3
 |_=>False
theorem mG{lo hi:Option Expr}{tl th:Option (W L)}(ha:PL X a ta)(hl:Q0 X lo tl)(hh:Q0 X hi th):PL X (.Subscript a (.Slice lo hi none p2) pos) (KD ta tl th):=by
 refine PL.of (Fq (Qm.or Io (Qm.or LK Ld)) (ay ha).pe (LA hl) (LA hh)) λσ H Pr Z kz E h=>?_
 refine⟨Pr,Z,λr Z1=>match r with
  | .d d=>Bk tl Z1 λl Z2=>Bk th Z2 λu Z3=>match d with
   |.lst xs=>∀a,kz (.own a (IU xs l u)) Z3
   |.str z=>z.length<=sizeLine/\kz (.d (.str (Txt.slice z l u))) Z3
   |.tup xs=>¬(HT.sIx xs.length 0 l=0/\HT.sIx xs.length xs.length u=xs.length)/\kz (.d (.tup (IU xs l u))) Z3
   |_=>False
  |_=>False,E,h,λv H1 r Z1 E1 pp=>?_⟩
 cases r with
 | d d =>
  obtain⟨_,e1,p1⟩:=E1.head_d;cases e1;refine⟨bq H1 Z1,Z1,_,E1.tail.wide,pp,λl H2 Z2 E2 pp=>?_⟩;have F2:aA X.K Pr H2 (some v::σ) (.d d::Z2):=aA.step (τ:=[some v]) (lam:=[.d d]) (w:=[]) (μ:=[]) E1 rfl E2 rfl;refine⟨bq H2 Z2,Z2,_,F2.tail.wide,pp,λu H3 Z3 E3 pp=>?_⟩;have F3:aA X.K Pr H3 (some v::σ) (.d d::Z3):=aA.step (τ:=[some v]) (lam:=[.d d]) (w:=[]) (μ:=[]) F2 rfl E3 rfl;obtain⟨_,e1,p1⟩:=F3.head_d;cases e1
  cases p1 with
  |lst hz rs=>exact .inl ⟨_,_,rfl,hz.l,λq hq=>⟨_,_,F3.tail.cons_own hq (wV rs l u),pp q⟩⟩
  |str z=>exact .inr (.inl ⟨z,rfl,pp.1,_,_,F3.tail.cons_d (.str _),pp.2⟩)
  |tup hz rs=>exact .inr (.inr ⟨_,_,rfl,hz,by rw[rs.length];exact pp.1,λq hq=>⟨_,_,F3.tail.cons_tup hq (wV rs l u),pp.2⟩⟩)
  |_=>exact pp.elim
 |_=>exact pp.elim
def NH(K:PySem.W.Frag):V->List V->Hp->VK->Prop:=λx vs H Q=>∃z a ys zs,x=.str z/\vs=[.ref a]/\(P0 K H a ys∨P1 K H a ys)/\ys=zs.map V.str/\(zs.map (·.length)).sum+zs.length*z.length<=16777216/\Q (.str (Txt.join z zs)) H
theorem qV:∀{zs:List Str}{us:List Value},ck (zs.map V.str) us->StrsAre us zs
 |[],_,.nil=>.nil
 | z::zs,_,.cons r t=>by obtain⟨t',rfl⟩:=r;exact .cons z t' (qV t)
theorem Jc:Qr X "str.join" (NH X.K):=by
 intro ab s σ H x vs v us Q I rx rv h;obtain⟨z,a,ys,zs,rfl,rfl,hq,rfl,hz,q⟩:=h;obtain⟨t,rfl⟩:=rx;obtain⟨u,rfl,ru⟩:=rv.one;cases ru;rcases hq with hq|hq
 . obtain⟨its,r,pl,_⟩:=I.list hq;exact join_list pl.isList (by simpa using qV r) hz λt' k=>⟨.str _,H,I.tok k,⟨t',rfl⟩,q⟩
 . obtain⟨its,r,pl,_⟩:=I.tuple hq;exact join_tuple pl (by simpa using qV r) hz λt' k=>⟨.str _,H,I.tok k,⟨t',rfl⟩,q⟩
end
section
variable{X:Cx}{e a b c:Expr}{es:List Expr}{pos p apos cpos:Pos}{te:W L}{x y:Str}
def Jd(z:Str)(te:W L):W L:=λZ kz=>te Z λr Z1=>QF r λd=>i6 d λxs=>∃zs,xs=zs.map D.str/\(zs.map (·.length)).sum+zs.length*z.length<=16777216/\kz (.d (.str (Txt.join z zs))) Z1
theorem qW{K:PySem.W.Frag}{H:Hp}:∀{zs:List Str}{vs:List V},bL K H vs (zs.map D.str)->vs=zs.map V.str
 |[],_,.nil=>rfl
 | z::zs,_,.cons r t=>by cases r;rw[qW t];rfl
theorem Je{z:Str}{j:Nat}{pz:Pos}(he:PL X e te)(hs1:starEach [e] X.env=[(false,eval e X.env)]:=by rfl) (hbase:attributeBase (.Constant (.str z) j pz) "join" X.env (eval (.Constant (.str z) j pz) X.env)=eval (.Constant (.str z) j pz) X.env:=by rfl)
  (hfew:((backTo cpos (starEach [e] X.env)).all (λx=>!x.1) && (backToKw cpos (keywordEach [] X.env)).all (λx=>x.1.isSome)
   && decide (([e]).length+([]:List Keyword).length+(if([]:List Keyword).isEmpty then 0 else 1)<30))=true:=by rfl)
  (hline:(apos.endLine == cpos.line)=true:=by rfl) (hplain:(backTo cpos (starEach ([]:List Expr) X.env)).any (·.1)=false:=by rfl) :
  PL X (.Call (.Attribute (.Constant (.str z) j pz) "join" apos) [e] [] cpos) (Jd z te):=by
 refine PL.of (Ft PySem.F.plainAttrs_str PySem.F.slot_str_join PySem.F.type_str_join Jc Hr (eD (ay he).pe mi hs1) (hbase:=hbase) (hfew:=hfew) (hline:=hline) (hs:=hs1) (hplain:=hplain)) λσ H Pr Z kz E h=>?_
 refine⟨rfl,Pr,Z,λr Z1=>match r with
  |.d d=>i6 d λxs=>∃zs,xs=zs.map D.str/\(zs.map (·.length)).sum+zs.length*z.length<=16777216/\kz (.d (.str (Txt.join z zs))) Z1
  |_=>False,E,h,λv H' r Z' E' pp=>?_⟩
 cases r with
 | d d =>
  obtain⟨_,e1,p1⟩:=E'.head_d;cases e1
  cases p1 with
  | lst hz rs =>
   obtain⟨zs,rfl,hl,pp⟩:=pp;exact⟨z,_,_,zs,rfl,rfl,.inl hz.l,qW rs,hl,_,_,E'.tail.cons_d (.str _),pp⟩
  | tup hz rs =>
   obtain⟨zs,rfl,hl,pp⟩:=pp;exact⟨z,_,_,zs,rfl,rfl,.inr hz,qW rs,hl,_,_,E'.tail.cons_d (.str _),pp⟩
  |_=>exact pp.elim
 |_=>exact pp.elim
theorem PU.turnedL{ab:List (Addr×Obj)}{σ:St}{H:Hp}{s:Shared}{h':Heap}{t':Nat}{fp:List Addr}(I:PU X ab σ H s)(k:∀b o,b∉fp->s.heap.get? b=some o->h'.get? b=some o)(hf:∀b∈fp,B2 X ab H b):PU X ab σ H {s with heap:=h',toks:=t' }:=by
 have nit:∀b u,H b=some u->b∉fp:=λb u e z=>by rw[(hf b z).1]at e;cases e
 refine I.step (g':=s.gens) (d':=s.drawn) (ch:=fp) (λb hb=>?_) (λb o _ _ hc e _=>k b o hc e) (λb o _ _ hc e _=>⟨o.slots,k b o hc e⟩) (λ_ _ _ _ n=>n)
  (λb o hc e=>⟨o,k b o hc e⟩) (λ_ _ e=>e) (λ_ _ _ e=>e) (λ_ _ e=>e) (λm hm=>?_) (λb u e=>?_) I.bare
 . obtain⟨f0,f1,f2,f3,f4,f5⟩:=hf b hb;exact⟨f3,f1,f4,f5⟩
 . obtain⟨o,es,ep,ho,r⟩:=hm;exact⟨o,es,ep,k _ o (λz=>(hf _ z).2.1 rfl) ho,r⟩
 .
  refine(I.hok b u e).stay (λc v hc q=>k c v ?_ q) (λ_ q=>q) (λ_ _ q=>q) λ_ _ _ _ q=>q;rcases hc with z|z
  . rw[z];exact nit b u e
  . exact nit c _ z
noncomputable def Q4(K:PySem.W.Frag)(a:Addr):It :=
 ⟨λi H=>∃xs x,P0 K H a xs/\xs[i]?=some x,λi H v H'=>∃p x,v=.ref p/\H p=none/\H'=PD H p (.tup [.int i,x])/\∀xs,P0 K H a xs->xs[i]?=some x,λi H=>∃xs,P0 K H a xs/\xs.length<=i⟩
theorem CP{P:Program}{w:World}{K:PySem.W.Frag}{k:Nat}(q it a:Addr)(hne:q≠it):Ht P w K (.Tuple es k pos) (Q4 K a) [q,it] q (λi h=>(∃old,IsEnum h q it i old)/\h.IsListIter it a i) where
 mem:=by simp
 obj:=λi h st b hb=>by
  obtain⟨⟨old,he⟩,o,e,c,d⟩:=st;rcases Uq.mp hb with rfl|hb
  .
   exact⟨_,he,λv z=>by
    have z':Data.fields _=Data.cell v:=z
    cases z'⟩
  .
   have e':b=it:=by simpa using hb
   subst e';exact⟨o,e,λv z=>by rw[d]at z;cases z⟩
 keep:=λi h h' st kk=>⟨let ⟨old,he⟩:=st.1;⟨old,kk q x_ _ he⟩,st.2.at λo e=>kk it x_ o e⟩
 item:=by
  intro X hP hw hK hc i ab s σ H E I hf st hg;subst hP hw hK;obtain⟨xs,x,hq,hx⟩:=hg;obtain⟨its,rv,p,hz⟩:=I.list hq;obtain⟨u,hu,ru⟩:=rv.get hx;obtain⟨⟨old,he⟩,hit⟩:=st;have hai:a≠it:=λz=>by subst z;obtain⟨o,e,c,d⟩:=hit;obtain⟨o',e',c',_⟩:=p.isList;rw[e]at e';cases e';rw[c]at c';exact absurd c' x_
  have hqa:q≠a:=λz=>by subst z;obtain⟨o',e',c',_⟩:=p.isList;rw[he]at e';cases e';exact absurd c' x_
  have D:=Draws.list (prog:=X.prog) (w:=X.w) (A:=X.A.in1) (I.ok.hd hc) it a hai its.toArray;have hlt:i<its.toArray.size:=by rw[List.size_toArray];exact(k4.mp hu).1
  refine wpAny_pyNext_enum_itemD D he ⟨hit,p.isList⟩ hlt hne (by simp[hne,hqa]) λx' h' tk hPx hout hst' htup hsz hk=>?_
  have hx':x'=u:=by
   have:its.toArray[i]?=some u:=by simpa using hu
   rw[this]at hPx;exact(Option.some.inj hPx).symm
  subst hx';refine⟨.ref s.heap.objs.size,rfl,wpAny_letOwnedTupleGo_enum (s:={s with heap:=h',toks:=tk+1}) hout λh'' he'' hs''=>?_⟩;have qlt:q<s.heap.objs.size:=Ut he;have ilt:it<s.heap.objs.size:=by obtain⟨o,e,_⟩:=hit;exact Ut e
  have I1:PU X ab σ (PD H s.heap.objs.size (.tup [.int i,x])) {s with heap:=s.heap.push {cls:=.type "tuple",data:=.seq #[.int i tk,x'] },toks:=tk} :=
   I.laid (λb ob q=>p4 _ q) (Uu _) ⟨by show 2<=sizeLine;decide,[.int i tk,x'],.cons ⟨tk,rfl⟩ (.cons ru .nil),⟨_,Heap.get?_push_size _ rfl,rfl,_,rfl⟩⟩
  have hf1:∀b∈[q,it],B2 X ab (PD H s.heap.objs.size (.tup [.int i,x])) b:=λb hb=>by
   refine⟨?_,(hf b hb).2⟩;rw[aE ?_]
   . exact(hf b hb).1
   .
    rcases Uq.mp hb with rfl|hb
    . exact Nat.ne_of_lt qlt
    . rw[List.mem_singleton.mp hb];exact Nat.ne_of_lt ilt
  have I2:=I1.turnedL (h':=h'') (t':=tk+1) (fp:=[q,it]) (λb o hb e=>by
   have hbq:b≠q:=λz=>hb (by simp[z]);have hbi:b≠it:=λz=>hb (by simp[z]);refine(hs''.2 b hbq).trans ?_;rcases Heap.get?_push_cases e with⟨rfl,rfl⟩|e
   . exact htup
   .
    exact hk b o hbq hbi e) hf1
  refine⟨.ref s.heap.objs.size,_,I2,rfl,⟨_,x,rfl,I.fresh,rfl,λys hy=>by rw[I.list_inj hy hq];exact hx⟩,⟨⟨_,by simpa using he''⟩,hst'.1.extBut hs''.extBut (Ne.symm hne)⟩,λb hb=>(hf1 b hb).1⟩
 done:=by
  intro X hP hw hK hc i ab s σ H E I hf st hg;subst hP hw hK;obtain⟨xs,hq,hx⟩:=hg;obtain⟨its,rv,p,hz⟩:=I.list hq;obtain⟨⟨old,he⟩,hit⟩:=st;have hai:a≠it:=λz=>by subst z;obtain⟨o,e,c,d⟩:=hit;obtain⟨o',e',c',_⟩:=p.isList;rw[e]at e';cases e';rw[c]at c';exact absurd c' x_
  have hl:=rv.length;have hT:s.TypeIs (.ref q) "enumerate":=⟨_,he,rfl⟩;unfold pyNext
  refine kS (wpAny_attempt (wpAny_callSpecial?_slot (name:=Str.ofString "__next__") hT F.slot_enumerate_next
   (wpAny_call_entry F.slot_enumerate_next hT F.entry_enumerate_next ?_ (F.args_enumerate_next_1 _))))
  show wpAny _ _ (field (.ref q) 2 >>= _) _ _ _;refine kS (wpAny_field he rfl (x:=.ref it) rfl ?_);refine kS (wpAny_nextOf_list_end (I.ok.hd hc) hit p.isList (by simp;omega) λh' x he' hx'=>?_);obtain⟨o,ho,hcc⟩:=hx';refine kS (wpAny_isInstance (T:="StopIteration") (b:=true) ⟨o,ho,hcc⟩ isSubtype_stop ?_);refine Uw ⟨rfl,?_⟩;exact I.turnedL (t':=s.toks) (fp:=[q,it]) (λb o hb e=>he' b o (λz=>hb (by simp[z])) e) hf
 self:=λ_ _ _ _ _ st h=>let ⟨_,he⟩:=st.1;wpAny_pyIter_enum he h
noncomputable def i9(xs:List D):List D:=xs.zipIdx.map λp=>.tup [.int (p.2:Int),p.1]
theorem Bo{K:PySem.W.Frag}{H:Hp}{a:Addr}{vs:List V}{xs:List D}(h:QB K H a vs)(r:bL K H vs xs):yJ K H (Q4 K a) (i9 xs):=λH' p=>by
 have h':=(h.pres p).l;have fI:(i9 xs).length=vs.length:=by rw[r.length];simp[i9]
 refine⟨λi x e=>?_,⟨vs,h',by rw[fI];exact Uu _⟩⟩;have hi:i<vs.length:=by rw[<- fI];exact(k4.mp e).1
 have hi2:i<xs.length:=by rw[<- r.length];exact hi
 have ex:x=.tup [.int (i:Int),xs[i]]:=by
  have:(i9 xs)[i]?=some (.tup [.int (i:Int),xs[i]]):=by simp[i9,hi2]
  rw[this]at e;exact(Option.some.inj e).symm
 obtain⟨v,ev,rv⟩:=r.get (i:=i) (gV hi2);refine⟨⟨vs,v,h',ev⟩,λw H2 ⟨q,y,e1,e2,e3,e4⟩=>?_⟩;have e5:=e4 vs h';rw[ev]at e5;cases e5;subst e1 e3 ex;refine⟨.inr ⟨_,_,e2,rfl⟩,.tup (.inl (.inl (bG ..))) (.cons (.int _) (.cons ((rv.pres p).new e2) .nil))⟩
def Bp(t:W L):W (List D):=λZ kz=>t Z λr Z1=>QF r λd=>match d with
 |.lst xs=>kz (i9 xs) Z1
 |_=>False
theorem qw{k:Nat}{t:W L} (hg:Gl X "enumerate") (hm:X.mg "enumerate"=none) (ha:PL X a t) (hs:starEach [a] X.env=[(false,eval a X.env)]:=by rfl):QQ X (.Tuple es k apos) (.Call (.Name "enumerate" p) [a] [] pos) (Bp t):=by
 intro ab s σ H Pr Z kz I E h
 refine Call_ (iQ I hg hm boot_enumerate (PyProof.Rows.callWith_type1 (PX (af (ay ha) ag hs pos ab s σ H Pr Z (λls Z1=>match ls with
  |[.d (.lst xs)]=>kz (i9 xs) Z1
  |_=>False) I E ?_) λus s1 ⟨vs,H1,ls,Z1,I1,r1,hl,hb,E1,_,q1⟩=>?_) hs rfl))
 .
  show t Z _
  have e:(λr Z1=>QF r λd=>match d with | .lst xs=>kz (i9 xs) Z1|_=>False)=(λr Z1=>QF r λx=>aF Z1 λxs Z2=>match L.d x::xs with | [.d (.lst xs)]=>kz (i9 xs) Z2|_=>False):=by
   funext r Z1
   cases r with
   |un=>rfl
   |d d=>cases d<;>rfl
   |own=>rfl
   | bx b ls =>
    show dH (bE (.bx b ls)) _=dH (bE (.bx b ls)) _
    cases bE (.bx b ls)with
    |none=>rfl
    |some d=>cases d<;>rfl
   |dic b ls=>rfl
  rw[<- e];exact h
 .
  dsimp only at q1;split at q1
  .
   rename_i xs
   cases vs with
   |nil=>exact absurd hl x_
   | cons v vs =>
    have:vs=[]:=by
     have:vs.length=0:=by simpa using hl
     exact List.length_eq_zero_iff.mp this
    subst this;obtain⟨_,e1,p1⟩:=aA.head_d (σ:=σ) (Z:=Z1) E1;cases e1
    cases p1 with
    | lst hz rs =>
     obtain⟨u,rfl,ru⟩:=r1.one;cases ru;obtain⟨its,rv,pl,hz'⟩:=I1.list hz.l;refine call_enumerate_list pl.isList λh' hE hI hsz hk=>?_;refine wpAny_pyIter_enum (s:={s1 with heap:=h' }) hE ?_;have E2:aA X.K Pr H1 σ Z1:=aA.tail (σ:=σ) (Z:=Z1) E1;refine⟨s1.heap.objs.size+1,[s1.heap.objs.size+1,s1.heap.objs.size],_,_,H1,_,Z1,rfl,I1.kept (t':=s1.toks) hk,CP _ _ _ (Nat.succ_ne_self _),⟨⟨_,hE⟩,hI⟩,λb hb=>?_,E2,Bo hz rs,q1⟩
     have hb':s1.heap.objs.size<=b:=by
      rcases Uq.mp hb with rfl|hb
      . exact Nat.le_succ _
      . rw[List.mem_singleton.mp hb];exact Uu _
     exact I1.fpOk hb' (I1.hok.fresh hb')
  . exact q1.elim
end
section
variable{X:Cx}{e a b:Expr}{es:List Expr}{pos p p2 apos:Pos}{x y:Str}
noncomputable def Q5(K:PySem.W.Frag)(a b:Addr):It :=
 ⟨λi H=>∃xs ys x y,P0 K H a xs/\P0 K H b ys/\xs[i]?=some x/\ys[i]?=some y,λi H v H'=>∃p x y,v=.ref p/\H p=none/\H'=PD H p (.tup [x,y])/\(∀xs,P0 K H a xs->xs[i]?=some x)/\∀ys,P0 K H b ys->ys[i]?=some y,
  λi H=>∃xs ys,P0 K H a xs/\P0 K H b ys/\(xs.length<=i∨ys.length<=i)⟩
theorem cR{h:Heap}{l a:Addr}{its:Array Value}{o:Obj}(hl:h.IsList l its)(ho:h.get? a=some o) (hc:o.cls≠.type "list"):l≠a:=λz=>by subst z;obtain⟨o',e',c',_⟩:=hl;rw[ho]at e';cases e';exact hc c'
theorem FR{P:Program}{w:World}{K:PySem.W.Frag}{k:Nat}(z TI TO i1 i2 l1 l2:Addr)(hnd:[z,TI,TO,i1,i2].Nodup):Ht P w K (.Tuple es k pos) (Q5 K l1 l2) [z,TI,TO,i1,i2] z
  (λi h=>IsZip h z TI TO .none/\IsPair h TI (.ref i1) (.ref i2)/\(∃a b,IsPair h TO a b)/\h.IsListIter i1 l1 i/\h.IsListIter i2 l2 i) where
 mem:=by simp
 obj:=λi h st b hb=>by
  obtain⟨hz,hTI,⟨p,q,hTO⟩,⟨o1,e1,c1,d1⟩,⟨o2,e2,c2,d2⟩⟩:=st;simp only[Uq,List.not_mem_nil,or_false]at hb;rcases hb with rfl|rfl|rfl|rfl|rfl
  .
   exact⟨_,hz,λv z=>by
    have z':Data.fields _=Data.cell v:=z
    cases z'⟩
  .
   exact⟨_,hTI,λv z=>by
    have z':Data.seq _ _=Data.cell v:=z
    cases z'⟩
  .
   exact⟨_,hTO,λv z=>by
    have z':Data.seq _ _=Data.cell v:=z
    cases z'⟩
  . exact⟨o1,e1,λv z=>by rw[d1]at z;cases z⟩
  . exact⟨o2,e2,λv z=>by rw[d2]at z;cases z⟩
 keep:=λi h h' st kk=>by obtain⟨hz,hTI,⟨p,q,hTO⟩,h1,h2⟩:=st;exact⟨kk z x_ _ hz,kk TI x_ _ hTI,⟨p,q,kk TO x_ _ hTO⟩,h1.at λo e=>kk i1 x_ o e,h2.at λo e=>kk i2 x_ o e⟩
 item:=by
  intro X hP hw hK hc i ab s σ H E I hf st hg;subst hP hw hK;obtain⟨xs,ys,x,y,hq1,hq2,hx,hy⟩:=hg;obtain⟨its,rv,pl,_⟩:=I.list hq1;obtain⟨its2,rv2,pl2,_⟩:=I.list hq2;obtain⟨u,hu,ru⟩:=rv.get hx;obtain⟨u2,hu2,ru2⟩:=rv2.get hy;obtain⟨hz,hTI,⟨p,q,hTO⟩,h1,h2⟩:=st;obtain⟨o1,e1,c1,d1⟩:=id h1;obtain⟨o2,e2,c2,d2⟩:=id h2;have n1:o1.cls≠.type "list":=by rw[c1]; simp
  have n2:o2.cls≠.type "list":=by rw[c2]; simp
  simp only[List.nodup_cons,Uq,List.not_mem_nil,or_false,not_or,List.nodup_nil,and_true,not_false_eq_true]at hnd;obtain⟨⟨a1,a2,a3,a4⟩,⟨b1,b2,b3⟩,⟨c1',c2'⟩,d1'⟩:=hnd
  have D:ZipApart z TI TO i1 i2 l1 l2:=⟨Ne.symm a1,Ne.symm a2,Ne.symm a3,Ne.symm a4,b1,b2,b3,c1',c2',d1',cR pl.isList hz x_,cR pl.isList hTO x_,cR pl.isList e1 n1,cR pl.isList e2 n2,
   cR pl2.isList hz x_,cR pl2.isList hTO x_,cR pl2.isList e1 n1,cR pl2.isList e2 n2⟩
  refine wpAny_pyNext_zip_item D hz hTI hTO h1 h2 pl.isList pl2.isList (x:=u) (y:=u2) (by simpa using hu) (by simpa using hu2) λh' hz' hTO' h1' h2' hT' hsz hk=>?_;refine⟨.ref s.heap.objs.size,rfl,wpAny_letOwnedTupleGo_zip (s:={s with heap:=h' }) hz' λh'' hz'' hs''=>?_⟩
  have lt:∀b∈[z,TI,TO,i1,i2],b<s.heap.objs.size:=λb hb=>by
   simp only[Uq,List.not_mem_nil,or_false]at hb;rcases hb with rfl|rfl|rfl|rfl|rfl
   . exact Ut hz
   . exact Ut hTI
   . exact Ut hTO
   . exact Ut e1
   . exact Ut e2
  have I1:PU X ab σ (PD H s.heap.objs.size (.tup [x,y])) {s with heap:=s.heap.push {cls:=.type "tuple",data:=.seq #[u,u2] },toks:=s.toks} :=
   I.laid (λb ob q=>p4 _ q) (Uu _) ⟨by show 2<=sizeLine;decide,[u,u2],.cons ru (.cons ru2 .nil),⟨_,Heap.get?_push_size _ rfl,rfl,_,rfl⟩⟩
  have hf1:∀b∈[z,TI,TO,i1,i2],B2 X ab (PD H s.heap.objs.size (.tup [x,y])) b:=λb hb=>by refine⟨?_,(hf b hb).2⟩;rw[aE (Nat.ne_of_lt (lt b hb))];exact(hf b hb).1
  have I2:=I1.turnedL (h':=h'') (t':=s.toks) (fp:=[z,TI,TO,i1,i2]) (λb o hb e=>by
   simp only[Uq,List.not_mem_nil,or_false,not_or]at hb;obtain⟨hbz,hbTI,hbTO,hb1,hb2⟩:=hb;refine(hs''.2 b hbz).trans ?_;rcases Heap.get?_push_cases e with⟨rfl,rfl⟩|e
   . exact hT'
   .
    exact hk b o hbz hbTO hb1 hb2 e) hf1
  exact⟨.ref s.heap.objs.size,_,I2,rfl,⟨_,x,y,rfl,I.fresh,rfl,λzs hy'=>by rw[I.list_inj hy' hq1];exact hx,λzs hy'=>by rw[I.list_inj hy' hq2];exact hy⟩,
   ⟨hz'',hs''.extBut _ _ D.TIz (hk _ _ D.TIz D.TITO D.TIi1 D.TIi2 hTI),⟨_,_,hs''.extBut _ _ D.TOz hTO'⟩,h1'.extBut hs''.extBut D.i1z,h2'.extBut hs''.extBut D.i2z⟩,λb hb=>(hf1 b hb).1⟩
 done:=by
  intro X hP hw hK hc i ab s σ H E I hf st hg;subst hP hw hK;obtain⟨xs,ys,hq1,hq2,hend⟩:=hg;obtain⟨its,rv,pl,_⟩:=I.list hq1;obtain⟨its2,rv2,pl2,_⟩:=I.list hq2;obtain⟨hz,hTI,⟨p,q,hTO⟩,h1,h2⟩:=st;obtain⟨o1,e1,c1,d1⟩:=id h1;obtain⟨o2,e2,c2,d2⟩:=id h2;have n1:o1.cls≠.type "list":=by rw[c1]; simp
  have n2:o2.cls≠.type "list":=by rw[c2]; simp
  simp only[List.nodup_cons,Uq,List.not_mem_nil,or_false,not_or,List.nodup_nil,and_true,not_false_eq_true]at hnd;obtain⟨⟨a1,a2,a3,a4⟩,⟨b1,b2,b3⟩,⟨c1',c2'⟩,d1'⟩:=hnd
  have D:ZipApart z TI TO i1 i2 l1 l2:=⟨Ne.symm a1,Ne.symm a2,Ne.symm a3,Ne.symm a4,b1,b2,b3,c1',c2',d1',cR pl.isList hz x_,cR pl.isList hTO x_,cR pl.isList e1 n1,cR pl.isList e2 n2,
   cR pl2.isList hz x_,cR pl2.isList hTO x_,cR pl2.isList e1 n1,cR pl2.isList e2 n2⟩
  have hl:=rv.length;have hl2:=rv2.length
  have hend':its.toArray[i]?=none∨its2.toArray[i]?=none:=by
   rcases hend with h|h
   . exact .inl (by simp;omega)
   . exact .inr (by simp;omega)
  refine wpAny_pyNext_zip_end (I.ok.hd hc) D hz hTI hTO h1 h2 pl.isList pl2.isList hend' λh' hk=>⟨rfl,?_⟩;exact I.turnedL (t':=s.toks) (fp:=[z,TI,TO,i1,i2]) (λb o hb e=>hk b o (λz=>hb (by simp[z])) (λz=>hb (by simp[z])) (λz=>hb (by simp[z])) (λz=>hb (by simp[z])) e) hf
 self:=λ_ _ _ _ _ st h=>wpAny_pyIter_zip st.1 h
noncomputable def sV(xs ys:List D):List D:=(xs.zip ys).map λp=>.tup [p.1,p.2]
theorem CQ{K:PySem.W.Frag}{H:Hp}{a b:Addr}{vs ws:List V}{xs ys:List D}(h:QB K H a vs)(r:bL K H vs xs)(h2:QB K H b ws)(r2:bL K H ws ys):yJ K H (Q5 K a b) (sV xs ys):=λH' p=>by
 have h':=(h.pres p).l;have h2':=(h2.pres p).l;have fI:(sV xs ys).length=min vs.length ws.length:=by rw[r.length,r2.length];simp[sV]
 refine⟨λi x e=>?_,⟨vs,ws,h',h2',by rw[fI];omega⟩⟩;have hi:i<min vs.length ws.length:=by rw[<- fI];exact(k4.mp e).1
 have hi2:i<xs.length:=by rw[<- r.length];omega
 have hi3:i<ys.length:=by rw[<- r2.length];omega
 have ex:x=.tup [xs[i],ys[i]]:=by
  have:(sV xs ys)[i]?=some (.tup [xs[i],ys[i]]):=by simp[sV,hi2,hi3,List.getElem?_zip_eq_some]
  rw[this]at e;exact(Option.some.inj e).symm
 obtain⟨v,ev,rv⟩:=r.get (i:=i) (gV hi2);obtain⟨v2,ev2,rv2⟩:=r2.get (i:=i) (gV hi3);refine⟨⟨vs,ws,v,v2,h',h2',ev,ev2⟩,λw H2 ⟨q,y,y2,e1,e2,e3,e4,e5⟩=>?_⟩;have e6:=e4 vs h';have e7:=e5 ws h2';rw[ev]at e6;rw[ev2]at e7;cases e6;cases e7;subst e1 e3 ex;refine⟨.inr ⟨_,_,e2,rfl⟩,.tup (.inl (.inl (bG ..))) (.cons ((rv.pres p).new e2) (.cons ((rv2.pres p).new e2) .nil))⟩
def KF(d d2:D)(k:List D->Prop):Prop:=match d,d2 with
 |.lst xs,.lst ys=>k (sV xs ys)
 |_,_=>False
def M8(t u:W L):W (List D):=λZ kz=>t Z λr Z1=>QF r λd=>u Z1 λr2 Z2=>QF r2 λd2=>KF d d2 λzs=>kz zs Z2
theorem CS{k:Nat}{t u:W L} (hg:Gl X "zip") (hm:X.mg "zip"=none) (ha:PL X a t) (hb:PL X b u) (hs:starEach [a,b] X.env=[(false,eval a X.env),(false,eval b X.env)]:=by rfl) (hs2:starEach [b] X.env=[(false,eval b X.env)]:=by rfl) :
  QQ X (.Tuple es k apos) (.Call (.Name "zip" p) [a,b] [] pos) (M8 t u):=by
 intro ab s σ H Pr Z kz I E h
 refine Call_ (iQ I hg hm boot_zip (PyProof.Rows.callWith_type1 (PX (af (ay ha) (af (ay hb) ag hs2) (by rw[hs,hs2]) pos ab s σ H Pr Z (λls Z1=>match ls with
  |[.d d,.d d2]=>KF d d2 λzs=>kz zs Z1
  |_=>False) I E ?_) λus s1 ⟨vs,H1,ls,Z1,I1,r1,hl,hb,E1,_,q1⟩=>?_) (by rw[hs,hs2]) (by rw[hs2];rfl)))
 .
  show t Z _
  have e:(λr Z1=>QF r λd=>u Z1 λr2 Z2=>QF r2 λd2=>KF d d2 λzs=>kz zs Z2)
    = (λr Z1=>QF r λx=>ar (br u) aF Z1 λxs Z2=>match L.d x::xs with | [.d d,.d d2]=>KF d d2 λzs=>kz zs Z2|_=>False):=by
   funext r Z1
   cases r with
   |un=>rfl
   |d d=>rfl
   |own a xs=>rfl
   | bx b ls =>
    show dH (bE (.bx b ls)) _=dH (bE (.bx b ls)) _;cases bE (.bx b ls)<;>rfl
   |dic b ls=>rfl
  rw[<- e];exact h
 .
  dsimp only at q1;split at q1
  .
   rename_i d d2;unfold KF at q1;split at q1
   rotate_left
   . exact q1.elim
   rename_i xs ys
   match vs,hl with
   | [v,v2],_ =>
    obtain⟨_,e1,p1⟩:=aA.head_d (σ:=some v2::σ) (Z:=.d (.lst ys)::Z1) E1;cases e1;obtain⟨_,e1,p2⟩:=aA.head_d (σ:=σ) (Z:=Z1) (aA.tail (σ:=some v2::σ) (Z:=.d (.lst ys)::Z1) E1);cases e1
    cases p1 with
    | lst hz rs =>
     cases p2 with
     | lst hz2 rs2 =>
      obtain⟨u1,u2,rfl,ru,ru2⟩:=r1.two;cases ru;cases ru2;obtain⟨its,rv,pl,_⟩:=I1.list hz.l;obtain⟨its2,rv2,pl2,_⟩:=I1.list hz2.l;refine call_zip_2 pl.isList pl2.isList λh' hZ hTI hTO hI1 hI2 hsz hk=>?_;refine wpAny_pyIter_zip (s:={s1 with heap:=h' }) hZ ?_;have E1':aA X.K Pr H1 (some _::some _::σ) (.d _::.d _::Z1):=E1;have E2:aA X.K Pr H1 σ Z1:=E1'.tail.tail;refine⟨s1.heap.objs.size+4,[s1.heap.objs.size+4,s1.heap.objs.size+2,s1.heap.objs.size+3,s1.heap.objs.size,s1.heap.objs.size+1],_,_,H1,_,Z1,rfl,I1.kept (t':=s1.toks) hk,FR _ _ _ _ _ _ _ x_,⟨hZ,hTI,⟨_,_,hTO⟩,hI1,hI2⟩,λb hb=>?_,E2,CQ hz rs hz2 rs2,q1⟩
      have hb':s1.heap.objs.size<=b:=by
       simp only[Uq,List.not_mem_nil,or_false]at hb;rcases hb with rfl|rfl|rfl|rfl|rfl
       . exact Nat.le_add_right _ _
       . exact Nat.le_add_right _ _
       . exact Nat.le_add_right _ _
       . exact Uu _
       . exact Nat.le_add_right _ _
      exact I1.fpOk hb' (I1.hok.fresh hb')
  . exact q1.elim
end
section
variable{X:Cx}{e a b:Expr}{es:List Expr}{pos p apos cpos:Pos}{te:W L}{x y:Str}
def M9(X:Cx)(es:List Expr)(n:Nat)(is:List Nat):Prop:=∃gg:P2,P4 X es gg/\es.length=is.length/\∀vs σ H Pr Z xs k,σ.length=X.N.length->aA X.K Pr H σ Z->bL X.K H vs xs->hU is xs Z k->gg vs σ H λσ' H'=>H'=H/\σ'.drop n=σ.drop n/\∃Z',aA X.K Pr H σ' Z'/\k Z'
theorem oh{n:Nat}:M9 X [] n []:=⟨_,B7,rfl,λvs σ H Pr Z xs k hl E r h=>by
 cases r with
 |nil=>exact⟨rfl,rfl,rfl,Z,E,h⟩
 |cons _ _=>exact h.elim⟩
theorem cU{i n:Nat}{is:List Nat}{x:Str}(hn:i<n)(hN:X.N.Nodup)(hi:X.N[i]?=some x)(hx:PR X.env.scope x)(hr:M9 X es n is)(hf:X.fn x=true∨X.env.scope.names.lookup x=some .local:=by first|exact .inl rfl|exact .inr rfl|assumption)
  (hs:(assignEach (.Name x pos::es) X.env).map (·.2)=assign (.Name x pos) X.env::(assignEach es X.env).map (·.2):=by rfl):M9 X (.Name x pos::es) n (i::is):=by
 obtain⟨gg,hg,fI,q⟩:=hr;refine⟨_,Ad (uF hN hi hx hf) hg hs,by simp[fI],λvs σ H Pr Z xs k hl E r h=>?_⟩
 cases r with
 |nil=>exact h.elim
 | cons r0 t =>
  refine⟨_,_,rfl,?_⟩;have:=q _ (σ.set i (some _)) H Pr _ _ k (by simpa using hl) ((E.cons_d r0).store (by rw[hl];exact(k4.mp hi).1)) t h;rw[List.drop_set_of_lt hn]at this;exact this
theorem ue{is:List Nat}{k n:Nat}(hc:X.calm=true)(h:M9 X es n is)(hn:(assignEach es X.env).length=is.length:=by rfl)(hst:(assignEach es X.env).findIdx? (·.1)=none:=by rfl):QW X (.Tuple es k pos) n (eY is):=by
 obtain⟨gg,hg,fI,q⟩:=h;refine⟨_,Hs hc hg hn hst,λv σ H Pr Z x k hl E r h=>?_⟩
 cases r with
 |tup hs rs=>exact⟨_,_,rfl,hs,by rw[rs.length];exact k6 h,q _ σ H Pr Z _ k hl E rs h⟩
 |_=>exact h.elim
def NI(i:Nat)(te:W L):W L:=λZ kz=>t9 i Z λ_ _=>te Z λr Z1=>match r with
 |.own _ ys=>t9 i Z1 λa xs=>xs.length+ys.length<=sizeLine/\kz (.d .non) (Z1.set i (.own a (xs++ys)))
 |_=>False
theorem CT(i:Nat)(he:PL X e te)(hN:X.N[i]?=some x:=by rfl)(hv:PQ X.env.scope x:=by first | exact Or.inl rfl | exact Or.inr (Or.inl rfl) | exact Or.inr (Or.inr rfl)) (hd:(x == ("__debug__" : Str))=false:=by decide)
  (hcd:(x == ("__classdict__" : Str))=false:=by decide) (hs1:starEach [e] X.env=[(false,eval e X.env)]:=by rfl) (hbase:attributeBase (.Name x p) "extend" X.env (eval (.Name x p) X.env)=eval (.Name x p) X.env:=by rfl)
  (hfew:((backTo cpos (starEach [e] X.env)).all (λx=>!x.1) && (backToKw cpos (keywordEach [] X.env)).all (λx=>x.1.isSome)
   && decide (([e]).length+([]:List Keyword).length+(if([]:List Keyword).isEmpty then 0 else 1)<30))=true:=by rfl)
  (hline:(apos.endLine == cpos.line)=true:=by rfl) (hplain:(backTo cpos (starEach ([]:List Expr) X.env)).any (·.1)=false:=by rfl) :
  PL X (.Call (.Attribute (.Name x p) "extend" apos) [e] [] cpos) (NI i te):=by
 refine PL.of (Ft PySem.F.plainAttrs_list PySem.F.slot_list_extend PySem.F.type_list_extend Cm (d4 hN hv hd hcd) (eD he.pe mi hs1) (hbase:=hbase) (hfew:=hfew) (hline:=hline) (hs:=hs1) (hplain:=hplain)) λσ H Pr Z kz E h=>?_;obtain⟨l,xs0,q0,h⟩:=dM h;obtain⟨hσ,vs0,hl0,_⟩:=E.ownAt q0
 refine⟨.ref l,hσ,.inl ⟨rfl,vs0,P0.of hl0⟩,Pr,Z,λr Z1=>match r with
  |.own _ ys=>t9 i Z1 λa xs=>xs.length+ys.length<=sizeLine/\kz (.d .non) (Z1.set i (.own a (xs++ys)))
  |_=>False,E,h,λv H' r Z' E' pp=>?_⟩
 cases r with
 | own bb ys =>
  obtain⟨l',xs,q,fI,pp⟩:=dM pp;obtain⟨hσ',vs,hl,r⟩:=E'.tail.ownAt q;rw[hσ]at hσ';cases hσ';have sl:=E'.sl
  cases sl with
  | cons q0 t =>
   obtain⟨e1,ws,hb,rw'⟩:=q0;cases e1;exact⟨l,bb,vs,ws,rfl,rfl,hl,hb,by rw[r.length,rw'.length];exact fI,_,_,(E'.tail.updOwn q (r.append rw')).cons_d .non,pp⟩
 |_=>exact pp.elim
def NJ(i:Nat):W L:=λZ kz=>t9 i Z λa xs=>∃y,xs[xs.length-1]?=some y/\kz (.d y) (Z.set i (.own a xs.dropLast))
theorem bL.dropLast{K:PySem.W.Frag}{H:Hp}:∀{vs:List V}{ds:List D},bL K H vs ds->bL K H vs.dropLast ds.dropLast
 |_,_,.nil=>.nil
 |_,_,.cons r .nil=>.nil
 |_,_,.cons r (.cons q t)=>.cons r (bL.dropLast (.cons q t))
theorem LM(i:Nat)(hN:X.N[i]?=some x:=by rfl)(hv:PQ X.env.scope x:=by first | exact Or.inl rfl | exact Or.inr (Or.inl rfl) | exact Or.inr (Or.inr rfl)) (hd:(x == ("__debug__" : Str))=false:=by decide)
  (hcd:(x == ("__classdict__" : Str))=false:=by decide) (hbase:attributeBase (.Name x p) "pop" X.env (eval (.Name x p) X.env)=eval (.Name x p) X.env:=by rfl)
  (hline:(apos.endLine == cpos.line)=true:=by rfl) :
  PL X (.Call (.Attribute (.Name x p) "pop" apos) [] [] cpos) (NJ i):=by
 refine PL.of (Lg PySem.F.plainAttrs_list PySem.F.slot_list_pop PySem.F.type_list_pop Lh (d4 hN hv hd hcd) (hbase:=hbase) (hline:=hline)) λσ H Pr Z kz E h=>?_;obtain⟨l,xs,q,y,hy,h⟩:=dM h;obtain⟨hσ,vs,hl,r⟩:=E.ownAt q;obtain⟨v,hv',rv⟩:=r.get hy;have E2:=E.updOwn q r.dropLast;refine⟨.ref l,hσ,.inl ⟨rfl,vs,P0.of hl⟩,l,vs,v,rfl,rfl,hl,by rw[r.length];exact hv',_,_,E2.cons_d (rv.pres λb u hp e=>?_),h⟩;by_cases hb:b=l
 . subst hb;rw[hl]at e;cases e;exact hp.elim
 . rw[aE hb];exact e
end
end L2
namespace L2
open PySem PySem.Spec PyProof.Rows
mutual
noncomputable def noL:D->Bool
 |.lst _=>false
 |.dct _=>false
 |.exc _ _ _=>false
 |.fn _ _=>false
 |.tup xs=>gH xs
 |_=>true
noncomputable def gH:List D->Bool
 |[]=>true
 |x::xs=>noL x && gH xs
end
mutual
noncomputable def ku:L->Bool
 |.un=>true
 |.d x=>noL x
 |.own _ xs=>gH xs
 |.bx _ ls=>qX ls
 |.dic _ kvs=>kvs.all λp=>noL p.2
noncomputable def qX:List L->Bool
 |[]=>true
 |l::ls=>ku l && qX ls
end
theorem yR:ku .un=true:=by simp[ku]
theorem LN(x:D):ku (.d x)=noL x:=by simp[ku]
theorem FT(a:Addr)(xs:List D):ku (.own a xs)=gH xs:=by simp[ku]
theorem Jf(a:Option Addr)(ls:List L):ku (.bx a ls)=qX ls:=by simp[ku]
theorem FU(a:Addr)(kvs:List (Pz×D)):ku (.dic a kvs)=kvs.all λp=>noL p.2:=by simp[ku]
theorem CU:qX []=true:=by simp[qX]
theorem Bq(l:L)(ls:List L):qX (l::ls)=(ku l && qX ls):=by simp[qX]
section
variable{X:Cx}{ab:List (Addr×Obj)}{σ:St}{H:Hp}{s:Shared}
theorem PU.thaw{a:Addr}{o:Obj}{xs:List V}(I:PU X ab σ H s)(h:H a=some (.frz o (.lst xs)))(h0:∀o u,X.H₀ a≠some (.frz o u)):PU X ab σ (PD H a (.lst xs)) s:=by
 have ne:∀b,H b=none->b≠a:=λb n e=>by subst e;rw[h]at n;cases n
 have nt:∀b xs,H b=some (.tup xs)->b≠a:=λb xs n e=>by subst e;rw[h]at n;cases n
 have no:∀b z,H b=some (.own z)->b≠a:=λb z n e=>by subst e;rw[h]at n;cases n
 have nf:∀b o,H b=some (.frz o (.own b))->b≠a:=λb o n e=>by subst e;rw[h]at n;cases n
 have nw:=(I.hok a _ h).2;refine⟨I.ok,I.os,I.bare,⟨I.base.keep,I.base.slot,λb ob e n hx=>?_,I.base.there,λb xs e=>?_,λb ob z e=>?_,λb ps e=>?_⟩,I.loc,I.cell,?_,λx c e=>?_,λp hp=>?_,λb z e=>?_,I.len⟩
 . have q:=I.base.free b ob e n hx;rw[aE (ne b q)];exact q
 . have q:=I.base.tups b xs e;rw[aE (nt b xs q)];exact q
 . have q:=I.base.frzs b ob z e;rw[aE (λy=>by subst y;exact h0 _ _ e)];exact q
 . have q:=I.base.tbls b ps e;rw[aE (λz=>by subst z;rw[h]at q;cases q)];exact q
 . rw[aE (ne _ I.free)];exact I.free
 .
  rcases I.freeC x c e with z|⟨hf,o,z⟩
  . exact .inl (by rw[aE (ne _ z)];exact z)
  . exact .inr ⟨hf,o,by rw[aE (nf _ _ z)];exact z⟩
 . obtain⟨e,n,r⟩:=I.pin p hp;exact⟨e,by rw[aE (ne _ n)];exact n,r⟩
 .
  by_cases hb:b=a
  . subst hb;rw[bG]at e;cases e;exact nw.stay (λc v _ q=>q) (λc q=>by rw[aE (no c _ q)];exact q) (λc xs q=>by rw[aE (nt c xs q)];exact q) λc ob _ _ q=>by rw[aE (nf c ob q)];exact q
  . rw[aE hb]at e;exact(I.hok b z e).stay (λc v _ q=>q) (λc q=>by rw[aE (no c _ q)];exact q) (λc xs q=>by rw[aE (nt c xs q)];exact q) λc ob _ _ q=>by rw[aE (nf c ob q)];exact q
end
def kv(H' H2:Hp)(S:List Addr):Prop:=(∀b,b∉S->H2 b=H' b)/\(∀a∈S,∃o vs,H' a=some (.frz o (.lst vs))/\H2 a=some (.lst vs))
theorem CV{X:Cx}{ab:List (Addr×Obj)}{σ:St}{s:Shared}:∀(S:List Addr){H:Hp},S.Nodup->PU X ab σ H s->(∀a∈S,∃o vs,H a=some (.frz o (.lst vs)))->(∀a∈S,∀o u,X.H₀ a≠some (.frz o u))->∃H2,PU X ab σ H2 s/\kv H H2 S
 |[],H,_,I,_,_=>⟨H,I,λ_ _=>rfl,λ_ h=>by simp at h⟩
 | a::S,H,nd,I,h,h0=>by
  obtain⟨na,nd⟩:=List.nodup_cons.mp nd;obtain⟨o,vs,ea⟩:=h a tv;have I1:=I.thaw ea (h0 a tv)
  obtain⟨H2,I2,T1,T2⟩:=CV S nd I1 (λb hb=>by
   obtain⟨o,us,e⟩:=h b (k5 _ hb)
   exact⟨o,us,by rw[aE (λz:b=a=>na (by rw[<- z];exact hb))];exact e⟩) λb hb=>h0 b (k5 _ hb)
  refine⟨H2,I2,λb hb=>?_,λb hb=>?_⟩
  . rw[T1 b (λz=>hb (k5 _ z)),aE (λz:b=a=>hb (by rw[z];exact tv))]
  .
   rcases Uq.mp hb with rfl|hb
   . exact⟨o,vs,ea,by rw[T1 b na,bG]⟩
   . obtain⟨o',us,e1,e2⟩:=T2 b hb;rw[aE (λz:b=a=>na (by rw[<- z];exact hb))]at e1;exact⟨o',us,e1,e2⟩
section
variable{K:PySem.W.Frag}{H' H2:Hp}{S:List Addr}
mutual
theorem QC.thaw(T:kv H' H2 S):∀{v:V}{d:D},noL d=true->QC K H' v d->QC K H2 v d
 |_,_,_,.non=>.non
 |_,_,_,.bl b=>.bl b
 |_,_,_,.int i=>.int i
 |_,_,_,.str x=>.str x
 | _,_,h,.tup hs r=>by
  refine .tup ?_ (bL.thaw T (by simpa[noL]using h) r)
  rcases hs with(e|⟨u,e⟩)|e
  .
   exact .inl (.inl (by rw[T.1 _ λz=>by obtain⟨o,vs,e1,_⟩:=T.2 _ z;rw[e1]at e;cases e];exact e))
  .
   exact .inl (.inr ⟨u,by rw[T.1 _ λz=>by obtain⟨o,vs,e1,_⟩:=T.2 _ z;rw[e1]at e;cases e];exact e⟩)
  .
   exact .inr e
 |_,_,h,.lst hs r=>by simp[noL]at h
 |_,_,h,.dct e=>by simp[noL]at h
 |_,_,h,.exc _ _ _ _ _ _ _ _=>by simp[noL]at h
 |_,_,h,.fn _ _ _ _ _ _ _ _ _=>by simp[noL]at h
theorem bL.thaw(T:kv H' H2 S):∀{vs:List V}{ds:List D},gH ds=true->bL K H' vs ds->bL K H2 vs ds
 |_,_,_,.nil=>.nil
 | _,_,h,.cons r t=>by
  simp only[gH,Bool.and_eq_true]at h
  exact .cons (QC.thaw T h.1 r) (bL.thaw T h.2 t)
end
theorem kv.lst(T:kv H' H2 S){a:Addr}{vs:List V}(h:H' a=some (.lst vs)):a∉S/\H2 a=some (.lst vs):=by
 have n:a∉S:=λz=>by obtain⟨o,us,e,_⟩:=T.2 a z;rw[h]at e;cases e
 exact⟨n,(T.1 a n).trans h⟩
theorem kv.tup(T:kv H' H2 S){a:Addr}{vs:List V}(h:P1 K H' a vs):P1 K H2 a vs:=by
 rcases h with(e|⟨u,e⟩)|e
 . exact .inl (.inl (by rw[T.1 _ λz=>by obtain⟨o,vs,e1,_⟩:=T.2 _ z;rw[e1]at e;cases e];exact e))
 . exact .inl (.inr ⟨u,by rw[T.1 _ λz=>by obtain⟨o,vs,e1,_⟩:=T.2 _ z;rw[e1]at e;cases e];exact e⟩)
 . exact .inr e
mutual
theorem a6.thaw(T:kv H' H2 S):∀{s:Option V}(l:L),ku l=true->a6 K H' s l->a6 K H2 s l
 |_,.un,_,_=>by unfold a6;exact True.intro
 | _,.d x,h,q=>by
  unfold a6 at q ⊢
  obtain⟨v,e,r⟩:=q
  exact⟨v,e,r.thaw T (by simpa[ku]using h)⟩
 | _,.own a xs,h,q=>by
  unfold a6 at q ⊢
  obtain⟨e,vs,ha,r⟩:=q
  exact⟨e,vs,(T.lst ha).2,r.thaw T (by simpa[ku]using h)⟩
 | _,.bx none ls,h,q=>by
  unfold a6 at q ⊢
  obtain⟨a,vs,e,ha,r⟩:=q
  exact⟨a,vs,e,T.tup ha,bY.thaw T ls (by simpa[ku]using h) r⟩
 | _,.bx (some a) ls,h,q=>by
  unfold a6 at q ⊢
  obtain⟨e,vs,ha,r⟩:=q
  exact⟨e,vs,(T.lst ha).2,bY.thaw T ls (by simpa[ku]using h) r⟩
 | _,.dic a kvs,h,q=>by
  unfold a6 at q ⊢
  obtain⟨e,vs,ha,r⟩:=q
  have h':∀p∈kvs,noL p.2=true:=by simpa[ku]using h
  refine⟨e,vs,?_,Paired.impMem r λp hp q z=>⟨z.1,z.2.thaw T (h' p hp)⟩⟩
  rw[T.1 a λz=>by obtain⟨o,us,e1,_⟩:=T.2 _ z;rw[e1]at ha;cases ha]
  exact ha
theorem bY.thaw(T:kv H' H2 S):∀{vs:List V}(ls:List L),qX ls=true->bY K H' vs ls->bY K H2 vs ls
 |_,[],_,q=>by unfold bY at q ⊢;exact q
 | _,l::ls,h,q=>by
  unfold bY at q ⊢
  simp only[qX,Bool.and_eq_true]at h
  obtain⟨v,us,e,h1,h2⟩:=q
  exact⟨v,us,e,a6.thaw T l h.1 h1,bY.thaw T ls h.2 h2⟩
end
end
noncomputable def ki:L->Bool
 |.d _=>true
 |l=>ku l
theorem FV:ki .un=true:=by simp[ki,ku]
theorem Jg(x:D):ki (.d x)=true:=rfl
theorem CW(a:Addr)(xs:List D):ki (.own a xs)=gH xs:=by simp[ki,ku]
theorem CY(a:Addr)(kvs:List (Pz×D)):ki (.dic a kvs)=kvs.all λp=>noL p.2:=by simp[ki,ku]
theorem FW(a:Option Addr)(ls:List L):ki (.bx a ls)=qX ls:=by simp[ki,ku]
noncomputable def dh(i:Nat)(Z:Ev):Bool:=(Z.set i .un).all ki
theorem uf{K:PySem.W.Frag}{H0 H' H2:Hp}{S:List Addr}(T:kv H' H2 S)(p:sT H0 H2):∀{σ:St}{Z Z0:Ev},Z.length=Z0.length ->
  (∀(j:Nat)(l:L),Z[j]?=some l->ku l=true∨∃x,l=.d x/\Z0[j]?=some (.d x))->Paired (a6 K H0) σ Z0->Paired (a6 K H') σ Z->Paired (a6 K H2) σ Z
 |[],[],_,_,_,_,_=>.nil
 | s::σ,l::Z,l0::Z0,hl,h,.cons q0 t0,.cons q t=>by
  refine .cons ?_ (uf T p (by simpa using hl) (λj l e=>h (j+1) l e) t0 t);rcases h 0 l rfl with hh|⟨x,rfl,e⟩
  . exact q.thaw T l hh
  .
   have e:l0=.d x:=by simpa using e
   subst e;exact q0.pres p (.d x) λa ha=>by simp[a9]at ha
 |[],_::_,_,_,_,_,t=>nomatch t
 |_::_,[],_,_,_,_,t=>nomatch t
mutual
theorem a6.lsts{K:PySem.W.Frag}{H:Hp}:∀{s:Option V}(l:L){x:D},a6 K H s l->bE l=some x->∀a∈a9 l,∃vs,H a=some (.lst vs)
 |_,.un,_,_,_,a,ha=>by simp[a9]at ha
 |_,.d x,_,_,_,a,ha=>by simp[a9]at ha
 |_,.dic _ _,_,_,h,_,_=>by simp[bE]at h
 | _,.own b xs,_,h,_,a,ha=>by
  simp only[a6]at h
  have e:a=b:=by simpa[a9]using ha
  subst e
  obtain⟨_,vs,q,_⟩:=h
  exact⟨_,q⟩
 | _,.bx none ls,_,h,hx,a,ha=>by
  simp only[a6]at h
  simp only[bE,Option.map_eq_some_iff]at hx
  obtain⟨xs,hx,_⟩:=hx
  obtain⟨b,vs,e,_,r⟩:=h
  exact bY.lsts ls r hx a (by simpa[a9]using ha)
 | _,.bx (some b) ls,_,h,hx,a,ha=>by
  simp only[a6]at h
  simp only[bE,Option.map_eq_some_iff]at hx
  obtain⟨xs,hx,_⟩:=hx
  obtain⟨e,vs,q,r⟩:=h
  rcases(by simpa[a9]using ha:a=b∨a∈d6 ls)with z|z
  .
   subst z;exact⟨_,q⟩
  .
   exact bY.lsts ls r hx a z
theorem bY.lsts{K:PySem.W.Frag}{H:Hp}:∀{vs:List V}(ls:List L){xs:List D},bY K H vs ls->cz ls=some xs->∀a∈d6 ls,∃vs,H a=some (.lst vs)
 |_,[],_,_,_,a,ha=>by simp[d6]at ha
 | _,l::ls,_,h,hx,a,ha=>by
  simp only[bY]at h
  obtain⟨v,us,e,h1,h2⟩:=h
  simp only[cz]at hx
  split at hx
  .
   rename_i x1 xs1 e1 e2
   rcases(by simpa[d6]using ha:a∈a9 l∨a∈d6 ls)with z|z
   .
    exact a6.lsts l h1 e1 a z
   .
    exact bY.lsts ls h2 e2 a z
  .
   cases hx
end
theorem wZ{X:Cx}{ab:List (Addr×Obj)}{σ0:St}{s s1:Shared}{Pr H H1 H':Hp}{σ τ:St}{Z lam:Ev}{i:Nat}{k:L}{x:D}{v:Option V}(I:PU X ab σ0 H s)(E:aA X.K Pr H σ Z)(hi:Z[i]?=some k)(hSa:∀a∈a9 k,∃vs,H a=some (.lst vs))(F:o9 H H1 (a9 k))(hfl:dh i Z=true)
  (I':PU X ab σ0 H' s1) (E1:aA X.K Pr H1 σ (Z.set i (.d x))) (E':aA X.K (bq H1 (Z.set i (.d x))) H' (τ++σ) (lam++Z.set i (.d x))) (fI:τ.length=lam.length) (hr:lam.all ku=true):∃H2,PU X ab σ0 H2 s1/\aA X.K Pr H2 (τ++σ) (lam++Z):=by
 have hil:i<Z.length:=(k4.mp hi).1;have prm:=gJ hi (l:=.d x) rfl;have hnd:(a9 k++owns (Z.set i (.d x))).Nodup:=prm.nodup_iff.mp E.nd;obtain⟨nd1,nd2,nd3⟩:=List.nodup_append.mp hnd;have hna:∀a∈a9 k,a∉owns (Z.set i (.d x)):=λa ha z=>nd3 a ha a z rfl;have hb:∀b u,H1 b=some u->b∉owns (Z.set i (.d x))->H' b=some u:=λb u e hno=>by refine E'.sub b u ?_;unfold bq;rw[if_neg hno];exact e
 have hS:∀a∈a9 k,∃o vs,H' a=some (.frz o (.lst vs)):=λa ha=>by obtain⟨vs,e⟩:=hSa a ha;obtain⟨o,eo⟩:=F.2.2 a ha vs e;exact⟨o,vs,hb a _ eo (hna a ha)⟩
 obtain⟨H2,I2,T⟩:=CV (a9 k) nd1 I' hS λa ha o u e=>by have z:=I.base.frzs a o u e;obtain⟨vs,q⟩:=hSa a ha;rw[q]at z;cases z
 have back:∀a∈a9 k,H2 a=H a:=λa ha=>by obtain⟨vs,e⟩:=hSa a ha;obtain⟨o,eo⟩:=F.2.2 a ha vs e;obtain⟨o',vs',e1,e2⟩:=T.2 a ha;rw[hb a _ eo (hna a ha)]at e1;cases e1;rw[e2,e]
 have P:sT H H2:=λb u hp e=>by
  have hno:b∉owns Z:=λz=>by obtain⟨ws,hz,mu⟩:=E.at_own z;rw[hz]at e;cases e;exact mu.no hp
  have hnk:b∉a9 k:=λz=>hno (prm.mem_iff.mpr (List.mem_append_left _ z));rw[T.1 b hnk];exact hb b u (F.1 b u hp e) λz=>hno (prm.mem_iff.mpr (List.mem_append_right _ z))
 obtain⟨sl1,sl2⟩:=Paired.unapp fI E'.sl;have ndE:=E'.nd;rw[aD]at ndE;obtain⟨ne1,ne2,ne3⟩:=List.nodup_append.mp ndE
 have lamS:∀a∈owns lam,a∉a9 k/\Pr a=none/\a∉owns (Z.set i (.d x)):=λa ha=>by
  obtain⟨vs,e,mu⟩:=E'.at_own (a:=a) (by rw[aD];exact List.mem_append_left _ ha);have h1:a∉a9 k:=λz=>by obtain⟨o,us,e1,_⟩:=T.2 _ z;rw[e1]at e;cases e;exact mu
  have h3:a∉owns (Z.set i (.d x)):=λz=>ne3 a ha a z rfl;refine⟨h1,?_,h3⟩;have hoff:=E'.off a (by rw[aD];exact List.mem_append_left _ ha);unfold bq at hoff;rw[if_neg h3]at hoff
  cases ep:Pr a with
  |none=>rfl
  |some w=>rw[E1.sub a w ep]at hoff;cases hoff
 have slt:Paired (a6 X.K H2) σ (Z.set i .un):=by
  have q:Paired (a6 X.K H') σ (Z.set i .un):=by have:=(Paired.set_r (b:=L.un) i sl2 λ_ _=>by unfold a6;exact True.intro);rwa [List.set_set]at this
  refine uf T P (Z0:=Z) x_ (λj l e=>?_) E.sl q;by_cases hj:j=i
  . subst hj;rw[List.getElem?_set_self hil]at e;cases e;exact .inl yR
  .
   have h1:=List.all_eq_true.mp hfl l (List.mem_of_getElem? (i:=j) e);rw[List.getElem?_set_ne (Ne.symm hj)]at e
   cases l with
   |un=>exact .inl yR
   |d y=>exact .inr ⟨y,rfl,e⟩
   |own b ys=>exact .inl h1
   |bx b ls=>exact .inl h1
   |dic b ls=>exact .inl h1
 have slr:Paired (a6 X.K H2) τ lam:=Paired.impMem sl1 λl hl s q=>q.thaw T l (List.all_eq_true.mp hr l hl);refine⟨H2,I2,λb u e=>?_,?_,λb hbm=>?_,Paired.app slr ?_⟩
 .
  have hno:b∉owns Z:=λz=>by have:=E.off b z;rw[e]at this;cases this
  have hnk:b∉a9 k:=λz=>hno (prm.mem_iff.mpr (List.mem_append_left _ z));rw[T.1 b hnk];refine hb b u ?_ λz=>hno (prm.mem_iff.mpr (List.mem_append_right _ z));rw[F.2.1 b hnk];exact E.sub b u e
 .
  rw[aD,List.nodup_append];refine⟨ne1,E.nd,λc hc d hd z=>?_⟩;subst z;obtain⟨h1,h2,h3⟩:=lamS c hc;rcases List.mem_append.mp (prm.mem_iff.mp hd)with z|z
  . exact h1 z
  . exact h3 z
 .
  rw[aD]at hbm;rcases List.mem_append.mp hbm with z|z
  . exact(lamS b z).2.1
  . exact E.off b z
 .
  obtain⟨sv,hs,q⟩:=E.slot hi;have:=Paired.set_r (b:=k) i slt λs es=>by rw[hs]at es;cases es;exact q.pres P k back
  rw[List.set_set]at this
  have e2:Z.set i k=Z:=by
   refine List.ext_getElem? λj=>?_;by_cases hj:j=i
   . subst hj;rw[List.getElem?_set_self hil,hi]
   . rw[List.getElem?_set_ne (Ne.symm hj)]
  rwa [e2]at this
def Q6(o:Option L)(i:Nat)(t:W L)(Z:Ev)(kz:L->Ev->Prop):Prop:=match o with
 |some (.own _ xs)=>dh i Z=true/\t (Z.set i (.d (.lst xs))) λr Z'=>ku r=true/\Z'=Z.set i (.d (.lst xs))/\kz r Z
 |some (.bx b ls)=>dh i Z=true/\Be b ls λx=>t (Z.set i (.d x)) λr Z'=>ku r=true/\Z'=Z.set i (.d x)/\kz r Z
 |_=>t Z kz
def u5(i:Nat)(t:W L):W L:=λZ kz=>Q6 Z[i]? i t Z kz
theorem Jh(a:Addr)(xs:List D)(i:Nat)(t:W L)(Z:Ev)(kz:L->Ev->Prop):Q6 (some (.own a xs)) i t Z kz=(dh i Z=true/\t (Z.set i (.d (.lst xs))) λr Z'=>ku r=true/\Z'=Z.set i (.d (.lst xs))/\kz r Z):=(rfl)
theorem LO(b:Option Addr)(ls:List L)(i:Nat)(t:W L)(Z:Ev)(kz:L->Ev->Prop):Q6 (some (.bx b ls)) i t Z kz=(dh i Z=true/\Be b ls λx=>t (Z.set i (.d x)) λr Z'=>ku r=true/\Z'=Z.set i (.d x)/\kz r Z):=(rfl)
theorem NK(x:D)(i:Nat)(t:W L)(Z:Ev)(kz:L->Ev->Prop):Q6 (some (.d x)) i t Z kz=t Z kz:=(rfl)
theorem CZ{X:Cx}{ab:List (Addr×Obj)}{s:Shared}{σ:St}{H Pr:Hp}{Z:Ev}{i:Nat}{k:L}{x:D}(I:PU X ab σ H s)(E:aA X.K Pr H σ Z)(hi:Z[i]?=some k)(hx:bE k=some x):∃H1,PU X ab σ H1 s/\aA X.K Pr H1 σ (Z.set i (.d x))/\o9 H H1 (a9 k)/\∀a∈a9 k,∃vs,H a=some (.lst vs):=by obtain⟨sv,hs,sl⟩:=E.slot hi;obtain⟨H1,I1,E1,F⟩:=Ll k I (E.outL hi hs) hx;have hil:i<Z.length:=(k4.mp hi).1;have E2:=E1.back (i:=i) (by rw[List.getElem?_set_self hil]) hs;rw[List.set_set]at E2;exact⟨H1,I1,E2,F,sl.lsts k hx⟩
theorem oi{X:Cx}{e:Expr}(i:Nat){t:W L}(h:PL X e t):PL X e (u5 i t):=by
 intro ab s σ H Pr Z kz I E hw;have go:∀(k:L)(x:D),Z[i]?=some k->bE k=some x->dh i Z=true->(t (Z.set i (.d x)) λr Z'=>ku r=true/\Z'=Z.set i (.d x)/\kz r Z)->wpAny (model X.prog X.w) X.A (eval e X.env) (EL X ab σ Pr kz) X.xe s:=by intro k x hi hx hfl hw;obtain⟨H1,I1,E1,F,Sa⟩:=CZ I E hi hx;refine PX (h ab s σ _ _ _ _ I1 E1.wide hw) λu s1 ⟨v,H',r,Z',I',rv,E',hr,eρ,hp⟩=>?_;subst eρ;obtain⟨H2,I2,E2⟩:=wZ (τ:=[some v]) (lam:=[r]) (v:=some v) I E hi Sa F hfl I' E1 E' rfl (by simpa using hr);exact⟨v,H2,r,Z,I2,rv,E2,hp⟩
 unfold u5 Q6 at hw;split at hw
 . rename_i a xs hi;exact go _ _ hi rfl hw.1 hw.2
 . rename_i b ls hi;obtain⟨x,hx,hw'⟩:=uO hw.2;exact go _ _ hi hx hw.1 hw'
 . exact h ab s σ H Pr Z kz I E hw
def Q7(o:Option L)(i:Nat)(t:W Bool)(Z:Ev)(kz:Bool->Ev->Prop):Prop:=match o with
 |some (.own _ xs)=>dh i Z=true/\t (Z.set i (.d (.lst xs))) λr Z'=>Z'=Z.set i (.d (.lst xs))/\kz r Z
 |some (.bx b ls)=>dh i Z=true/\Be b ls λx=>t (Z.set i (.d x)) λr Z'=>Z'=Z.set i (.d x)/\kz r Z
 |_=>t Z kz
def w4(i:Nat)(t:W Bool):W Bool:=λZ kz=>Q7 Z[i]? i t Z kz
theorem Ji(a:Addr)(xs:List D)(i:Nat)(t:W Bool)(Z:Ev)(kz:Bool->Ev->Prop):Q7 (some (.own a xs)) i t Z kz=(dh i Z=true/\t (Z.set i (.d (.lst xs))) λr Z'=>Z'=Z.set i (.d (.lst xs))/\kz r Z):=(rfl)
theorem LP(b:Option Addr)(ls:List L)(i:Nat)(t:W Bool)(Z:Ev)(kz:Bool->Ev->Prop):Q7 (some (.bx b ls)) i t Z kz=(dh i Z=true/\Be b ls λx=>t (Z.set i (.d x)) λr Z'=>Z'=Z.set i (.d x)/\kz r Z):=(rfl)
theorem NL(x:D)(i:Nat)(t:W Bool)(Z:Ev)(kz:Bool->Ev->Prop):Q7 (some (.d x)) i t Z kz=t Z kz:=(rfl)
theorem C0{X:Cx}{e:Expr}(i:Nat){t:W Bool}(h:PB X e t):PB X e (w4 i t):=by
 intro ab s σ H Pr Z kz I E hw;have go:∀(k:L)(x:D),Z[i]?=some k->bE k=some x->dh i Z=true->(t (Z.set i (.d x)) λr Z'=>Z'=Z.set i (.d x)/\kz r Z)->wpAny (model X.prog X.w) X.A (isTrue e X.env (eval e X.env)) (EB X ab σ Pr kz) X.xe s:=by intro k x hi hx hfl hw;obtain⟨H1,I1,E1,F,Sa⟩:=CZ I E hi hx;refine PX (h ab s σ _ _ _ _ I1 E1.wide hw) λu s1 ⟨H',Z',I',E',eρ,hp⟩=>?_;subst eρ;obtain⟨H2,I2,E2⟩:=wZ (τ:=[]) (lam:=[]) (v:=none) I E hi Sa F hfl I' E1 E' rfl rfl;exact⟨H2,Z,I2,E2,hp⟩
 unfold w4 Q7 at hw;split at hw
 . rename_i a xs hi;exact go _ _ hi rfl hw.1 hw.2
 . rename_i b ls hi;obtain⟨x,hx,hw'⟩:=uO hw.2;exact go _ _ hi hx hw.1 hw'
 . exact h ab s σ H Pr Z kz I E hw
variable{X:Cx}
variable{X:Cx}
theorem Ax:∀{ns:List Int}{us:List Value},ck (ns.map V.int) us->IntsAre us ns
 |[],_,r=>by cases r;exact .nil
 | n::ns,_,r=>by
  cases r with
  | cons r0 rs =>
   obtain⟨t,rfl⟩:=r0;exact .cons n t (Ax rs)
theorem w5(hc:X.calm=true):iX X (.builtin "sum") (λxs H Q=>∃(p:Addr)(ns:List Int),xs=[.ref p]/\P0 X.K H p (ns.map V.int)/\Q (.int ns.sum) H):=by
 intro ab s σ H xs us Q I r h;obtain⟨p,ns,rfl,hq,q⟩:=h;obtain⟨u,rfl,rx⟩:=sY r;cases rx;obtain⟨its,r',pl,hz⟩:=I.list hq;have hi:=Ax r';obtain⟨xs,hx⟩:=hi.allInts.items;have hl':s.heap.IsList p (intItems xs):=hx ▸ pl.isList;refine sum_intListG (I.ok.hd hc) hl' λh' tk t' hk=>?_;have e1:ns=xs.toList.map (·.1):=by rw[<- nums_intItems,<- hx];exact(show numsOf its.toArray.toList=ns from hi.numsOf).symm
 have e2:preSum (numAt xs) xs.size=ns.sum:=by rw[preSum_eq,List.take_of_length_le x_,e1]
 rw[e2];exact⟨.int ns.sum,H,I.kept hk,⟨_,rfl⟩,q⟩
theorem pf{K:PySem.W.Frag}{H:Hp}:∀{vs:List V}{ns:List Int},bL K H vs (ns.map D.int)->vs=ns.map V.int
 |_,[],r=>by cases r;rfl
 | _,n::ns,r=>by
  cases r with
  | cons r0 rs =>
   cases r0;rw[pf rs];rfl
def LQ:QT:=λds k=>∃ns:List Int,ds=[.lst (ns.map D.int)]/\k (.d (.int ns.sum))
theorem LR(hc:X.calm=true):fO X (.builtin "sum") LQ:=fO.of (w5 hc) λσ H Pr Z vs ds kz E ps ⟨ns,e,h⟩=>by
 subst e;obtain⟨v,rfl,r⟩:=qP ps
 cases r with
 | lst hz rs =>
  have:=pf rs;subst this;exact⟨_,ns,rfl,hz.l,_,E.cons_d (.int _),h⟩
variable{X:Cx}
section
variable{X:Cx}{e a b c:Expr}{es:List Expr}{pos p p2:Pos}{ta:W L}{x y:Str}
def ph:List (QG×W L)->D->W L
 |[],_=>λ_ _=>False
 |[(o,t)],dx=>λZ kz=>t Z λy Z1=>QF y λdy=>o dx dy λr=>B3 r λk=>kz (.d (.bl k)) Z1
 |(o,t)::q::r,dx=>λZ kz=>t Z λy Z1=>QF y λdy=>o dx dy λz=>B3 z λk=>if k=true then ph (q::r) dy Z1 kz else kz (.d (.bl false)) Z1
def yS(ta:W L)(ls:List (QG×W L)):W L:=λZ kz=>ta Z λx Z1=>QF x λdx=>ph ls dx Z1 kz
inductive w7 (X:Cx):List CmpOp->List Expr->List (QG×W L)->Prop where
 |one {op:CmpOp} {e:Expr} {o:QG} {t:W L} (ho:QH X (compareOp op) o) (h:PL X e t):w7 X [op] [e] [(o,t)]
 |cons {op:CmpOp} {e:Expr} {o:QG} {t:W L} {ops:List CmpOp} {es:List Expr} {ls:List (QG×W L)} (ho:QH X (compareOp op) o) (h:PL X e t) (r:w7 X ops es ls):w7 X (op::ops) (e::es) ((o,t)::ls)
theorem u6{op:CmpOp}{o:QG}{ab:List (Addr×Obj)}{s:Shared}{σ:St}{H Pr:Hp}{Z:Ev}{v:V}{u:Value}{dx:D}{R:Bool->D->Ev->Prop}{t:W L}{Q:Value->Value->Shared->Prop}(ho:QH X (compareOp op) o)(h:PL X e t)
  (I:PU X ab σ H s) (rv:cJ v u) (E:aA X.K Pr H (some v::σ) (.d dx::Z)) (ht:t Z λy Z1=>QF y λdy=>o dx dy λr=>B3 r λk=>R k dy Z1)
  (hQ:∀u2 s3 w2 dy H3 Z1 k,PU X ab σ H3 s3->cJ w2 u2->aA X.K Pr H3 (some w2::σ) (.d dy::Z1)->R k dy Z1->Q u2 (.bool k) s3) :
  wpAny (model X.prog X.w) X.A (eval e X.env) (λb s₁=>wpAny (model X.prog X.w) X.A (compareOp op u b) (λc s₂=>Q b c s₂) X.xe s₁) X.xe s:=by
 refine PX (h ab s σ H _ Z _ I E.tail.wide ht) λu2 s2 q=>?_;obtain⟨y,H2,dy,Z2,I2,r2,E2,q2⟩:=EL.frz (kz:=λdy Z1=>o dx dy λr=>B3 r λk=>R k dy Z1) q;have E3:aA X.K Pr H2 (some y::some v::σ) (.d dy::.d dx::Z2):=aA.step (τ:=[some v]) (lam:=[.d dx]) (w:=[some y]) (μ:=[.d dy]) E rfl E2 rfl;obtain⟨_,e1,p1⟩:=E3.head_d;obtain⟨_,e2,p2⟩:=E3.tail.head_d;cases e1;cases e2;have E4:aA X.K Pr H2 σ Z2:=E3.tail.tail;have E5:aA X.K Pr H2 (some y::σ) (.d dy::Z2):=E4.cons_d p1;have E5w:=E5;refine PX (ho ab s2 σ H2 (bq H2 Z2) Z2 v y u u2 dx dy _ I2 rv r2 E4.wide p2 p1 q2) λw s3 ⟨z,H3,r,I3,rz,E6,pp⟩=>?_;obtain⟨k,rfl,pp⟩:=uP pp;obtain⟨_,e3,p3⟩:=E6.head_d;cases e3;cases p3;cases rz;have P3:sT H2 H3:=uN E4 E6.sub;have E7:aA X.K Pr H3 σ Z2:=E4.narrow E6.tail;exact hQ u2 s3 y dy H3 Z2 k I3 r2 (E7.cons_d (p1.pres P3)) pp
theorem FY{ops:List CmpOp}{es:List Expr}{ls:List (QG×W L)}(h:w7 X ops es ls):∀(ab:List (Addr×Obj))(s:Shared)(σ:St)(H Pr:Hp)(Z:Ev)(kz:L->Ev->Prop)(v:V)(u:Value)(dx:D)(pos:Pos),PU X ab σ H s->cJ v u->aA X.K Pr H (some v::σ) (.d dx::Z)->ph ls dx Z kz ->
  wpAny (model X.prog X.w) X.A (compareChain pos u ops (evalEach es X.env)) (EL X ab σ Pr kz) X.xe s:=by
 induction h with
 | one ho h =>
  intro ab s σ H Pr Z kz v u dx pos I rv E hl;refine chain_last ?_;exact u6 (R:=λk _ Z1=>kz (.d (.bl k)) Z1) (Q:=λ_ c s=>EL X ab σ Pr kz c s) ho h I rv E hl λu2 s3 w2 dy H3 Z1 k I3 r3 E3 q=>⟨.bl k,H3,_,Z1,I3,rfl,E3.tail.cons_d (.bl k),q⟩
 | @cons op e o t ops es ls ho h r ih =>
  intro ab s σ H Pr Z kz v u dx pos I rv E hl
  cases r with
  | one ho2 h2 =>
   refine chain_link (u6 (R:=λk dy Z1=>if k=true then ph [_] dy Z1 kz else kz (.d (.bl false)) Z1) (Q:=λb c s=>wpAny (model X.prog X.w) X.A (truthy c) (λt s₃=>if t then _ else EL X ab σ Pr kz c s₃) X.xe s) ho h I rv E hl λu2 s3 w2 dy H3 Z1 k I3 r3 E3 q=>?_)
   refine wpAny_truthy_bool ?_
   cases k with
   |false=>exact ite_ff ⟨.bl false,H3,_,Z1,I3,rfl,E3.tail.cons_d (.bl false),q⟩
   |true=>exact ite_tt (ih ab s3 σ H3 Pr Z1 kz w2 u2 dy pos I3 r3 E3 q)
  | cons ho2 h2 r2 =>
   cases r2 with
   | one ho3 h3 =>
    refine chain_link (u6 (R:=λk dy Z1=>if k=true then ph (_::_::_) dy Z1 kz else kz (.d (.bl false)) Z1) (Q:=λb c s=>wpAny (model X.prog X.w) X.A (truthy c) (λt s₃=>if t then _ else EL X ab σ Pr kz c s₃) X.xe s) ho h I rv E hl λu2 s3 w2 dy H3 Z1 k I3 r3 E3 q=>?_)
    refine wpAny_truthy_bool ?_
    cases k with
    |false=>exact ite_ff ⟨.bl false,H3,_,Z1,I3,rfl,E3.tail.cons_d (.bl false),q⟩
    |true=>exact ite_tt (ih ab s3 σ H3 Pr Z1 kz w2 u2 dy pos I3 r3 E3 q)
   | cons ho3 h3 r3 =>
    refine chain_link (u6 (R:=λk dy Z1=>if k=true then ph (_::_::_) dy Z1 kz else kz (.d (.bl false)) Z1) (Q:=λb c s=>wpAny (model X.prog X.w) X.A (truthy c) (λt s₃=>if t then _ else EL X ab σ Pr kz c s₃) X.xe s) ho h I rv E hl λu2 s3 w2 dy H3 Z1 k I3 r3 E3 q=>?_)
    refine wpAny_truthy_bool ?_
    cases k with
    |false=>exact ite_ff ⟨.bl false,H3,_,Z1,I3,rfl,E3.tail.cons_d (.bl false),q⟩
    |true=>exact ite_tt (ih ab s3 σ H3 Pr Z1 kz w2 u2 dy pos I3 r3 E3 q)
theorem C1{op op':CmpOp}{ops:List CmpOp}{r1 r2:Expr}{rs:List Expr}{ls:List (QG×W L)}(ha:PL X a ta)(h:w7 X (op::op'::ops) (r1::r2::rs) ls)(hm:lastMarks (op::op'::ops) (r1::r2::rs)=false:=by with_unfolding_all rfl):PL X (.Compare a (op::op'::ops) (r1::r2::rs) pos) (yS ta ls):=by intro ab s σ H Pr Z kz I E ht;refine Compare_chain (PX (ha ab s σ H Pr Z _ I E ht) λu s1 q=>?_) hm;obtain⟨v,H1,dx,Z1,I1,rv,E1,q1⟩:=EL.frz (kz:=λdx Z1=>ph ls dx Z1 kz) q;exact FY h ab s1 σ H1 Pr Z1 kz v u dx pos I1 rv E1 q1
theorem qY{prog:Program}{w:World}{A:Around}{ks:List Bool}{us:List Value}(h:us=ks.map Value.bool):TruthOf prog w A (λi v=>us.toArray[i]?=some v) (λi=>ks.getD i true):=λi v s Q E hv hQ=>by
 subst h;rw[List.getElem?_toArray,List.getElem?_map]at hv
 cases q:ks[i]? with
 |none=>rw[q]at hv;cases hv
 | some k =>
  rw[q]at hv;cases hv;refine wpAny_truthy_bool ?_;have:ks.getD i true=k:=by rw[tu,q];rfl
  have hQ':Q (ks.getD i true) s:=hQ;rw[this]at hQ';exact hQ'
theorem C2(ks:List Bool):(List.range ks.length).all (λi=>ks.getD i true)=ks.all id:=by
 apply Bool.eq_iff_iff.mpr;simp only[List.all_eq_true,List.mem_range,id];constructor
 . intro h x hx;obtain⟨i,hi,e⟩:=List.getElem_of_mem hx;have:=h i hi;rw[tu,gV hi]at this;simpa[e]using this
 . intro h i hi;rw[tu,gV hi];exact h _ (List.getElem_mem hi)
theorem C3(ks:List Bool):(List.range ks.length).any (λi=>ks.getD i true)=ks.any id:=by
 apply Bool.eq_iff_iff.mpr;simp only[List.any_eq_true,List.mem_range,id];constructor
 . rintro⟨i,hi,e⟩;rw[tu,gV hi]at e;exact⟨_,List.getElem_mem hi,e⟩
 . rintro⟨x,hx,e⟩;obtain⟨i,hi,e2⟩:=List.getElem_of_mem hx;refine⟨i,hi,?_⟩;rw[tu,gV hi];simpa[e2]using e
theorem oj:∀{ks:List Bool}{us:List Value},ck (ks.map V.bl) us->us=ks.map Value.bool
 |[],_,.nil=>rfl
 | k::ks,_,.cons r t=>by have e:=oj t;subst e;cases r;rfl
theorem w8(hc:X.calm=true):iX X (.builtin "all") (λxs H Q=>∃(p:Addr)(ks:List Bool),xs=[.ref p]/\P0 X.K H p (ks.map V.bl)/\Q (.bl (ks.all id)) H):=by
 intro ab s σ H xs us Q I r ⟨p,ks,e,hq,q⟩;subst e;obtain⟨u,rfl,r1⟩:=sY r;cases r1;obtain⟨its,rv,pl,hz⟩:=I.list hq;have e:=oj rv;refine call_all_walk (wpAny_pyIter_list pl.isList ?_);have hne:p≠s.heap.objs.size:=λz=>by obtain⟨o,n,eo,_⟩:=pl;have:=Ut eo;rw[z]at this;exact absurd this (Nat.lt_irrefl _)
 refine⟨s.heap.objs.size,_,_,_,_,_,(λi=>ks.getD i true),rfl,Walks.list (A:=X.A.in1) (I.ok.hd hc) _ p hne its.toArray,⟨⟨_,Heap.get?_push_size _ rfl,rfl,rfl⟩,pl.isList.at λo eo=>p4 _ eo⟩,qY e,λh' tk hk=>?_⟩;have hl:its.toArray.size=ks.length:=by rw[e];simp
 rw[hl,C2];refine⟨.bl _,H,I.kept (h':=h') (t':=tk) λb o eb=>hk b o (λhm=>?_) (p4 _ eb),rfl,q⟩;have e2:b=s.heap.objs.size:=by simpa using hm
 have:=Ut eb;rw[e2]at this;exact absurd this (Nat.lt_irrefl _)
theorem w9(hc:X.calm=true):iX X (.builtin "any") (λxs H Q=>∃(p:Addr)(ks:List Bool),xs=[.ref p]/\P0 X.K H p (ks.map V.bl)/\Q (.bl (ks.any id)) H):=by
 intro ab s σ H xs us Q I r ⟨p,ks,e,hq,q⟩;subst e;obtain⟨u,rfl,r1⟩:=sY r;cases r1;obtain⟨its,rv,pl,hz⟩:=I.list hq;have e:=oj rv;refine call_any_walk (wpAny_pyIter_list pl.isList ?_);have hne:p≠s.heap.objs.size:=λz=>by obtain⟨o,n,eo,_⟩:=pl;have:=Ut eo;rw[z]at this;exact absurd this (Nat.lt_irrefl _)
 refine⟨s.heap.objs.size,_,_,_,_,_,(λi=>ks.getD i true),rfl,Walks.list (A:=X.A.in1) (I.ok.hd hc) _ p hne its.toArray,⟨⟨_,Heap.get?_push_size _ rfl,rfl,rfl⟩,pl.isList.at λo eo=>p4 _ eo⟩,qY e,λh' tk hk=>?_⟩;have hl:its.toArray.size=ks.length:=by rw[e];simp
 rw[hl,C3];refine⟨.bl _,H,I.kept (h':=h') (t':=tk) λb o eb=>hk b o (λhm=>?_) (p4 _ eb),rfl,q⟩;have e2:b=s.heap.objs.size:=by simpa using hm
 have:=Ut eb;rw[e2]at this;exact absurd this (Nat.lt_irrefl _)
theorem hW{K:PySem.W.Frag}{H:Hp}:∀{vs:List V}{ks:List Bool},bL K H vs (ks.map D.bl)->vs=ks.map V.bl
 |[],[],_=>rfl
 | _::_,k::ks,.cons r t=>by cases r;rw[hW t];rfl
 |[],_::_,r=>nomatch r
 |_::_,[],r=>nomatch r
def LS:QT:=λds k=>∃ks:List Bool,ds=[.lst (ks.map D.bl)]/\k (.d (.bl (ks.all id)))
def LU:QT:=λds k=>∃ks:List Bool,ds=[.lst (ks.map D.bl)]/\k (.d (.bl (ks.any id)))
theorem LV(hc:X.calm=true):fO X (.builtin "all") LS:=fO.of (w8 hc) λσ H Pr Z vs ds kz E ps ⟨ks,e,h⟩=>by
 subst e;obtain⟨v,rfl,r⟩:=qP ps
 cases r with
 | lst hz rs =>
  have e:=hW rs;subst e;exact⟨_,ks,rfl,hz.l,_,E.cons_d (.bl _),h⟩
theorem LW(hc:X.calm=true):fO X (.builtin "any") LU:=fO.of (w9 hc) λσ H Pr Z vs ds kz E ps ⟨ks,e,h⟩=>by
 subst e;obtain⟨v,rfl,r⟩:=qP ps
 cases r with
 | lst hz rs =>
  have e:=hW rs;subst e;exact⟨_,ks,rfl,hz.l,_,E.cons_d (.bl _),h⟩
end
end L2
set_option exponentiation.threshold 2000
namespace L2
open PySem PySem.Spec PyProof.Rows
section
variable{e a:Expr}{x:Str}
mutual
noncomputable def iU:D->Bool
 |.int i=>decide (i.natAbs<2^1900)
 |.tup xs=>lg xs
 |.lst xs=>lg xs
 |_=>true
noncomputable def lg:List D->Bool
 |[]=>true
 |x::xs=>iU x && lg xs
end
theorem Jj:(2:Nat)^1900<10^600:=by decide +kernel
theorem C4{i:Int}(h:i.natAbs<2^1900):(PyData.shown (.int i)).length<=601:=by have e:=PySem.int_text_length_le10 (k:=600) xp (Nat.lt_trans h Jj);show(Str.ofString (toString i)).length<=601;rw[PySem.ofString_length];exact e
mutual
theorem qx:∀d:D,iU d=true->(QR d).intsShort 601=true/\(QR d).showable=true
 |.non,_=>⟨rfl,rfl⟩
 |.bl _,_=>⟨rfl,rfl⟩
 |.str _,_=>⟨rfl,rfl⟩
 |.dct _,_=>⟨rfl,rfl⟩
 |.exc _ _ _,_=>⟨rfl,rfl⟩
 |.fn _ _,_=>⟨rfl,rfl⟩
 | .int i,h=>by
  have h':i.natAbs<2^1900:=by simpa only[iU,decide_eq_true_eq]using h
  refine⟨by simp only[QR,PyData.intsShort,decide_eq_true_eq];exact C4 h',?_⟩
  simp only[QR,PyData.showable,decide_eq_true_eq]
  by_cases h0:i.natAbs=0
  .
   rw[h0];decide
  .
   exact(Nat.log2_lt h0).mpr (so h' (Us xp xp))
 | .tup xs,h=>by
  obtain⟨h1,h2⟩:=q5 xs (by simpa only[iU]using h)
  exact⟨by simpa only[QR,PyData.intsShort]using h1,by simpa only[QR,PyData.showable]using h2⟩
 | .lst xs,h=>by
  obtain⟨h1,h2⟩:=q5 xs (by simpa only[iU]using h)
  exact⟨by simpa only[QR,PyData.intsShort]using h1,by simpa only[QR,PyData.showable]using h2⟩
theorem q5:∀ds:List D,lg ds=true->PyData.intsShortAll 601 (g8 ds)=true/\PyData.showableAll (g8 ds)=true
 |[],_=>⟨rfl,rfl⟩
 | d::ds,h=>by
  simp only[lg,Bool.and_eq_true]at h
  obtain⟨h1,h2⟩:=qx d h.1
  obtain⟨h3,h4⟩:=q5 ds h.2
  exact⟨by simp only[g8,PyData.intsShortAll,h1,h3,Bool.and_self],by simp only[g8,PyData.showableAll,h2,h4,Bool.and_self]⟩
end
structure Ay (d:D):Prop where
 ok:Q3 40 d=true
 sh:iU d=true
 wt:(QR d).weight<=20000
theorem Ay.len{d:D}(h:Ay d):(QR d).shown.length<=sizeLine:=by
 have h1:=PyData.shown_le 601 xp (QR d) (PyData.leavesShort_of_canLay0 601 _ (uZ 40 d h.ok).1 (qx d h.sh).1);have h2:=h.wt;have e:sizeLine=16777216:=by decide
 rw[e];omega
def Q8(f:Fl)(o:Option L)(j:Nat)(Z1:Ev)(kz:Fl->Ev->Prop):Prop:=match f with
 | .nx=>(match o with
  |some (.own _ xs)=>kz .nx (Z1.set j (.d (.lst xs)))
  |_=>kz .nx Z1)
 |f=>kz f Z1
theorem Jk(a:Addr)(xs:List D)(j:Nat)(Z1:Ev)(kz:Fl->Ev->Prop):Q8 .nx (some (.own a xs)) j Z1 kz=kz .nx (Z1.set j (.d (.lst xs))):=(rfl)
theorem NM(x:D)(j:Nat)(Z1:Ev)(kz:Fl->Ev->Prop):Q8 .nx (some (.d x)) j Z1 kz=kz .nx Z1:=(rfl)
end
theorem aA.closeT{K:PySem.W.Frag}{Pr H:Hp}{σ:St}{Z:Ev}{a:Addr}{vs:List V}{ls:List L}(hl:vs.length=ls.length)(h:P1 K H a vs)(E:aA K Pr H (vs.map some++σ) (ls++Z)):aA K Pr H (some (.ref a)::σ) (.bx none ls::Z):=by
 obtain⟨s1,s2⟩:=Paired.unapp (by simp[hl]) E.sl;have ow:owns (.bx none ls::Z)=owns (ls++Z):=by rw[aJ,aD];simp only[a9,Option.toList,List.nil_append,c9]
 refine⟨E.sub,by rw[ow];exact E.nd,λb hb=>E.off b (by rw[<- ow];exact hb),.cons ?_ s2⟩;unfold a6;exact⟨a,vs,rfl,h,bW.mpr s1⟩
theorem aA.closeO{K:PySem.W.Frag}{Pr H:Hp}{σ:St}{Z:Ev}{a:Addr}{vs:List V}{ls:List L}(hl:vs.length=ls.length)(h:H a=some (.lst vs))(hn:a∉owns (ls++Z))(hp:Pr a=none)(E:aA K Pr H (vs.map some++σ) (ls++Z)):aA K Pr H (some (.ref a)::σ) (.bx (some a) ls::Z):=by
 obtain⟨s1,s2⟩:=Paired.unapp (by simp[hl]) E.sl;have ow:owns (.bx (some a) ls::Z)=a::owns (ls++Z):=by rw[aJ,aD];simp only[a9,Option.toList,List.cons_append,List.nil_append,c9]
 refine⟨E.sub,by rw[ow];exact List.nodup_cons.mpr ⟨hn,E.nd⟩,λb hb=>?_,.cons ?_ s2⟩
 .
  rw[ow]at hb;rcases Uq.mp hb with z|z
  . rw[z];exact hp
  . exact E.off b z
 . unfold a6;exact⟨rfl,vs,h,bW.mpr s1⟩
section
variable{X:Cx}{e a b:Expr}{es:List Expr}{pos p p2 apos cpos:Pos}{tb te:W L}{x y:Str}
def Br(t:W (List L)):W L:=λZ kz=>t Z λls Z1=>ls.length<=sizeLine/\kz (.bx none ls) Z1
theorem u7 {x1} {bs:List (Option Nat)} {t:W (List L)} (h:QD X es bs t):PL X (.Tuple es x1 pos) (Br t):=by intro ab s σ H Pr Z kz I E hq;refine wpAny_Tuple_spliced (PX (h pos ab s σ H Pr Z _ I E hq) λus s1 ⟨vs,H1,ls,Z1,I1,r,hl,hb,E1,hv,z,q⟩=>?_);refine⟨by rw[<- r.length,hl];exact z,?_⟩;have hf:H1 s1.heap.objs.size=none:=I1.hok.fresh (Uu _);have E2:aA X.K Pr (PD H1 s1.heap.objs.size (.tup vs)) (vs.map some++σ) (ls++Z1):=E1.new hf;refine⟨.ref s1.heap.objs.size,PD H1 s1.heap.objs.size (.tup vs),_,Z1,I1.laid (t':=s1.toks) (λb u e=>p4 _ e) (Uu _) ?_,rfl,E2.closeT hl (P1.of bG),q⟩;exact⟨by rw[hl];exact z,us,r,⟨_,Heap.get?_push_size _ rfl,rfl,_,rfl⟩⟩
theorem aA.updIn{K:PySem.W.Frag}{Pr H:Hp}{σ:St}{Z:Ev}{i j:Nat}{q:Option Addr}{ls:List L}{l:Addr}{xs ys:List D}{vs:List V}(E:aA K Pr H σ Z)(hi:Z[i]?=some (.bx q ls))(hj:ls[j]?=some (.own l xs))(r:bL K H vs ys) :
  aA K Pr (PD H l (.lst vs)) σ (Z.set i (.bx q (ls.set j (.own l ys)))):=by
 obtain⟨sv,hs,_⟩:=E.slot hi;have hil:i<Z.length:=(k4.mp hi).1;have hjl:j<ls.length:=(k4.mp hj).1;have E1:=E.outL hi hs;have PZ:∀{H':Hp},aA K Pr H' (sv::σ) (.bx q (ls.set j (.own l ys))::Z.set i .un)->aA K Pr H' σ (Z.set i (.bx q (ls.set j (.own l ys)))):=λE'=>by have:=E'.back (i:=i) (by simp[hil]) hs;rwa [List.set_set]at this
 cases q with
 | none =>
  obtain⟨a,us,rfl,ha,hl,E2⟩:=E1.openT;have E3:=E2.updOwn (i:=j) (l:=l) (xs:=xs) (ys:=ys) (vs:=vs) (by rw[List.getElem?_append_left hjl];exact hj) r;rw[List.set_append_left _ _ hjl]at E3;obtain⟨ws,hlw,mu⟩:=E2.at_own (a:=l) (yG (xs:=xs) (List.mem_of_getElem? (i:=j) (by rw[List.getElem?_append_left hjl];exact hj)));refine PZ (E3.closeT (by simpa using hl) (ha.pres λb u pu eb=>?_));rw[aE];exact eb;rintro rfl;rw[hlw]at eb;cases eb;exact mu.no pu
 | some a =>
  obtain⟨us,rfl,ha,hl,hn,hp,E2⟩:=E1.openO;have hlm:l∈owns (ls++Z.set i .un):=yG (xs:=xs) (List.mem_of_getElem? (i:=j) (by rw[List.getElem?_append_left hjl];exact hj));have E3:=E2.updOwn (i:=j) (l:=l) (xs:=xs) (ys:=ys) (vs:=vs) (by rw[List.getElem?_append_left hjl];exact hj) r;have ow:=o8 (Z:=ls++Z.set i .un) (i:=j) (a:=l) (xs:=xs) (ys:=ys) (by rw[List.getElem?_append_left hjl];exact hj);rw[List.set_append_left _ _ hjl]at E3 ow;have hla:l≠a:=λz=>hn (by rw[<- z];exact hlm);refine PZ (E3.closeO (by simpa using hl) ?_ (by rw[ow];exact hn) hp);rw[aE (Ne.symm hla)];exact ha
theorem aA.inAt{K:PySem.W.Frag}{Pr H:Hp}{σ:St}{Z:Ev}{i j:Nat}{q:Option Addr}{ls:List L}{l:Addr}{xs:List D}(E:aA K Pr H σ Z)(hi:Z[i]?=some (.bx q ls))(hj:ls[j]?=some (.own l xs)) :
  ∃a us,σ[i]?=some (some (.ref a))/\(P0 K H a us∨P1 K H a us)/\us.length=ls.length/\us[j]?=some (.ref l)/\∃vs,H l=some (.lst vs)/\bL K H vs xs:=by
 obtain⟨sv,hs,sl⟩:=E.slot hi
 have key:∀(us:List V),bY K H us ls->us[j]?=some (.ref l)/\∃vs,H l=some (.lst vs)/\bL K H vs xs:=λus h=>by
  obtain⟨s',e,z⟩:=Paired.get2 (bW.mp h) hj;unfold a6 at z;obtain⟨rfl,vs,hl,rs⟩:=z;rw[List.getElem?_map]at e
  cases eu:us[j]? with
  |none=>rw[eu]at e;cases e
  |some u=>rw[eu]at e;cases e;exact⟨rfl,vs,hl,rs⟩
 cases q with
 | none =>
  unfold a6 at sl;obtain⟨a,us,rfl,ha,h⟩:=sl;exact⟨a,us,hs,.inr ha,h.len,key us h⟩
 | some a =>
  unfold a6 at sl;obtain⟨rfl,us,ha,h⟩:=sl;exact⟨a,us,hs,.inl (P0.of ha),h.len,key us h⟩
def KG(i:Nat)(k:Int)(Z:Ev)(K:Option Addr->List L->Nat->Addr->List D->Prop):Prop:=match Z[i]? with
 |some (.bx q ls)=>∃j,Qo ls.length k=some j/\∃l xs,ls[j]?=some (.own l xs)/\K q ls j l xs
 |_=>False
theorem HK{i:Nat}{k:Int}{Z:Ev}{K:Option Addr->List L->Nat->Addr->List D->Prop}(h:KG i k Z K):∃q ls j l xs,Z[i]?=some (.bx q ls)/\Qo ls.length k=some j/\ls[j]?=some (.own l xs)/\K q ls j l xs:=by
 unfold KG at h;split at h
 . rename_i q ls hi;obtain⟨j,hj,l,xs,hl,hk⟩:=h;exact⟨q,ls,j,l,xs,hi,hj,hl,hk⟩
 . exact h.elim
theorem Jl:Qq X (λx y H Q=>∃p vs i w,x=.ref p/\y=.int i/\(P0 X.K H p vs∨P1 X.K H p vs)/\Qp vs i=some w/\Q w H):=by
 intro a b ab s σ H x y v u Q I rx ry h hp;obtain⟨p,vs,i,w,e1,e2,hq,hw,q⟩:=h;rcases hq with hq|hq
 . exact yB a b ab s σ H x y v u Q I rx ry ⟨p,vs,i,w,e1,e2,hq,hw,q⟩ hp
 . exact Cj a b ab s σ H x y v u Q I rx ry ⟨p,vs,i,w,e1,e2,hq,hw,q⟩ hp
def Na(i:Nat)(Z:Ev):Prop:=match Z[i]? with
 |some (.bx _ _)=>True
 |_=>False
theorem Jm{i:Nat}{Z:Ev}(h:Na i Z):∃q ls,Z[i]?=some (.bx q ls):=by
 unfold Na at h;split at h
 . rename_i q ls e;exact⟨q,ls,e⟩
 . exact h.elim
def C5(i:Nat)(tk te:W L):W L:=λZ kz=>Na i Z/\tk Z λr Z1=>mv r λk=>Z1=Z/\(KG i k Z λ_ _ _ _ _=>True)/\te Z λr Z2=>QF r λy=>Z2=Z/\KG i k Z λq ls j l xs=>xs.length<sizeLine/\kz (.d .non) (Z.set i (.bx q (ls.set j (.own l (xs++[y])))))
theorem NN{α:Type}{us:List α}{n j:Nat}{k:Int}{w:α}(hn:us.length=n)(hj:Qo n k=some j)(hw:us[j]?=some w):Qp us k=some w:=by unfold Qp;rw[hn,hj];exact hw
theorem FZ(i:Nat)(hb:PL X b tb)(he:PL X e te)(hp:uH b)(hN:X.N[i]?=some x:=by rfl)(hv:PQ X.env.scope x:=by first | exact Or.inl rfl | exact Or.inr (Or.inl rfl) | exact Or.inr (Or.inr rfl)) (hd:(x == ("__debug__" : Str))=false:=by decide)
  (hcd:(x == ("__classdict__" : Str))=false:=by decide) (hs1:starEach [e] X.env=[(false,eval e X.env)]:=by rfl) (hbase:attributeBase (.Subscript (.Name x p) b p2) "append" X.env (eval (.Subscript (.Name x p) b p2) X.env)=eval (.Subscript (.Name x p) b p2) X.env:=by rfl)
  (hfew:((backTo cpos (starEach [e] X.env)).all (λx=>!x.1) && (backToKw cpos (keywordEach [] X.env)).all (λx=>x.1.isSome)
   && decide (([e]).length+([]:List Keyword).length+(if([]:List Keyword).isEmpty then 0 else 1)<30))=true:=by rfl)
  (hline:(apos.endLine == cpos.line)=true:=by rfl) (hplain:(backTo cpos (starEach ([]:List Expr) X.env)).any (·.1)=false:=by rfl) :
  PL X (.Call (.Attribute (.Subscript (.Name x p) b p2) "append" apos) [e] [] cpos) (C5 i tb te):=by
 refine PL.of (Ft PySem.F.plainAttrs_list PySem.F.slot_list_append PySem.F.type_list_append mj (Im Jl (d4 hN hv hd hcd) hb.pe hp) (eD (ay he).pe mi hs1) (hbase:=hbase) (hfew:=hfew) (hline:=hline) (hs:=hs1) (hplain:=hplain)) λσ H Pr Z kz E h=>?_;obtain⟨hbx,h⟩:=h;obtain⟨q,ls,hi⟩:=Jm hbx
 obtain⟨a,hσ⟩:∃a,σ[i]?=some (some (.ref a)):=by
  obtain⟨sv,hs,sl⟩:=E.slot hi
  cases q with
  |none=>unfold a6 at sl;obtain⟨a,_,rfl,_⟩:=sl;exact⟨a,hs⟩
  |some a=>unfold a6 at sl;obtain⟨rfl,_⟩:=sl;exact⟨a,hs⟩
 refine⟨.ref a,hσ,Pr,Z,_,E,h,λv H2 r Z1 E2 pp=>?_⟩;obtain⟨k,rfl,rfl,hin,pp⟩:=da pp;obtain⟨_,e1,p1⟩:=E2.head_d;cases e1;cases p1;obtain⟨q',ls',j,l,xs,hi',hj,hl,_⟩:=HK hin;rw[hi]at hi';cases hi';obtain⟨a',us,hσ',hsq,hul,huj,vs,hlv,rs⟩:=E2.tail.inAt hi hl;rw[hσ]at hσ';cases hσ'
 refine⟨a,us,k,.ref l,rfl,rfl,hsq,NN hul hj huj,.inl ⟨rfl,vs,P0.of hlv⟩,Pr,Z1,λr Z2=>match r with
  |.d y=>Z2=Z1/\KG i k Z1 λq ls j l xs=>xs.length<sizeLine/\kz (.d .non) (Z1.set i (.bx q (ls.set j (.own l (xs++[y])))))
  |_=>False,E2.tail,pp,λv H3 r Z2 E3 pq=>?_⟩
 cases r with
 | d y =>
  obtain⟨e2,pq⟩:=pq;subst e2;obtain⟨q',ls',j',l',xs',hi',hj',hl',fI,pq⟩:=HK pq;rw[hi]at hi';cases hi';rw[hj]at hj';cases hj';rw[hl]at hl';cases hl';obtain⟨_,_,_,_,_,_,vs3,hlv3,rs3⟩:=E3.tail.inAt hi hl;obtain⟨_,e3,p3⟩:=E3.head_d;cases e3;exact⟨l,vs3,v,rfl,rfl,hlv3,by rw[rs3.length];exact fI,_,_,(E3.tail.updIn hi hl (rs3.append (.cons p3 .nil))).cons_d .non,pq⟩
 |_=>exact pq.elim
end
structure FX (K:PySem.W.Frag) (mg:Str->Option Value) (g:Str) (st:Stmt) (a:Addr) (fd:FuncData) (P:List Str):Prop where
 f:QA K g g st a fd
 b:yz K fd P []
 m:mg g=some (.ref a)
noncomputable abbrev Q9(g:Str)(st:Stmt)(md:Value)(c:Nat):FuncData:=PySem.W.fnOf g g (n6 st) (i5 st) (ao st) .none .none .none md none (.ref c) .none
theorem FX.mk'{K:PySem.W.Frag}{mg:Str->Option Value}{h:Heap}(X:K.In h)(G:h.Ns mainGlobals mg){g:Str}{st:Stmt}{a:Addr}{c:Nat}{md:Value}{P:List Str}(e1:PySem.W.nsIn K mainGlobals g=some (some (.ref a)))
  (e2:K.lookup a=some ⟨.type "function",none,.func (Q9 g st md c),#[]⟩) (e3:PySem.W.codeIn K (.ref c) g=true) (e4:PySem.W.keepIn K (.ref a)=true)
  (e5:∀(kV doc pm:Value)(an:Option Addr)(cdv ct:Value)(us:List Value),us.length=P.length->bindArgs (PySem.W.fnOf g g (n6 st) (i5 st) (ao st) .none kV doc pm an cdv ct) ⟨us,[]⟩=pure (P.zip us)):FX K mg g st a (Q9 g st md c) P :=
 ⟨HD e2 e3 e4,(HD e2 e3 e4).binds e5,PySem.W.mg_of X G e1⟩
section
variable{X:Cx}{k k' n:Nat}{f:Addr}{fd:FuncData}{ps:List Str}{fs:FS}{g:Str}{st:Stmt}{e:Expr}{es:List Expr}{bs:List (Option Nat)}{t:W (List L)}{p pos:Pos}
theorem aL(F:FnOk X.prog X.w X.K X.mg X.base CX0 k f fd ps (spF X.K n fs))(T:FX X.K X.mg g st f fd ps)(hr:td k' X.A)(ha:QD X (e::es) bs t)(hk:k<=k':=by decide)(hg:Gl X g:=by rfl)(hn:bs.length=n:=by rfl) (hdb:(g == ("__debug__" : Str))=false:=by decide) (he:starEach (e::es) X.env=(false,eval e X.env)::starEach es X.env:=by rfl) (hpl:(backTo pos (starEach es X.env)).any (·.1)=false:=by rfl) :
  PL X (.Call (.Name g p) (e::es) [] pos) (aK fs t):=II F (hr.mono hk) hg T.m T.f.kp T.b Li ha hn hdb he hpl
theorem bU(F:FnOk X.prog X.w X.K X.mg X.base CX0 k f fd ps (spF X.K n fs))(T:FX X.K X.mg g st f fd ps)(hr:td k' X.A)(j i:Nat)(ha:QD X (e::es) bs t)(hk:k<=k':=by decide)(hg:Gl X g:=by rfl)(hj:bs[j]?=some (some i):=by rfl)(hn:bs.length=n:=by rfl) (hdb:(g == ("__debug__" : Str))=false:=by decide) (he:starEach (e::es) X.env=(false,eval e X.env)::starEach es X.env:=by rfl) (hpl:(backTo pos (starEach es X.env)).any (·.1)=false:=by rfl) :
  PL X (.Call (.Name g p) (e::es) [] pos) (bJ fs j i t):=FF F (hr.mono hk) hg T.m T.f.kp T.b Li j i ha hj hn hdb he hpl
end
theorem C6{P:Program}{w:World}{K:PySem.W.Frag}{mg:Str->Option Value}{base:Heap}{CX:Qk}{k n:Nat}{f:Addr}{fd:FuncData}{ps:List Str}{fs:FS}(h:∀ls kz,¬fs ls kz):FnOk P w K mg base CX k f fd ps (spF K n fs) :=
 ⟨λ_ _ _ _ ⟨_,_,ls,kz,_,q,_⟩=>(h ls kz q).elim,λ_ _ _ _ _ _ _ _ _ _ _ _ _ ⟨_,_,ls,kz,_,q,_⟩=>(h ls kz q).elim⟩
mutual
noncomputable def sW:D->Nat
 |.tup xs=>q8 xs+1
 |.lst xs=>q8 xs+1
 |_=>0
noncomputable def q8:List D->Nat
 |[]=>0
 |x::xs=>max (sW x) (q8 xs)
end
theorem rd{x:D}:∀{xs:List D},x∈xs->sW x<=q8 xs
 | y::ys,h=>by
  simp only[q8];rcases Uq.mp h with rfl|h
  . omega
  . have:=rd h;omega
theorem Az{n:Nat}:∀{xs:List D},(∀x∈xs,sW x<=n)->q8 xs<=n
 |[],_=>Nat.zero_le _
 | y::ys,h=>by simp only[q8];have:=h y tv;have:=Az (xs:=ys) λx hx=>h x (k5 _ hx);omega
end L2
namespace L2
open PySem PySem.Spec PyProof.Rows PySem.Builtin.Str
inductive Sk where
 |l|t
def Sk.At:Sk->Heap->Addr->Addr->Nat->Prop
 |.l,h,j,a,i=>h.IsListIter j a i
 |.t,h,j,a,i=>IsTupIter h j a i
def Sk.Sq:Sk->Heap->Addr->Array Value->Prop
 |.l,h,a,xs=>h.IsList a xs
 |.t,h,a,xs=>IsTup h a xs
theorem Sk.At.to{k:Sk}{h h':Heap}{j a:Addr}{i:Nat}(x:k.At h j a i)(e:∀o,h.get? j=some o->h'.get? j=some o):k.At h' j a i:=by
 cases k with
 |l=>obtain⟨o,z,r⟩:=x;exact⟨o,e _ z,r⟩
 |t=>obtain⟨o,z,r⟩:=x;exact⟨o,e _ z,r⟩
theorem Sk.Sq.to{k:Sk}{h h':Heap}{a:Addr}{xs:Array Value}(x:k.Sq h a xs)(e:∀o,h.get? a=some o->h'.get? a=some o):k.Sq h' a xs:=by
 cases k with
 |l=>obtain⟨o,z,r⟩:=x;exact⟨o,e _ z,r⟩
 |t=>obtain⟨o,z,r⟩:=x;exact⟨o,e _ z,r⟩
theorem Sk.At.obj{k:Sk}{h:Heap}{j a:Addr}{i:Nat}(x:k.At h j a i):∃ o,h.get? j=some o/\(∀ v,o.data≠.cell v)/\o.cls≠.type "list"/\o.cls≠.type "tuple":=by
 cases k with
 |l=>obtain⟨o,z,c,d⟩:=x;exact⟨o,z,(λv q=>by rw[d]at q;cases q),by rw[c];simp,by rw[c];simp⟩
 |t=>obtain⟨o,z,c,d⟩:=x;exact⟨o,z,(λv q=>by rw[d]at q;cases q),by rw[c];simp,by rw[c];simp⟩
theorem Sk.Sq.obj{k:Sk}{h:Heap}{a:Addr}{xs:Array Value}(x:k.Sq h a xs):∃ o,h.get? a=some o/\(o.cls=.type "list"∨o.cls=.type "tuple"):=by
 cases k with
 |l=>obtain⟨o,z,c,d⟩:=x;exact⟨o,z,.inl c⟩
 |t=>obtain⟨o,z,c,d⟩:=x;exact⟨o,z,.inr c⟩
section
variable{prog:Program}{w:World}{A:Around}{E:Value->Shared->Prop}{s:Shared}
theorem LX{j q:Addr}{i:Nat}{ys:Array Value}{y:Value}{Q:Value->Shared->Prop}(hj:IsTupIter s.heap j q i)(hq:IsTup s.heap q ys)(hy:ys[i]?=some y)
  (k:∀h',IsTupIter h' j q (i+1)->Heap.SameBut j s.heap h'->Q y {s with heap:=h' }):wpAny (model prog w) A (Builtin.SmallTypes.nextOf (.ref j)) Q E s:=by
 obtain⟨u,hu,cu,du⟩:=id hj;obtain⟨v,hv,_,n,dv⟩:=hq;unfold Builtin.SmallTypes.nextOf;refine kS (wpAny_callSpecial?_slot (name:=Str.ofString "__next__") hj.typeIs slot_tupleiter_next (wpAny_call_entry slot_tupleiter_next hj.typeIs entry_tupleiter_next ?_ (args_tupleiter_next _)));show wpAny _ _ (field (.ref j) 0 >>= _) _ _ s;refine kS (wpAny_field hu du (x:=.ref q) rfl ?_)
 show wpAny _ _ (if(Value.ref q == Value.none)=true then _ else _) _ _ s
 rw[if_neg (show ¬((Value.ref q == Value.none)=true)from Bool.false_ne_true)];show wpAny _ _ (field (.ref j) 1 >>= _) _ _ s;refine kS (wpAny_field hu du (x:=.int i 0) rfl ?_);show wpAny _ _ (seqItems? (.ref q) >>= _) _ _ s;refine kS (wpAny_seqItems hv dv ?_);simp only[hy,Int.toNat_natCast];refine kS (wpAny_setField hu du x_ (Uw ⟨y,rfl,Uw (k _ ?_ (Heap.SameBut.update ..))⟩));exact⟨_,Heap.get?_update_self _ hu (Obj.isFreed_of_fields (Obj.data_mapFields du _)),(Obj.cls_mapFields ..).trans cu,by rw[Obj.data_mapFields du];simp[rawInt]⟩
theorem Jn{j q:Addr}{i:Nat}{ys:Array Value}{Q:Value->Shared->Prop}(h0:A.handled=none)(hj:IsTupIter s.heap j q i)(hq:IsTup s.heap q ys)(hy:ys[i]?=none)
  (k:∀ h' e,Heap.ExtBut j s.heap h'->(∃ o,h'.get? e=some o/\o.cls=.type "StopIteration")->E (.ref e) {s with heap:=h' }):wpAny (model prog w) A (Builtin.SmallTypes.nextOf (.ref j)) Q E s:=by
 obtain⟨u,hu,cu,du⟩:=id hj;obtain⟨v,hv,_,n,dv⟩:=hq;unfold Builtin.SmallTypes.nextOf;refine kS (wpAny_callSpecial?_slot (name:=Str.ofString "__next__") hj.typeIs slot_tupleiter_next (wpAny_call_entry slot_tupleiter_next hj.typeIs entry_tupleiter_next ?_ (args_tupleiter_next _)));show wpAny _ _ (field (.ref j) 0 >>= _) _ _ s;refine kS (wpAny_field hu du (x:=.ref q) rfl ?_)
 show wpAny _ _ (if(Value.ref q == Value.none)=true then _ else _) _ _ s
 rw[if_neg (show ¬((Value.ref q == Value.none)=true)from Bool.false_ne_true)];show wpAny _ _ (field (.ref j) 1 >>= _) _ _ s;refine kS (wpAny_field hu du (x:=.int i 0) rfl ?_);show wpAny _ _ (seqItems? (.ref q) >>= _) _ _ s;refine kS (wpAny_seqItems hv dv ?_);simp only[hy,Int.toNat_natCast];refine kS (wpAny_rule (kS (wpAny_setField hu du x_ ?_)));show wpAny _ _ (newExc (.type "StopIteration") [] >>= _) _ _ {s with heap:=_};refine kS ?_;simp only[newExc,newTuple]
 refine kS (wpAny_newObj_type ?_ (by size_fits));refine kS (m:=firstArgMember _ _) (wpAny_of_eq (a:=Value.none) (by first|rfl|(simp only[firstArgMember];rfl)) ?_);refine wpAny_newObj_type ?_ (by size_fits)
 simp only[raiseNew]
 refine kS (wpAny_handled ?_);first|rw[show A.in1.handled=none from h0] | rw[h0]
 refine kS (Uw (wpAny_throw ?_));exact k _ _ (((Heap.SameBut.update ..).extBut.push _).push _) ⟨_,Heap.get?_push_size _ rfl,rfl⟩
theorem Sk.draw{k:Sk}{j a:Addr}{i:Nat}{ys:Array Value}{y:Value}{Q:Value->Shared->Prop}(hj:k.At s.heap j a i)(ha:k.Sq s.heap a ys)(hy:ys[i]?=some y)
  (q:∀h',k.At h' j a (i+1)->Heap.SameBut j s.heap h'->Q y {s with heap:=h' }):wpAny (model prog w) A (Builtin.SmallTypes.nextOf (.ref j)) Q E s:=by
 cases k with
 |l=>exact wpAny_nextOf_list_item hj ha hy q
 |t=>exact LX hj ha hy q
theorem Sk.drawE{k:Sk}{j a:Addr}{i:Nat}{ys:Array Value}{Q:Value->Shared->Prop}(h0:A.handled=none)(hj:k.At s.heap j a i)(ha:k.Sq s.heap a ys)(hy:ys[i]?=none)
  (q:∀ h' e,Heap.ExtBut j s.heap h'->(∃ o,h'.get? e=some o/\o.cls=.type "StopIteration")->E (.ref e) {s with heap:=h' }):wpAny (model prog w) A (Builtin.SmallTypes.nextOf (.ref j)) Q E s:=by
 cases k with
 |l=>exact wpAny_nextOf_list_end h0 hj ha hy q
 |t=>exact Jn h0 hj ha hy q
end
abbrev fc(h:Heap)(T:Addr)(xs:List Value):Prop:=h.get? T=some {cls:=.type "tuple",data:=.seq xs.toArray}
noncomputable abbrev Zi:=Sk×Addr×Addr
noncomputable def Zi.ofs(js:List Zi):List Addr:=js.map (·.2.1)
structure ZA (z I O:Addr) (js:List Zi):Prop where
 nd:(z::I::O::Zi.ofs js).Nodup
 src:∀p∈js,p.2.2∉z::O::Zi.ofs js
structure Ra (z I O:Addr) (js:List Zi) (f:Value) (i:Nat) (h:Heap):Prop where
 hz:IsZip h z I O f
 hI:fc h I ((Zi.ofs js).map .ref)
 hO:∃os,os.length=js.length/\fc h O os
 at':∀p∈js,p.1.At h p.2.1 p.2.2 i
def C7(z O:Addr)(js:List Zi)(h h':Heap):Prop:=∀c o,c∉z::O::Zi.ofs js->h.get? c=some o->h'.get? c=some o
structure Px (z I O:Addr) (js:List Zi) (xs:List Value) (i j:Nat) (h₀ h:Heap):Prop where
 hz:IsZip h z I O .ellipsis
 hO:∃os,os.length=js.length/\fc h O os/\os.take j=xs.take j
 ahead:∀m p,m<j->js[m]?=some p->p.1.At h p.2.1 p.2.2 (i+1)
 behind:∀m p,j<=m->js[m]?=some p->p.1.At h p.2.1 p.2.2 i
 keep:C7 z O js h₀ h
 sz:h.objs.size=h₀.objs.size
theorem ja{js:List Zi}{p:Zi}(h:p∈js):p.2.1∈Zi.ofs js:=List.mem_map.mpr ⟨p,h,rfl⟩
theorem ZA.zO{z I O:Addr}{js:List Zi}(D:ZA z I O js):z≠O:=λe=>by have:=D.nd;simp[e]at this
theorem ZA.zj{z I O:Addr}{js:List Zi}(D:ZA z I O js){p:Zi}(hp:p∈js):p.2.1≠z/\p.2.1≠O:=by have n:=D.nd;have m:=ja hp;simp only[List.nodup_cons,Uq,not_or]at n;exact⟨λe=>n.1.2.2 (e ▸ m),λe=>n.2.2.1 (e ▸ m)⟩
theorem ZA.Iz{z I O:Addr}{js:List Zi}(D:ZA z I O js):I∉z::O::Zi.ofs js:=by have n:=D.nd;simp only[List.nodup_cons,Uq,not_or]at n ⊢;exact⟨Ne.symm n.1.1,n.2.1.1,n.2.1.2⟩
theorem ZA.inj{z I O:Addr}{js:List Zi}(D:ZA z I O js){m m':Nat}{p p':Zi}(h:js[m]?=some p)(h':js[m']?=some p')(e:p.2.1=p'.2.1):m=m':=by
 have n:=D.nd;simp only[List.nodup_cons]at n;obtain⟨hm,e1⟩:=k4.mp h;obtain⟨hm',e2⟩:=k4.mp h';have key:=List.pairwise_iff_getElem.mp n.2.2.2;have q:∀k (hk:k<js.length),(Zi.ofs js)[k]'(by simpa[Zi.ofs]using hk)=js[k].2.1:=λk hk=>by simp[Zi.ofs]
 have hl:(Zi.ofs js).length=js.length:=by simp[Zi.ofs]
 rcases Nat.lt_trichotomy m m' with g|g|g
 . exact absurd (by rw[q m hm,q m' hm',e1,e2,e]) (key m m' xL xL g)
 . exact g
 . exact absurd (by rw[q m hm,q m' hm',e1,e2,e]) (key m' m xL xL g)
section
theorem C8{α:Type}{xs:List α}{j:Nat}{x:α×Nat}{r:List (α×Nat)}(e:xs.zipIdx.drop j=x::r):x.2=j/\xs[j]?=some x.1/\xs.zipIdx.drop (j+1)=r:=by
 have h0:(xs.zipIdx.drop j)[0]?=some x:=by rw[e];rfl
 rw[List.getElem?_drop,Nat.add_zero,List.getElem?_zipIdx]at h0;have h2:xs.zipIdx.drop (j+1)=r:=by rw[<- List.drop_drop,e];rfl
 cases h:xs[j]? with
 |none=>rw[h]at h0;cases h0
 | some y =>
  rw[h]at h0;simp only[Option.map_some,Nat.zero_add,Option.some.injEq]at h0;subst h0;exact⟨rfl,rfl,h2⟩
theorem Rb{n:Nat}(h:n<=8):n<=sizeLine:=Ur h xp
end
noncomputable def Sk.nm:Sk->String
 |.l=>"list_iterator"
 |.t=>"tuple_iterator"
noncomputable abbrev Sk.itO(k:Sk)(a:Addr):Obj:={cls:=.type k.nm,data:=.fields #[.ref a,.int 0 0] }
section
variable{prog:Program}{w:World}{A:Around}{E:Value->Shared->Prop}{s:Shared}
theorem Sk.iter{k:Sk}{a:Addr}{ys:Array Value}{Q:Value->Shared->Prop}(h:k.Sq s.heap a ys)(hQ:Q (.ref s.heap.objs.size) {s with heap:=s.heap.push (k.itO a) }):wpAny (model prog w) A (pyIter (.ref a)) Q E s:=by
 cases k with
 |l=>exact wpAny_pyIter_list h hQ
 |t=>exact iter_tuple h hQ
end
theorem Sk.itAt{k:Sk}{h:Heap}{j a:Addr}(e:h.get? j=some (k.itO a)):k.At h j a 0:=by
 cases k with
 |l=>exact⟨_,e,rfl,rfl⟩
 |t=>exact⟨_,e,rfl,rfl⟩
noncomputable abbrev zA(h:Heap)(k:Sk)(a:Addr):Heap:=h.push (k.itO a)
noncomputable abbrev zT(h:Heap)(vs:List Value):Heap:=h.push {cls:=.type "tuple",data:=.seq vs.toArray}
noncomputable abbrev zZ(h:Heap)(I O:Addr):Heap:=h.push {cls:=.type "zip",data:=.fields #[.none,.bool false,.bool false,.ref I,.ref O] }
noncomputable abbrev Rc(h:Heap)(k m:Sk)(a b:Addr):Heap:=zT (zA (zA h k a) m b) [.ref h.objs.size,.ref (zA h k a).objs.size]
noncomputable abbrev Re(h:Heap)(k m:Sk)(a b:Addr):Heap:=zT (Rc h k m a b) [.none,.none]
noncomputable abbrev Rf(h:Heap)(k m:Sk)(a b:Addr):Heap:=zZ (Re h k m a b) (zA (zA h k a) m b).objs.size (Rc h k m a b).objs.size
theorem F0(k m:Sk)(a b:Addr)(xs ys:Array Value):Meets (Builtin.«zip.__new__» ⟨[.type "zip",.ref a,.ref b],[]⟩) (λ_ R s=>k.Sq s.heap a xs/\m.Sq s.heap b ys/\R (.ok (.ret (.ref (Re s.heap k m a b).objs.size))) {s with heap:=Rf s.heap k m a b}) :=
 .of_wp λprog w A R s q=>by
  obtain⟨hp,g,d,tk,os⟩:=s;obtain⟨q1,q2,q⟩:=q;have hsub:=sub_zip;have p1:Sk.Sq k (Shared.heap ⟨hp,g,d,tk,os⟩) a xs:=q1;have p2:Sk.Sq m (Shared.heap ⟨hp.push (k.itO a),g,d,tk,os⟩) b ys:=q2.to λo e=>p4 _ e
  wp_walk using Sk.iter p1,Sk.iter p2
  exact⟨_,rfl,q⟩
structure Zq where
 k:Sk
 it:Addr
 a:Addr
 c:List V
noncomputable def Zq.zi(q:Zq):Zi:=(q.k,q.it,q.a)
def Rg(K:PySem.W.Frag)(H:Hp):Sk->Addr->List V->Prop
 |.l,a,xs=>P0 K H a xs
 |.t,a,xs=>P1 K H a xs
section
variable{X:Cx}{ab:List (Addr×Obj)}{σ:St}{H:Hp}{s:Shared}
theorem PU.sqk{k:Sk}{a:Addr}{xs:List V}(I:PU X ab σ H s)(h:Rg X.K H k a xs):∃its:List Value,ck xs its/\k.Sq s.heap a its.toArray:=by
 cases k with
 |l=>obtain⟨its,r,p,_⟩:=I.list h;exact⟨its,r,p.isList⟩
 |t=>obtain⟨its,r,p,_⟩:=I.tuple h;exact⟨its,r,p⟩
end
noncomputable def Rh(K:PySem.W.Frag)(qs:List Zq):It :=
 ⟨λi H=>∀q∈qs,Rg K H q.k q.a q.c/\i<q.c.length,λi H v H'=>∃p,v=.ref p/\H p=none/\H'=PD H p (.tup (qs.map λq=>q.c.getD i .non)),λi H=>(∀q∈qs,Rg K H q.k q.a q.c)/\∃q∈qs,q.c.length<=i⟩
open Classical in
theorem xa{α β:Type}[Inhabited β]{P:α->β->Prop}{l:List α}(h:∀x∈l,∃y,P x y):∃f:α->β,∀x∈l,P x (f x) :=
 ⟨λx=>if hx:x∈l then Classical.choose (h x hx)else default,λx hx=>by
  dsimp only;rw[dif_pos hx]
  exact Classical.choose_spec (h x hx)⟩
theorem ug{α β γ:Type}{F:β->γ->Prop}{f:α->β}{g:α->γ}:∀{l:List α},(∀x∈l,F (f x) (g x))->Paired F (l.map f) (l.map g)
 |[],_=>.nil
 |x::l,h=>.cons (h x tv) (ug λy hy=>h y (k5 _ hy))
theorem AA{K:PySem.W.Frag}{H:Hp}{α:Type}{f:α->V}{g:α->D}:∀{l:List α},(∀x∈l,QC K H (f x) (g x))->bL K H (l.map f) (l.map g)
 |[],_=>.nil
 |x::l,h=>.cons (h x tv) (AA λy hy=>h y (k5 _ hy))
def Ri(K:PySem.W.Frag)(H:Hp):Sk->Addr->List V->Prop
 |.l,a,xs=>QB K H a xs
 |.t,a,xs=>P1 K H a xs
theorem Ri.pres{K:PySem.W.Frag}{H H':Hp}{k:Sk}{a:Addr}{xs:List V}(p:sT H H')(h:Ri K H k a xs):Rg K H' k a xs:=by
 cases k with
 |l=>exact(QB.pres p h).l
 |t=>exact P1.pres p h
noncomputable def Sk.mk:Sk->List D->D
 |.l,xs=>.lst xs
 |.t,xs=>.tup xs
theorem Sk.rep{K:PySem.W.Frag}{H:Hp}{k:Sk}{v:V}{xs:List D}(r:QC K H v (k.mk xs)):∃a vs,v=.ref a/\Ri K H k a vs/\bL K H vs xs:=by
 cases k with
 | l=>cases r with
  |lst h rs=>exact⟨_,_,rfl,h,rs⟩
 | t=>cases r with
  |tup h rs=>exact⟨_,_,rfl,h,rs⟩
theorem xb(xs ys:List D):((List.range (min xs.length ys.length)).map λi=>D.tup [xs.getD i .non,ys.getD i .non])=sV xs ys:=by
 refine List.ext_getElem (by simp[sV]) λi h1 h2=>?_;have:i<min xs.length ys.length:=by simpa using h1
 simp only[List.getElem_map,List.getElem_range,sV,List.getElem_zip];rw[tu,tu,gV xL,gV xL];rfl
section
variable{prog:Program}{w:World}{A:Around}{E:Value->Shared->Prop}{s:Shared}
theorem Bs{k m:Sk}{a b:Addr}{xs ys:Array Value}{Q:Value->Shared->Prop}(ha:k.Sq s.heap a xs)(hb:m.Sq s.heap b ys)
  (h:∀h',Ra (s.heap.objs.size+4) (s.heap.objs.size+2) (s.heap.objs.size+3) [(k,s.heap.objs.size,a),(m,s.heap.objs.size+1,b)] .none 0 h'->(∀c o,s.heap.get? c=some o->h'.get? c=some o)->Q (.ref (s.heap.objs.size+4)) {s with heap:=h' }) :
  wpAny (model prog w) A (call (.type "zip") [.ref a,.ref b]) Q E s:=by
 refine callType_new F.called_zip xp (F.typeCall_zip_2 _ _) (F.newCall_zip_2 _ _) (λobj=>F.args_object_init_3 obj _ _) F.entry_zip_new (F0 k m a b xs ys) ⟨ha,hb,?_⟩;have z1:(zA s.heap k a).objs.size=s.heap.objs.size+1:=Heap.size_push ..;have z2:(zA (zA s.heap k a) m b).objs.size=s.heap.objs.size+2:=by rw[Heap.size_push,z1]
 have z3:(Rc s.heap k m a b).objs.size=s.heap.objs.size+3:=by rw[Heap.size_push,z2]
 have z4:(Re s.heap k m a b).objs.size=s.heap.objs.size+4:=by rw[Heap.size_push,z3]
 have g5:(Rf s.heap k m a b).get? (Re s.heap k m a b).objs.size=some _:=Heap.get?_push_size _ rfl;have g4:(Rf s.heap k m a b).get? (Rc s.heap k m a b).objs.size=some _:=p4 _ (Heap.get?_push_size _ rfl);have g3:(Rf s.heap k m a b).get? (zA (zA s.heap k a) m b).objs.size=some _:=p4 _ (p4 _ (Heap.get?_push_size _ rfl));have g2:(Rf s.heap k m a b).get? (zA s.heap k a).objs.size=some _:=p4 _ (p4 _ (p4 _ (Heap.get?_push_size _ rfl)));have g1:(Rf s.heap k m a b).get? s.heap.objs.size=some _:=p4 _ (p4 _ (p4 _ (p4 _ (Heap.get?_push_size _ rfl))));show _/\_;rw[z2,z3,z4]at g5;rw[z1,z2]at g3;rw[z3]at g4;rw[z1]at g2;rw[z4];refine⟨⟨_,g5,rfl⟩,h _ ⟨g5,g3,⟨_,x_,g4⟩,λp hp=>?_⟩ λc o x=>p4 _ (p4 _ (p4 _ (p4 _ (p4 _ x))))⟩;simp only[Uq,List.not_mem_nil,or_false]at hp;rcases hp with rfl|rfl
 . exact Sk.itAt g1
 . exact Sk.itAt g2
end
def LY(d:D)(k:Sk->List D->Prop):Prop:=match d with
 |.lst xs=>k .l xs
 |.tup xs=>k .t xs
 |_=>False
theorem C9{d:D}{k:Sk->List D->Prop}(h:LY d k):∃s xs,d=Sk.mk s xs/\k s xs:=by
 unfold LY at h;split at h
 . exact⟨.l,_,rfl,h⟩
 . exact⟨.t,_,rfl,h⟩
 . exact h.elim
def Oy(d d2:D)(k:List D->Prop):Prop:=LY d λ_ xs=>LY d2 λ_ ys=>k (sV xs ys)
abbrev Nc(h:Heap)(z I O:Addr)(f:Value)(b:Bool):Prop:=h.get? z=some {cls:=.type "zip",dict:=none,data:=.fields #[f,.bool b,.bool false,.ref I,.ref O],slots:=#[] }
theorem xc{M:Model}{A:Around}{E:Value->Shared->Prop}{s:Shared}{α β:Type}(f:α->β->Sem (ForInStep β))(J:List α->β->Shared->Prop)(Q:β->Shared->Prop)
  (turn:∀x dF b s,J (x::dF) b s->wpAny M A (f x b) (λr s'=>match r with | .yield b'=>J dF b' s' | .done b'=>Q b' s') E s) (PZ:∀b s,J [] b s->Q b s) (xs:Array α) (b:β) (h:J xs.toList b s):wpAny M A (forIn xs b f) Q E s:=by
 rw[<- Array.forIn_toList];exact wpAny_forIn_list f J Q turn PZ _ b h
section
variable{prog:Program}{w:World}{A:Around}{E:Value->Shared->Prop}{s:Shared}{z I O:Addr}{js:List Zi}{i:Nat}
theorem F4{a:Addr}{Q:Option Obj->Shared->Prop}(h:Q (s.heap.get? a) s):wpAny (model prog w) A (loadIfAlive a) Q E s:=λΓ p hΓ=>by show Sem.wp _ Γ (.loadIfAlive a .pure) _ _ p s;rw[Sem.wp_loadIfAlive];exact h
theorem AB{f:Value}{b:Bool}{Q:Bool->Shared->Prop}(hz:Nc s.heap z I O f b)(hf:f=.none∨∃T:Nat,f=rawInt T)(h1:Q true s)(h2:∀h' b',Nc h' z I O f b'->Heap.SameBut z s.heap h'->Q false {s with heap:=h' }) :
  wpAny (model prog w) A (Builtin.SmallTypes.ownedTupleIsFree (.ref z)) Q E s:=by
 unfold Builtin.SmallTypes.ownedTupleIsFree;refine kS (wpAny_field hz rfl (x:=f) rfl ?_);rcases hf with rfl|⟨T,rfl⟩
 . exact Uw h1
 .
  show wpAny _ _ (loadIfAlive (T:Int).toNat >>= _) _ _ s;refine kS (F4 ?_)
  cases hT:s.heap.get? (T:Int).toNat with
  |none=>exact Uw h1
  | some o =>
   show wpAny _ _ (field (.ref z) 1 >>= _) _ _ s;refine kS (wpAny_field hz rfl (x:=.bool b) rfl ?_)
   cases b with
   |true=>exact Uw (h2 s.heap true hz ⟨rfl,λ_ _=>rfl⟩)
   | false =>
    show wpAny _ _ (setField (.ref z) 1 (.bool true) >>= _) _ _ s;exact kS (wpAny_setField_rec hz x_ λh' hz' hs'=>Uw (h2 h' true hz' hs'))
structure Rj (zo:Obj) (z O:Addr) (js:List Zi) (xs:List Value) (i j:Nat) (h₀ h:Heap):Prop where
 hz:h.get? z=some zo
 hO:∃os,os.length=js.length/\fc h O os/\os.take j=xs.take j
 ahead:∀m p,m<j->js[m]?=some p->p.1.At h p.2.1 p.2.2 (i+1)
 behind:∀m p,j<=m->js[m]?=some p->p.1.At h p.2.1 p.2.2 i
 keep:C7 z O js h₀ h
 sz:h.objs.size=h₀.objs.size
theorem Rj.next(D:ZA z I O js){zo:Obj}{xs os:List Value}{j:Nat}{p:Zi}{x:Value}{h₀ h h1:Heap}(hj:js[j]?=some p)(hx:xs[j]?=some x)(M:Rj zo z O js xs i j h₀ h)(a1:p.1.At h1 p.2.1 p.2.2 (i+1))(s1:Heap.SameBut p.2.1 h h1)
  (ol:os.length=js.length) (ho1:fc h1 O os) (ht:os.take j=xs.take j):Rj zo z O js xs i (j+1) h₀ (h1.update O (Obj.mapSeq (·.setIfInBounds j x))):=by
 have pm:p∈js:=List.mem_of_getElem? hj;have jl:j<js.length:=(k4.mp hj).1;have s2:Heap.SameBut O h1 (h1.update O (Obj.mapSeq (·.setIfInBounds j x))):=Heap.SameBut.update ..;have ho2:fc (h1.update O (Obj.mapSeq (·.setIfInBounds j x))) O (os.set j x):=by show Heap.get? _ _=_;rw[Heap.get?_update_self _ ho1 rfl];simp[Obj.mapSeq]
 have k2:∀c o,c≠O->c≠p.2.1->h.get? c=some o->(h1.update O (Obj.mapSeq (·.setIfInBounds j x))).get? c=some o:=λc o n1 n2 e=>s2.extBut _ _ n1 (s1.extBut _ _ n2 e);refine⟨k2 _ _ D.zO (Ne.symm (D.zj pm).1) M.hz,⟨os.set j x,by simp[ol],ho2,?_⟩,λm q hm hq=>?_,λm q hm hq=>?_,λc o hc e=>?_,by rw[s2.1,s1.1];exact M.sz⟩
 . have hxl:j<xs.length:=(k4.mp hx).1;rw[List.take_succ,List.take_succ,List.getElem?_set_self xL,hx,List.take_set_of_le (Uu _),ht]
 .
  have qm:q∈js:=List.mem_of_getElem? hq;rcases Nat.lt_or_ge m j with h|h
  .
   have ne:q.2.1≠p.2.1:=λe=>by have:=D.inj hq hj e;omega
   exact(M.ahead m q h hq).to λo e=>k2 _ o (D.zj qm).2 ne e
  .
   have:m=j:=by omega
   subst this;rw[hj]at hq;cases hq;exact a1.to λo e=>s2.extBut _ _ (D.zj pm).2 e
 .
  have qm:q∈js:=List.mem_of_getElem? hq;have ne:q.2.1≠p.2.1:=λe=>by have:=D.inj hq hj e;omega
  exact(M.behind m q xL hq).to λo e=>k2 _ o (D.zj qm).2 ne e
 . have n:=hc;simp only[Uq,not_or]at n;exact k2 c o n.2.1 (λq=>n.2.2 (q ▸ ja pm)) (M.keep c o hc e)
structure Rk (z I O:Addr) (js:List Zi) (i:Nat) (h:Heap):Prop where
 hz:∃f b,(f=.none∨∃T:Nat,f=rawInt T)/\Nc h z I O f b
 hI:fc h I ((Zi.ofs js).map .ref)
 hO:∃os,os.length=js.length/\fc h O os
 at':∀p∈js,p.1.At h p.2.1 p.2.2 i
structure Rl (zo:Obj) (z O:Addr) (js:List Zi) (i j:Nat) (h₀ h:Heap):Prop where
 hz:h.get? z=some zo
 hO:∃os,os.length=js.length/\fc h O os
 ahead:∀m p,m<j->js[m]?=some p->p.1.At h p.2.1 p.2.2 (i+1)
 behind:∀m p,j<=m->js[m]?=some p->p.1.At h p.2.1 p.2.2 i
 keep:C7 z O js h₀ h
 sz:h.objs.size=h₀.objs.size
theorem Rl.next(D:ZA z I O js){zo:Obj}{j:Nat}{p:Zi}{h₀ h h1:Heap}(hj:js[j]?=some p)(M:Rl zo z O js i j h₀ h)(a1:p.1.At h1 p.2.1 p.2.2 (i+1))(s1:Heap.SameBut p.2.1 h h1):Rl zo z O js i (j+1) h₀ h1:=by
 have pm:p∈js:=List.mem_of_getElem? hj;obtain⟨os,ol,ho⟩:=M.hO;have k2:∀c o,c≠p.2.1->h.get? c=some o->h1.get? c=some o:=λc o n e=>s1.extBut _ _ n e;refine⟨k2 _ _ (Ne.symm (D.zj pm).1) M.hz,⟨os,ol,k2 _ _ (Ne.symm (D.zj pm).2) ho⟩,λm q hm hq=>?_,λm q hm hq=>?_,λc o hc e=>?_,by rw[s1.1];exact M.sz⟩
 .
  rcases Nat.lt_or_ge m j with h|h
  .
   have ne:q.2.1≠p.2.1:=λe=>by have:=D.inj hq hj e;omega
   exact(M.ahead m q h hq).to λo e=>k2 _ o ne e
  .
   have:m=j:=by omega
   subst this;rw[hj]at hq;cases hq;exact a1
 .
  have ne:q.2.1≠p.2.1:=λe=>by have:=D.inj hq hj e;omega
  exact(M.behind m q xL hq).to λo e=>k2 _ o ne e
 . have n:=hc;simp only[Uq,not_or]at n;exact k2 c o (λq=>n.2.2 (q ▸ ja pm)) (M.keep c o hc e)
theorem HL{x:Value×Nat}{dF:List (Value×Nat)}{j:Nat}(er:((Zi.ofs js).map Value.ref).zipIdx.drop j=x::dF):∃p,js[j]?=some p/\x=(.ref p.2.1,j)/\((Zi.ofs js).map Value.ref).zipIdx.drop (j+1)=dF:=by obtain⟨e1,e2,e3⟩:=C8 er;rw[List.getElem?_map]at e2;obtain⟨y,e4,e5⟩:=Option.map_eq_some_iff.mp e2;unfold Zi.ofs at e4;rw[List.getElem?_map]at e4;obtain⟨p,hp,e6⟩:=Option.map_eq_some_iff.mp e4;exact⟨p,hp,Prod.ext (by rw[<- e5,<- e6]) e1,e3⟩
noncomputable abbrev Nd(I O:Addr)(b:Bool):Obj:={cls:=.type "zip",dict:=none,data:=.fields #[.ellipsis,.bool b,.bool false,.ref I,.ref O],slots:=#[] }
noncomputable abbrev Ng(I O:Addr)(f:Value)(b:Bool):Obj:={cls:=.type "zip",dict:=none,data:=.fields #[f,.bool b,.bool false,.ref I,.ref O],slots:=#[] }
theorem Da{x:Value}{dF:List Value}{j:Nat}(er:((Zi.ofs js).map Value.ref).drop j=x::dF):∃p,js[j]?=some p/\x=.ref p.2.1/\((Zi.ofs js).map Value.ref).drop (j+1)=dF:=by
 have h0:(((Zi.ofs js).map Value.ref).drop j)[0]?=some x:=by rw[er];rfl
 rw[List.getElem?_drop,Nat.add_zero,List.getElem?_map]at h0;obtain⟨y,e4,e5⟩:=Option.map_eq_some_iff.mp h0;unfold Zi.ofs at e4;rw[List.getElem?_map]at e4;obtain⟨p,hp,e6⟩:=Option.map_eq_some_iff.mp e4;exact⟨p,hp,by rw[<- e5,<- e6],by rw[<- List.drop_drop,er];rfl⟩
theorem Rl.put(D:ZA z I O js){zo:Obj}{j k:Nat}{x:Value}{os:List Value}{h₀ h:Heap}(M:Rl zo z O js i j h₀ h)(hk:k<js.length)(ho:fc h O os)(ol:os.length=js.length):Rl zo z O js i j h₀ (h.update O (Obj.mapSeq (·.setIfInBounds k x))):=by have s2:Heap.SameBut O h (h.update O (Obj.mapSeq (·.setIfInBounds k x))):=Heap.SameBut.update ..;refine⟨s2.extBut _ _ D.zO M.hz,⟨os.set k x,by simp[ol],?_⟩,λm p hm hp=>(M.ahead m p hm hp).to λo e=>s2.extBut _ _ (D.zj (List.mem_of_getElem? hp)).2 e,λm p hm hp=>(M.behind m p hm hp).to λo e=>s2.extBut _ _ (D.zj (List.mem_of_getElem? hp)).2 e,λc o hc e=>s2.extBut _ _ (λq=>hc (by simp[q])) (M.keep c o hc e),by rw[s2.1];exact M.sz⟩;show Heap.get? _ _=_;rw[Heap.get?_update_self _ ho rfl];simp[Obj.mapSeq]
theorem Ma(h1:js≠[]):((Zi.ofs js).map Value.ref).toArray.isEmpty=false:=by
 cases js with
 |nil=>exact absurd rfl h1
 |cons p r=>rfl
theorem Jo(D:ZA z I O js)(st:Rk z I O js i s.heap){xs:List Value}(hl:xs.length=js.length)(h1:js≠[])(h8:js.length<=8)(hv:∀(j:Nat) (p:Zi) (x:Value),js[j]?=some p->xs[j]?=some x->∃ys,p.1.Sq s.heap p.2.2 ys/\ys[i]?=some x){Q:Value->Shared->Prop}
  (hQ:∀h',Rk z I O js (i+1) h'->fc h' s.heap.objs.size xs->C7 z O js s.heap h'->Q (.ref s.heap.objs.size) {s with heap:=h' }) :
  wpAny (model prog w) A (Builtin.«zip.__next__» ⟨[.ref z],[]⟩) (λr s'=>∃v,r=.done (.ret v)/\Q v s') E s:=by
 obtain⟨⟨f,b,hf,hz⟩,hI,⟨os,ol,hO⟩,at'⟩:=st;have Iz:=D.Iz;simp only[Uq,not_or]at Iz;show wpAny _ _ (field (.ref z) 2 >>= _) _ _ s;refine kS (wpAny_field hz rfl (x:=.bool false) rfl ?_);show wpAny _ _ (field (.ref z) 3 >>= _) _ _ s;refine kS (wpAny_field hz rfl (x:=.ref I) rfl ?_);refine kS (wpAny_seqItems hI rfl ?_)
 show wpAny _ _ (if(_:Array Value).isEmpty=true then _ else _) _ _ s
 rw[if_neg (by rw[Ma h1];exact Bool.false_ne_true)];show wpAny _ _ (Builtin.SmallTypes.ownedTupleIsFree (.ref z) >>= _) _ _ s;refine kS (AB hz hf ?_ λh₁ b' hz₁ hs₁=>?_)
 .
  simp only[if_true];refine kS (wpAny_rule (kS (wpAny_field hz rfl (x:=.ref O) rfl ?_)));refine kS (wpAny_setField_rec hz x_ λh₁ hz₁ hs₁=>?_);have M0:Rj (Nd I O b) z O js xs i 0 s.heap h₁:=by refine⟨hz₁,⟨os,ol,hs₁.extBut _ _ (Ne.symm D.zO) hO,x_⟩,λm p hm=>by omega,λm p _ hp=>(at' p (List.mem_of_getElem? hp)).to λo e=>hs₁.extBut _ _ (D.zj (List.mem_of_getElem? hp)).1 e,λc o hc e=>?_,hs₁.1⟩;exact hs₁.extBut _ _ (λq=>hc (by simp[q])) e
  refine kS (wpAny_forIn_list _ (λdF bb s1=>∃j,((Zi.ofs js).map Value.ref).zipIdx.drop j=dF/\bb=(none,())/\j<=js.length/\Rj (Nd I O b) z O js xs i j s.heap s1.heap/\s1={s with heap:=s1.heap}) _ ?_ ?_ _ _ ⟨0,rfl,rfl,Nat.zero_le _,M0,rfl⟩)
  .
   rintro x dF bb s1 ⟨j,er,rfl,hjl,M,es⟩;obtain⟨p,hp,rfl,e3⟩:=HL er;have jl:j<js.length:=(k4.mp hp).1;obtain⟨ys,sq,hy⟩:=hv j p xs[j] hp (gV xL);have pm:p∈js:=List.mem_of_getElem? hp;refine kS (wpAny_onRaise ?_);show wpAny _ _ (Builtin.SmallTypes.nextOf (.ref p.2.1) >>= _) _ _ s1;refine kS (Sk.draw (M.behind j p (Uu _) hp) (sq.to λo e=>M.keep _ o (D.src p pm) e) hy λh1 a1 k1=>Uw ?_);obtain⟨os1,ol1,ho,ht⟩:=M.hO;have ho1:fc h1 O os1:=k1.extBut _ _ (Ne.symm (D.zj pm).2) ho;refine kS (wpAny_seqItems ho1 rfl ?_);refine kS (wpAny_updateSeq ho1 rfl ?_ (by simp;exact Rb xL) (by simp;exact Ur (Rb xL) (Nat.le_succ _)));refine kS (wpAny_letGo (Uw ?_))
   exact⟨j+1,e3,rfl,jl,M.next D hp (gV xL) a1 k1 ol1 ho1 ht,by rw[es]⟩
  .
   rintro bb s1 ⟨j,er,rfl,hjl,M,es⟩;have jn:j=js.length:=by have:=congrArg List.length er;simp[Zi.ofs]at this;omega
   subst jn;obtain⟨os1,ol1,ho,ht⟩:=M.hO;have eo:os1=xs:=by rw[List.take_of_length_le xL,List.take_of_length_le xL]at ht;exact ht
   subst eo;refine kS (wpAny_seqItems ho rfl ?_);refine kS (wpAny_newTuple ?_ (by simp;exact Rb xL));have hz1:=p4 {cls:=.type "tuple",data:=.seq os1.toArray} M.hz;show wpAny _ _ (Builtin.SmallTypes.ownedTupleHandOut (.ref z) (.ref s1.heap.objs.size) >>= _) _ _ {s1 with heap:=_};refine kS ?_;unfold Builtin.SmallTypes.ownedTupleHandOut;refine kS (wpAny_setField_rec hz1 x_ λh2 hz2 k2=>?_);refine wpAny_setField_rec hz2 x_ λh3 hz3 k3=>?_;replace hz3:Nc h3 z I O (rawInt s1.heap.objs.size) false:=hz3;have up:∀c o,c≠z->s1.heap.get? c=some o->h3.get? c=some o:=λc o n e=>k3.extBut _ _ n (k2.extBut _ _ n (p4 _ e));have zl:z<s1.heap.objs.size:=Ut M.hz;have T:fc h3 s1.heap.objs.size os1:=k3.extBut _ _ (Nat.ne_of_gt zl) (k2.extBut _ _ (Nat.ne_of_gt zl) (Heap.get?_push_size _ rfl));have es1:=M.sz;rw[es1]at hz3 T;refine Uw ⟨_,rfl,?_⟩;show Q (.ref s1.heap.objs.size) _;rw[es1,es];refine hQ h3 ⟨⟨_,_,.inr ⟨_,rfl⟩,hz3⟩,up _ _ Iz.1 (M.keep _ _ D.Iz hI),⟨os1,ol1,up _ _ (Ne.symm D.zO) ho⟩,λp hp=>?_⟩ T λc o hc e=>up c o (λq=>hc (by simp[q])) (M.keep c o hc e);obtain⟨m,hm,e⟩:=List.mem_iff_getElem.mp hp;exact(M.ahead m p hm (by rw[gV hm,e])).to λo q=>up _ o (D.zj hp).1 q
 .
  simp only[Bool.false_eq_true,if_false];have M0:Rl (Ng I O f b') z O js i 0 s.heap h₁:=by refine⟨hz₁,⟨os,ol,hs₁.extBut _ _ (Ne.symm D.zO) hO⟩,λm p hm=>by omega,λm p _ hp=>(at' p (List.mem_of_getElem? hp)).to λo e=>hs₁.extBut _ _ (D.zj (List.mem_of_getElem? hp)).1 e,λc o hc e=>?_,hs₁.1⟩;exact hs₁.extBut _ _ (λq=>hc (by simp[q])) e
  refine kS (xc _ (λdF bb s1=>∃j,((Zi.ofs js).map Value.ref).drop j=dF/\bb=(none,(xs.take j).toArray)/\j<=js.length/\Rl (Ng I O f b') z O js i j s.heap s1.heap/\s1={s with heap:=s1.heap}) _ ?_ ?_ _ _ ⟨0,x_,x_,Nat.zero_le _,M0,rfl⟩)
  .
   rintro x dF bb s1 ⟨j,er,rfl,hjl,M,es⟩;obtain⟨p,hp,rfl,e3⟩:=Da er;have jl:j<js.length:=(k4.mp hp).1;obtain⟨ys,sq,hy⟩:=hv j p xs[j] hp (gV xL);have pm:p∈js:=List.mem_of_getElem? hp;refine kS (wpAny_holding ?_);show wpAny _ _ (Builtin.SmallTypes.nextOf (.ref p.2.1) >>= _) _ _ s1;refine kS (Sk.draw (M.behind j p (Uu _) hp) (sq.to λo e=>M.keep _ o (D.src p pm) e) hy λh1 a1 k1=>Uw ?_)
   refine Uw ⟨j+1,e3,?_,jl,M.next D hp a1 k1,by rw[es]⟩
   rw[List.take_succ,gV xL];simp
  .
   rintro bb s1 ⟨j,er,rfl,hjl,M,es⟩;have jn:j=js.length:=by have:=congrArg List.length er;simp[Zi.ofs]at this;omega
   subst jn;rw[List.take_of_length_le xL];obtain⟨os1,ol1,ho⟩:=M.hO;refine kS (wpAny_newTuple ?_ (by simp;exact Rb xL));have es1:=M.sz;refine Uw ⟨_,rfl,?_⟩;show Q (.ref s1.heap.objs.size) _;have up:∀ c o,s1.heap.get? c=some o->(s1.heap.push {cls:=.type "tuple",data:=.seq xs.toArray}).get? c=some o:=λc o e=>p4 _ e;have T:fc (s1.heap.push {cls:=.type "tuple",data:=.seq xs.toArray}) s1.heap.objs.size xs:=Heap.get?_push_size _ rfl;rw[es1]at T;rw[es1,es];refine hQ _ ⟨⟨_,_,hf,up _ _ M.hz⟩,up _ _ (M.keep _ _ D.Iz hI),⟨os1,ol1,up _ _ ho⟩,λp hp=>?_⟩ T λc o hc e=>up c o (M.keep c o hc e);obtain⟨m,hm,e⟩:=List.mem_iff_getElem.mp hp;exact(M.ahead m p hm (by rw[gV hm,e])).to λo q=>up _ o q
theorem Jp(D:ZA z I O js)(st:Rk z I O js i s.heap)(h0:A.handled=none)(h1:js≠[])(h8:js.length<=8)(Y:Zi->Array Value)(hv:∀p∈js,p.1.Sq s.heap p.2.2 (Y p))(he:∃p∈js,(Y p)[i]?=none){Q:Fin->Shared->Prop}
  (hE:∀ h' e,C7 z O js s.heap h'->(∃ o,h'.get? e=some o/\o.cls=.type "StopIteration")->E (.ref e) {s with heap:=h' }) :
  wpAny (model prog w) A (Builtin.«zip.__next__» ⟨[.ref z],[]⟩) Q E s:=by
 obtain⟨⟨f,b,hf,hz⟩,hI,⟨os,ol,hO⟩,at'⟩:=st;obtain⟨p0,hp0,hn0⟩:=he;obtain⟨m0,hm0,em0⟩:=List.mem_iff_getElem.mp hp0;show wpAny _ _ (field (.ref z) 2 >>= _) _ _ s;refine kS (wpAny_field hz rfl (x:=.bool false) rfl ?_);show wpAny _ _ (field (.ref z) 3 >>= _) _ _ s;refine kS (wpAny_field hz rfl (x:=.ref I) rfl ?_);refine kS (wpAny_seqItems hI rfl ?_)
 show wpAny _ _ (if(_:Array Value).isEmpty=true then _ else _) _ _ s
 rw[if_neg (by rw[Ma h1];exact Bool.false_ne_true)];show wpAny _ _ (Builtin.SmallTypes.ownedTupleIsFree (.ref z) >>= _) _ _ s;refine kS (AB hz hf ?_ λh₁ b' hz₁ hs₁=>?_)
 .
  simp only[if_true];refine kS (wpAny_rule (kS (wpAny_field hz rfl (x:=.ref O) rfl ?_)));refine kS (wpAny_setField_rec hz x_ λh₁ hz₁ hs₁=>?_);have M0:Rl (Nd I O b) z O js i 0 s.heap h₁:=by refine⟨hz₁,⟨os,ol,hs₁.extBut _ _ (Ne.symm D.zO) hO⟩,λm p hm=>by omega,λm p _ hp=>(at' p (List.mem_of_getElem? hp)).to λo e=>hs₁.extBut _ _ (D.zj (List.mem_of_getElem? hp)).1 e,λc o hc e=>?_,hs₁.1⟩;exact hs₁.extBut _ _ (λq=>hc (by simp[q])) e
  refine kS (wpAny_forIn_list _ (λdF bb s1=>∃j,((Zi.ofs js).map Value.ref).zipIdx.drop j=dF/\bb=(none,())/\j<=js.length/\Rl (Nd I O b) z O js i j s.heap s1.heap/\s1={s with heap:=s1.heap}/\j<=m0) _ ?_ ?_ _ _ ⟨0,rfl,rfl,Nat.zero_le _,M0,rfl,Nat.zero_le _⟩)
  .
   rintro x dF bb s1 ⟨j,er,rfl,hjl,M,es,hj0⟩;obtain⟨p,hp,rfl,e3⟩:=HL er;have jl:j<js.length:=(k4.mp hp).1;have pm:p∈js:=List.mem_of_getElem? hp;have sq:=hv p pm;refine kS (wpAny_onRaise ?_);show wpAny _ _ (Builtin.SmallTypes.nextOf (.ref p.2.1) >>= _) _ _ s1
   cases hy:(Y p)[i]? with
   | none =>
    refine kS (Sk.drawE h0 (M.behind j p (Uu _) hp) (sq.to λo e=>M.keep _ o (D.src p pm) e) hy λh1 e k1 ho=>?_);obtain⟨oe,he,ce⟩:=ho;have hz2:=k1 _ _ (Ne.symm (D.zj pm).1) M.hz;have ne:e≠z:=λx=>by subst x;rw[hz2]at he;cases he;simp at ce
    refine wpAny_setField_rec hz2 x_ λh3 _ k3=>?_;rw[es];refine hE h3 e (λc o hc q=>?_) ⟨oe,k3.extBut _ _ ne he,ce⟩;have hc':=hc;simp only[Uq,not_or]at hc';exact k3.extBut _ _ hc'.1 (k1 _ _ (λq=>hc'.2.2 (q ▸ ja pm)) (M.keep c o hc q))
   |some v =>
   have nj:j≠m0:=λq=>by subst q;rw[gV jl,em0]at hp;cases hp;rw[hn0]at hy;cases hy
   refine kS (Sk.draw (M.behind j p (Uu _) hp) (sq.to λo e=>M.keep _ o (D.src p pm) e) hy λh1 a1 k1=>Uw ?_)
   have M1:=M.next D hp a1 k1
   obtain⟨os1,ol1,ho1⟩:=M1.hO;refine kS (wpAny_seqItems ho1 rfl ?_);refine kS (wpAny_updateSeq ho1 rfl ?_ (by simp;exact Rb xL) (by simp;exact Ur (Rb xL) (Nat.le_succ _)));refine kS (wpAny_letGo (Uw ?_));refine⟨j+1,e3,rfl,jl,M1.put D (k4.mp hp).1 ho1 ol1,by rw[es],xL⟩
  .
   rintro bb s1 ⟨j,er,rfl,hjl,M,es,hj0⟩;have jn:j=js.length:=by have:=congrArg List.length er;simp[Zi.ofs]at this;omega
   omega
 .
  simp only[Bool.false_eq_true,if_false];have M0:Rl (Ng I O f b') z O js i 0 s.heap h₁:=by refine⟨hz₁,⟨os,ol,hs₁.extBut _ _ (Ne.symm D.zO) hO⟩,λm p hm=>by omega,λm p _ hp=>(at' p (List.mem_of_getElem? hp)).to λo e=>hs₁.extBut _ _ (D.zj (List.mem_of_getElem? hp)).1 e,λc o hc e=>?_,hs₁.1⟩;exact hs₁.extBut _ _ (λq=>hc (by simp[q])) e
  refine kS (xc _ (λdF bb s1=>∃j,((Zi.ofs js).map Value.ref).drop j=dF/\bb.1=none/\j<=js.length/\Rl (Ng I O f b') z O js i j s.heap s1.heap/\s1={s with heap:=s1.heap}/\j<=m0) _ ?_ ?_ _ _ ⟨0,x_,rfl,Nat.zero_le _,M0,rfl,Nat.zero_le _⟩)
  .
   rintro x dF bb s1 ⟨j,er,hbb,hjl,M,es,hj0⟩;obtain⟨p,hp,rfl,e3⟩:=Da er;have jl:j<js.length:=(k4.mp hp).1;have pm:p∈js:=List.mem_of_getElem? hp;have sq:=hv p pm;refine kS (wpAny_holding ?_);show wpAny _ _ (Builtin.SmallTypes.nextOf (.ref p.2.1) >>= _) _ _ s1
   cases hy:(Y p)[i]? with
   | none =>
    refine kS (Sk.drawE h0 (M.behind j p (Uu _) hp) (sq.to λo e=>M.keep _ o (D.src p pm) e) hy λh1 e k1 ho=>?_);rw[es];refine hE h1 e (λc o hc q=>?_) ho;have hc':=hc;simp only[Uq,not_or]at hc';exact k1 _ _ (λq=>hc'.2.2 (q ▸ ja pm)) (M.keep c o hc q)
   |some v =>
   have nj:j≠m0:=λq=>by subst q;rw[gV jl,em0]at hp;cases hp;rw[hn0]at hy;cases hy
   refine kS (Sk.draw (M.behind j p (Uu _) hp) (sq.to λo e=>M.keep _ o (D.src p pm) e) hy λh1 a1 k1=>Uw ?_)
   exact Uw ⟨j+1,e3,rfl,jl,M.next D hp a1 k1,by rw[es],xL⟩
  .
   rintro bb s1 ⟨j,er,hbb,hjl,M,es,hj0⟩;have jn:j=js.length:=by have:=congrArg List.length er;simp[Zi.ofs]at this;omega
   omega
end
theorem Bt:typeLookup (.type "zip") "__len__"=pure none:=by rw[typeLookup_type,builtinLookup_eq_fast]; kernel_rfl
theorem yT:typeLookup (.type "zip") "__length_hint__"=pure none:=by rw[typeLookup_type,builtinLookup_eq_fast]; kernel_rfl
section
variable{prog:Program}{w:World}{A:Around}{s:Shared}{R:Result->Shared->Prop}{z I O S:Addr}{js:List Zi}
structure LZ (z I O S:Addr) (js:List Zi) (Y:Zi->Array Value) (row:Nat->List Value) (i:Nat) (acc:Array Value) (h:Heap):Prop where
 st:Rk z I O js i h
 src:∀p∈js,p.1.Sq h p.2.2 (Y p)
 lst:∃ c,h.get? S=some {cls:=.type "list",dict:=none,data:=.seq acc c,slots:=#[] }
 size:acc.size=i
 its:∀m,m<i->∃T,acc[m]?=some (.ref T)/\fc h T (row m)/\T∉z::O::Zi.ofs js/\S<T
theorem F5{h:Heap}(st:Rk z I O js i h):h.objs.size∉z::O::Zi.ofs js:=λhm=>by
 obtain⟨f,b,_,hz⟩:=st.hz;obtain⟨os,_,hO⟩:=st.hO;rcases Uq.mp hm with e|hm
 . exact absurd (Ut hz) (by rw[<- e];exact Nat.lt_irrefl _)
 rcases Uq.mp hm with e|hm
 . exact absurd (Ut hO) (by rw[<- e];exact Nat.lt_irrefl _)
 . obtain⟨p,hp,e⟩:=List.mem_map.mp hm;obtain⟨o,eo,_⟩:=(st.at' p hp).obj;exact absurd (Ut eo) (by rw[e];exact Nat.lt_irrefl _)
theorem Jq(D:ZA z I O js)(hS:S∉z::I::O::Zi.ofs js)(hSs:∀p∈js,p.2.2≠S)(h0:A.handled=none)(h1:js≠[])(h8:js.length<=8)(Y:Zi->Array Value)(row:Nat->List Value){n:Nat}(hn:n<=sizeLine)(hr:∀m,m<n->(row m).length=js.length/\∀(j:Nat) (p:Zi) (x:Value),js[j]?=some p->(row m)[j]?=some x->(Y p)[m]?=some x)
  (he:∃p∈js,(Y p)[n]?=none) (res:Value):∀(k i:Nat)(s:Shared)(acc:Array Value),n-i=k->i<=n->LZ z I O S js Y row i acc s.heap ->
  (∀ h' acc',LZ z I O S js Y row n acc' h'∨True->(∃ c,h'.get? S=some {cls:=.type "list",dict:=none,data:=.seq acc' c,slots:=#[] })->acc'.size=n->(∀ m,m < n->∃ T,acc'[m]?=some (.ref T)/\fc h' T (row m)/\S < T)->(∀ c o,c∉S::z::O::Zi.ofs js->s.heap.get? c=some o->h'.get? c=some o)->R (.ok (.ret res)) {s with heap:=h' }) ->
  codeAny (model prog w) A (.builtin "list.extend.loop" ⟨[.ref S,.ref z,res],[]⟩) R s:=by
 have nS:S∉z::O::Zi.ofs js:=λq=>hS (by
  rcases Uq.mp q with e|q
  . rw[e];exact tv
  .
   exact k5 _ (k5 _ q))
 intro k
 induction k with
 | zero =>
  intro i s acc hk hi L hR;have:i=n:=by omega
  subst this;refine codeAny_builtin F.entry_extend_loop ?_;rw[Around.under_plainId F.plain_extend_loop _];show wpAny _ A.in1 (pyNext (.ref z) >>= _) _ _ s;obtain⟨f,b,hf,hz⟩:=L.st.hz;have ty:s.TypeIs (.ref z) "zip":=⟨_,hz,rfl⟩;refine kS ?_;unfold pyNext;refine kS (wpAny_attempt (wpAny_callSpecial?_slot (name:=Str.ofString "__next__") ty F.slot_zip_next (wpAny_call_entry F.slot_zip_next ty F.entry_zip_next (Jp (A:=A.in1.in1) D L.st h0 h1 h8 Y L.src he λh' e k he=>?_) (F.args_zip_next_1 _))));obtain⟨o,ho,hc⟩:=he;refine kS (wpAny_isInstance (T:="StopIteration") (b:=true) ⟨o,ho,hc⟩ isSubtype_stop (Uw (Uw ?_)));obtain⟨c,hc⟩:=L.lst;refine hR h' acc (.inr trivial) ⟨c,k _ _ nS hc⟩ L.size (λm hm=>?_) λc o hc e=>k c o (λq=>hc (k5 _ q)) e;obtain⟨T,t1,t2,t3,t4⟩:=L.its m hm;exact⟨T,t1,k _ _ t3 t2,t4⟩
 | succ k ih =>
  intro i s acc hk hi L hR;have lt:i<n:=by omega
  obtain⟨rl,rv⟩:=hr i lt;refine codeAny_builtin F.entry_extend_loop ?_;rw[Around.under_plainId F.plain_extend_loop _];show wpAny _ A.in1 (pyNext (.ref z) >>= _) _ _ s;obtain⟨f,b,hf,hz⟩:=L.st.hz;have ty:s.TypeIs (.ref z) "zip":=⟨_,hz,rfl⟩;refine kS ?_;unfold pyNext;refine kS (wpAny_attempt (wpAny_callSpecial?_slot (name:=Str.ofString "__next__") ty F.slot_zip_next (wpAny_call_entry F.slot_zip_next ty F.entry_zip_next (Jo D L.st rl h1 h8 (λj p x hp hx=>⟨Y p,L.src p (List.mem_of_getElem? hp),rv j p x hp hx⟩) λh' st' hT hk'=>Uw ?_) (F.args_zip_next_1 _))));obtain⟨c,hc⟩:=L.lst;have hc':=hk' _ _ nS hc;have sl:S<s.heap.objs.size:=Ut hc;show wpAny _ A.in1 (updateSeq S (·.push (.ref s.heap.objs.size)) >>= _) _ _ {s with heap:=h' };refine kS (wpAny_updateSeq hc' rfl (Uw ⟨plainId_quiet F.plain_extend_loop _,ih (i+1) _ (acc.push (.ref s.heap.objs.size)) xL lt ?_ λh'' acc' hz'' q1 q2 q3 q4=>?_⟩) (by rw[L.size];omega) (by show(acc.push _).size<=sizeLine+1;rw[Array.size_push,L.size];omega))
  .
   have s2:Heap.SameBut S h' (h'.update S (Obj.mapSeq (·.push (.ref s.heap.objs.size)))):=Heap.SameBut.update ..;have up:∀c o,c≠S->h'.get? c=some o->(h'.update S (Obj.mapSeq (·.push (.ref s.heap.objs.size)))).get? c=some o:=λc o n e=>s2.extBut _ _ n e;have hS':=hS;simp only[Uq,not_or]at hS';obtain⟨⟨f',b',hf',hz'⟩,hI',⟨os,ol,hO'⟩,at'⟩:=st';refine⟨⟨⟨f',b',hf',up _ _ (Ne.symm hS'.1) hz'⟩,up _ _ (Ne.symm hS'.2.1) hI',⟨os,ol,up _ _ (Ne.symm hS'.2.2.1) hO'⟩,λp hp=>(at' p hp).to λo e=>up _ o (λq=>hS'.2.2.2 (q ▸ ja hp)) e⟩,λp hp=>?_,⟨_,Heap.get?_update_self _ hc' rfl⟩,by rw[Array.size_push,L.size],λm hm=>?_⟩
   . exact((L.src p hp).to λo e=>hk' _ _ (D.src p hp) e).to λo e=>up _ o (hSs p hp) e
   .
    rcases Nat.lt_or_ge m i with g|g
    . obtain⟨T,t1,t2,t3,t4⟩:=L.its m g;refine⟨T,?_,up _ _ (Nat.ne_of_gt t4) (hk' _ _ t3 t2),t3,t4⟩;rw[Array.getElem?_push_lt (by rw[L.size];exact g),<- Array.getElem?_eq_getElem];exact t1
    .
     have:m=i:=by omega
     subst this;refine⟨s.heap.objs.size,?_,up _ _ (Nat.ne_of_gt sl) hT,F5 L.st,sl⟩;rw[<- L.size,Array.getElem?_push_size]
  . refine hR h'' acc' hz'' q1 q2 q3 λc o hcc e=>q4 c o hcc ?_;have hcc':=hcc;simp only[Uq,not_or]at hcc';show(h'.update S _).get? c=some o;exact(Heap.get?_update_other _ _ (λh:S=c=>hcc'.1 h.symm)).trans (hk' c o (by simp only[Uq,not_or];exact hcc'.2) e)
theorem Dc(D:ZA z I O js)(hS:S∉z::I::O::Zi.ofs js)(hSs:∀p∈js,p.2.2≠S)(h0:A.handled=none)(h1:js≠[])(h8:js.length<=8)(Y:Zi->Array Value)(row:Nat->List Value){n c0:Nat}(hn:n<=sizeLine)(hr:∀m,m<n->(row m).length=js.length/\∀(j:Nat) (p:Zi) (x:Value),js[j]?=some p->(row m)[j]?=some x->(Y p)[m]?=some x)
  (he:∃ p∈js,(Y p)[n]?=none) (res:Value) (st:Rk z I O js 0 s.heap) (src:∀ p∈js,p.1.Sq s.heap p.2.2 (Y p)) (hl:s.heap.get? S=some {cls:=.type "list",data:=.seq #[] c0})
  (hR:∀ h' acc',(∃ c,h'.get? S=some {cls:=.type "list",dict:=none,data:=.seq acc' c,slots:=#[] })->acc'.size=n->(∀ m,m < n->∃ T,acc'[m]?=some (.ref T)/\fc h' T (row m)/\S < T)->(∀ c o,c∉S::z::O::Zi.ofs js->s.heap.get? c=some o->h'.get? c=some o)->R (.ok (.ret res)) {s with heap:=h' }) :
  wpAny (model prog w) A.in1 (Builtin.List.listExtendWith (.ref S) (.ref z) res) (λPZ s'=>match PZ with | .done f=>R (.ok f) s' | .again c'=>c'.quiet=true/\codeAny (model prog w) A c' R s') (λe s'=>R (.error e) s') s:=by
 obtain⟨f,b,hf,hz⟩:=id st.hz;have ty:s.TypeIs (.ref z) "zip":=⟨_,hz,rfl⟩;have hS':=hS;simp only[Uq,not_or]at hS';unfold Builtin.List.listExtendWith;refine kS (wpAny_typeOf ty ?_);have e1:Builtin.List.listSameRef (.ref S) (.ref z)=false:=by simp[Builtin.List.listSameRef,hS'.1]
 have e2:(Value.type "zip" == Value.type "list")=false:=by decide
 have e3:(Value.type "zip" == Value.type "tuple")=false:=by decide
 simp only[e1,e2,e3,Bool.or_false,Bool.false_eq_true,if_false];refine kS ?_;have it:∀{Q:Value->Shared->Prop}{E:Value->Shared->Prop},Q (.ref z) s->wpAny (model prog w) A.in1 (pyIter (.ref z)) Q E s:=λ{Q E} h=>by refine wpAny_pyIter_slot ty F.slot_zip_iter (wpAny_call_entry F.slot_zip_iter ty F.entry_zip_iter ?_ (F.args_zip_iter_1 _));show wpAny _ _ (ret (.ref z)) _ _ s;exact Uw ⟨_,rfl,"zip",_,ty,F.slot_zip_next.lookup,h⟩
 refine it ?_;refine kS (wpAny_holding ?_);unfold Builtin.List.listLengthHint;refine kS (wpAny_specialOf ty Bt ?_);show wpAny _ A.in1 (specialOf (.ref z) (Str.ofString "__length_hint__") >>= _) _ _ s;refine kS (wpAny_specialOf ty yT ?_);refine Uw ?_;show wpAny _ A.in1 (rule "list.extend.makes-room" >>= λ_=>Builtin.List.listTouch (.ref S) >>= λ_=>again (.builtin "list.extend.loop" ⟨[.ref S,.ref z,res],[]⟩)) _ _ s;refine kS (wpAny_rule (kS ?_));show wpAny _ A.in1 (updateSeq S (·.push .none) >>= λ_=>updateSeq S (·.pop)) _ _ s;refine kS (wpAny_updateSeq hl rfl ?_);have l2:=Heap.get?_update_self (Obj.mapSeq (·.push Value.none)) hl rfl;refine wpAny_updateSeq (hz:=by seq_fits) l2 rfl ?_;have l3:=Heap.get?_update_self (Obj.mapSeq (·.pop)) l2 rfl;have oth:∀b o,b≠S->s.heap.get? b=some o->((s.heap.update S (Obj.mapSeq (·.push Value.none))).update S (Obj.mapSeq (·.pop))).get? b=some o:=λb o hb e=>(Heap.get?_update_other _ _ (Ne.symm hb)).trans ((Heap.get?_update_other _ _ (Ne.symm hb)).trans e);refine Uw ⟨plainId_quiet F.plain_extend_loop _,Jq D hS hSs h0 h1 h8 Y row hn hr he res n 0 _ #[] rfl (Nat.zero_le _) ⟨⟨⟨f,b,hf,oth _ _ (Ne.symm hS'.1) hz⟩,oth _ _ (Ne.symm hS'.2.1) st.hI,?_,λp hp=>(st.at' p hp).to λo e=>oth _ o (λq=>hS'.2.2.2 (q ▸ ja hp)) e⟩,λp hp=>(src p hp).to λo e=>oth _ o (hSs p hp) e,⟨_,l3⟩,rfl,λm hm=>by omega⟩ λh' acc' _ q1 q2 q3 q4=>hR h' acc' q1 q2 q3 λc o hc e=>q4 c o hc (oth c o (λq=>hc (by simp[q])) e)⟩;obtain⟨os,ol,hO⟩:=st.hO;exact⟨os,ol,oth _ _ (Ne.symm hS'.2.2.1) hO⟩
end
section
variable{prog:Program}{w:World}{A:Around}{E:Value->Shared->Prop}{s:Shared}{z I O:Addr}{js:List Zi}
theorem u9{Q:Value->Shared->Prop}(D:ZA z I O js)(h0:A.handled=none)(h1:js≠[])(h8:js.length<=8)(Y:Zi->Array Value)(row:Nat->List Value){n:Nat}(hn:n<=sizeLine)(hr:∀m,m<n->(row m).length=js.length/\∀(j:Nat) (p:Zi) (x:Value),js[j]?=some p->(row m)[j]?=some x->(Y p)[m]?=some x)
  (he:∃p∈js,(Y p)[n]?=none) (st:Rk z I O js 0 s.heap) (src:∀p∈js,p.1.Sq s.heap p.2.2 (Y p))
  (hQ:∀ h' acc',(∃ c,h'.get? s.heap.objs.size=some {cls:=.type "list",dict:=none,data:=.seq acc' c,slots:=#[] })->acc'.size=n->(∀ m,m < n->∃ T,acc'[m]?=some (.ref T)/\fc h' T (row m)/\s.heap.objs.size < T)->(∀ c o,c∉z::O::Zi.ofs js->s.heap.get? c=some o->h'.get? c=some o)->Q (.ref s.heap.objs.size) {s with heap:=h' }) :
  wpAny (model prog w) A (call (.type "list") [.ref z]) Q E s:=by
 have lt:∀b∈z::I::O::Zi.ofs js,b<s.heap.objs.size:=λb hb=>by
  obtain⟨f,b0,_,hz⟩:=st.hz;obtain⟨os,_,hO⟩:=st.hO;rcases Uq.mp hb with rfl|hb
  . exact Ut hz
  rcases Uq.mp hb with rfl|hb
  . exact Ut st.hI
  rcases Uq.mp hb with rfl|hb
  . exact Ut hO
  . obtain⟨p,hp,rfl⟩:=List.mem_map.mp hb;obtain⟨o,e,_⟩:=(st.at' p hp).obj;exact Ut e
 have slt:∀p∈js,p.2.2<s.heap.objs.size:=λp hp=>by obtain⟨o,e,_⟩:=(src p hp).obj;exact Ut e
 refine callType_codes (Q₁:=λobj s₁=>obj=.ref s.heap.objs.size/\s₁={s with heap:=s.heap.push {cls:=.type "list",data:=.seq #[] } }) F.called_list (F.typeCall_list_1 _) F.entry_list_init (code_list_new _ ⟨rfl,rfl⟩) λobj s₁ h₁=>?_;obtain⟨rfl,rfl⟩:=h₁;have hS:(s.heap.push {cls:=.type "list",data:=.seq #[] }).get? s.heap.objs.size=some {cls:=.type "list",data:=.seq #[] }:=Heap.get?_push_size _ rfl;refine⟨⟨_,hS,rfl⟩,F.args_list_init_2 _ _,?_⟩
 show wpAny _ A.in1.in1 (do let old <- Builtin.List.listItems (.ref s.heap.objs.size);Builtin.List.listUpdate (.ref s.heap.objs.size) (λ_=>#[]);letGo old.toList.reverse;Builtin.List.listExtendWith (.ref s.heap.objs.size) (.ref z) .none) _ _ {s with heap:=_}
 refine kS ?_;unfold Builtin.List.listItems;refine kS (wpAny_seqItems hS rfl (Uw ?_));show wpAny _ A.in1.in1 (updateSeq s.heap.objs.size (λ_=>#[]) >>= λ_=>letGo (#[]:Array Value).toList.reverse >>= λ_=>Builtin.List.listExtendWith (.ref s.heap.objs.size) (.ref z) .none) _ _ {s with heap:=_};refine kS (wpAny_updateSeq hS rfl ?_);have hS2:=Heap.get?_update_self (Obj.mapSeq (λ_=>(#[]:Array Value))) hS rfl;have oth:∀ b o,b≠s.heap.objs.size->s.heap.get? b=some o->((s.heap.push {cls:=.type "list",data:=.seq #[] }).update s.heap.objs.size (Obj.mapSeq (λ_=>(#[]:Array Value)))).get? b=some o:=λb o hb e=>(Heap.get?_update_other _ _ (Ne.symm hb)).trans (p4 _ e);refine kS (wpAny_letGo ?_);obtain⟨⟨f,b,hf,hz⟩,hI,⟨os,ol,hO⟩,at'⟩:=st;have ne:∀b∈z::I::O::Zi.ofs js,b≠s.heap.objs.size:=λb hb=>Nat.ne_of_lt (lt b hb);refine Dc (A:=A.in1) D (λq=>absurd (lt _ q) (Nat.lt_irrefl _)) (λp hp=>Nat.ne_of_lt (slt p hp)) h0 h1 h8 Y row hn hr he .none ⟨⟨f,b,hf,oth _ _ (ne _ x_) hz⟩,oth _ _ (ne _ x_) hI,⟨os,ol,oth _ _ (ne _ x_) hO⟩,λp hp=>(at' p hp).to λo e=>oth _ o (ne _ (by simp[ja hp])) e⟩ (λp hp=>(src p hp).to λo e=>oth _ o (Nat.ne_of_lt (slt p hp)) e) hS2 λh' acc' q1 q2 q3 q4=>?_;refine⟨rfl,hQ h' acc' q1 q2 q3 λc o hc e=>?_⟩;have hcl:c≠s.heap.objs.size:=Nat.ne_of_lt (Ut e);exact q4 c o (by simp only[Uq,not_or]at hc ⊢;exact⟨hcl,hc⟩) (oth c o hcl e)
end
section
variable{K:PySem.W.Frag}{Pr H H':Hp}{σ:St}{Z:Ev}
theorem aA.more(E:aA K Pr H σ Z)(k:∀b u,H b=some u->H' b=some u):aA K Pr H' σ Z :=
 ⟨λb u e=>k b u (E.sub b u e),E.nd,E.off,Paired.impMem E.sl λl hl s q=>q.pres (λb u _ e=>k b u e) l λa e=>by
  obtain⟨vs,e,_⟩:=E.at_own (hC.mpr ⟨l,hl,e⟩)
  rw[k _ _ e,e]⟩
theorem aA.own_more(E:aA K Pr H σ Z)(k:∀b u,H b=some u->H' b=some u){p:Addr}{vs:List V}{xs:List D}(h:H p=none)(h':H' p=some (.lst vs))(r:bL K H' vs xs):aA K Pr H' (some (.ref p)::σ) (.own p xs::Z):=by
 have E':=E.more k;refine⟨E'.sub,?_,λa ha=>?_,.cons ⟨rfl,vs,h',r⟩ E'.sl⟩
 . rw[aZ];refine List.nodup_cons.mpr ⟨λhm=>?_,E.nd⟩;obtain⟨us,e,_⟩:=E.at_own hm;rw[h]at e;cases e
 .
  rw[aZ]at ha;rcases Uq.mp ha with rfl|ha
  .
   cases q:Pr a with
   |none=>rfl
   |some u=>rw[E.sub a u q]at h;cases h
  . exact E.off a ha
end
open Classical in
noncomputable def laidT(H:Hp)(m:Nat)(S n:Nat)(T:Nat->Addr)(vs:List V)(row:Nat->List V):Hp:=λb =>
 if b<m then H b else if b=S then some (.lst vs)else if h:∃k,k<n/\T k=b then some (.tup (row (Classical.choose h)))else none
section
variable{X:Cx}{ab:List (Addr×Obj)}{σ:St}{H:Hp}{s:Shared}
open Classical in
theorem xg{m S n:Nat}{T:Nat->Addr}{vs:List V}{row:Nat->List V}{us:Nat->List Value}{h':Heap}(hT:∀k,k<n->m<=T k/\T k≠S/\fc h' (T k) (us k))(hv:∀k,k<n->ck (row k) (us k)){k:Nat}(hk:k<n):laidT H m S n T vs row (T k)=some (.tup (row k)):=by
 obtain⟨h1,h2,h3⟩:=hT k hk;have ex:∃j,j<n/\T j=T k:=⟨k,hk,rfl⟩;unfold laidT;rw[if_neg (Nat.not_lt.mpr h1),if_neg h2,dif_pos ex];obtain⟨c1,c2⟩:=Classical.choose_spec ex;have h4:=(hT _ c1).2.2;rw[c2]at h4;have e:us (Classical.choose ex)=us k:=by have:=h4.symm.trans h3;simp only[Option.some.injEq,Obj.mk.injEq,Data.seq.injEq,true_and,and_true]at this;exact List.toArray_inj this
 have v1:=hv _ c1;rw[e]at v1;rw[v1.inj (hv k hk)]
open Classical in
theorem PU.laidT{h':Heap}{S n:Nat}{T:Nat->Addr}{vs:List V}{us:List Value}{row:Nat->List V}{ur:Nat->List Value}{c:Nat}(I:PU X ab σ H s)(k:∀ b u,s.heap.get? b=some u->h'.get? b=some u)(hS:s.heap.objs.size<=S) (hl:h'.get? S=some {cls:=.type "list",data:=.seq us.toArray c}) (hz:vs.length<=sizeLine) (hv:ck vs us)
  (hT:∀k,k<n->s.heap.objs.size<=T k/\T k≠S/\fc h' (T k) (ur k)) (hr:∀k,k<n->ck (row k) (ur k)) (h8:∀k,k<n->(row k).length<=sizeLine):PU X ab σ (L2.laidT H s.heap.objs.size S n T vs row) {s with heap:=h' }:=by
 have old:∀b u,H b=some u->L2.laidT H s.heap.objs.size S n T vs row b=some u:=λb u e=>by unfold L2.laidT;rw[if_pos (I.hok.lt e)];exact e
 have hSa:L2.laidT H s.heap.objs.size S n T vs row S=some (.lst vs):=by unfold L2.laidT;rw[if_neg (Nat.not_lt.mpr hS),if_pos rfl]
 refine I.un (t':=s.toks) ⟨λb o e _ _ _=>k b o e,λb o e _ _ _=>⟨o.slots,k b o e⟩,λb o e hn _=>?_,λb o e _=>⟨o,k b o e⟩,λb xs e=>old b _ e,λb o u e=>old b _ e,λb ps e=>old b _ e⟩ λb u e=>?_
 . unfold L2.laidT;rw[if_pos (Ut e)];exact hn
 .
  by_cases hb:b<s.heap.objs.size
  .
   have e':H b=some u:=by unfold L2.laidT at e;rw[if_pos hb]at e;exact e
   exact(I.hok b u e').stay (λc v _ q=>k c v q) (λc q=>old c _ q) (λc xs q=>old c _ q) λc ob _ _ q=>old c _ q
  .
   by_cases hbS:b=S
   . subst hbS;rw[hSa]at e;cases e;exact⟨hz,us,c,hv,hl⟩
   .
    have e0:=e;unfold L2.laidT at e0;rw[if_neg hb,if_neg hbS]at e0;split at e0
    . rename_i ex;obtain⟨c1,c2⟩:=Classical.choose_spec ex;have e3:=xg (H:=H) (vs:=vs) hT hr c1;rw[c2]at e3;rw[e3]at e;cases e;obtain⟨_,_,q3⟩:=hT _ c1;rw[c2]at q3;exact⟨h8 _ c1,_,hr _ c1,⟨_,q3,rfl,_,rfl⟩⟩
    . cases e0
end
theorem Jr{z I O:Addr}{js:List Zi}{i:Nat}{h:Heap}(st:Ra z I O js .none i h):Rk z I O js i h:=⟨⟨.none,false,.inl rfl,st.hz⟩,st.hI,st.hO,st.at'⟩
def F6(t:W (List L)):W L:=λZ kz=>t Z λls Z1=>match ls with
 |[.d d,.d d2]=>Oy d d2 λzs=>zs.length<=sizeLine/\∀a,kz (.own a zs) Z1
 |_=>False
section
variable{X:Cx}{a b:Expr}{pos p pos0 p0:Pos}
theorem Js{xs ys:List Value}{m j:Nat}{k1 k2:Sk}{i1 i2 a1 a2:Addr}{Y:Zi->Array Value}{q:Zi}{x:Value}(h1:m<xs.length)(h2:m<ys.length)(e1:Y (k1,i1,a1)=xs.toArray)(e2:Y (k2,i2,a2)=ys.toArray)(hq:[(k1,i1,a1),(k2,i2,a2)][j]?=some q)(hx:[xs[m],ys[m]][j]?=some x):(Y q)[m]?=some x:=by
 match j with
 | 0 =>
  simp only[List.getElem?_cons_zero,Option.some.injEq]at hq hx;subst hq hx;rw[e1];simp[h1]
 | 1 =>
  simp only[List.getElem?_cons_succ,List.getElem?_cons_zero,Option.some.injEq]at hq hx;subst hq hx;rw[e2];simp[h2]
 |j+2=>simp at hq
theorem uh{bs:List (Option Nat)}{t:W (List L)} (hgl:Gl X "list") (hml:X.mg "list"=none) (hg:Gl X "zip") (hm:X.mg "zip"=none) (hc:X.calm=true) (ha:QD X [a,b] bs t) (hs:starEach [a,b] X.env=(false,eval a X.env)::starEach [b] X.env:=by rfl) (hs2:(backTo pos (starEach [b] X.env)).any (·.1)=false:=by rfl)
  (hs0:starEach [.Call (.Name "zip" p) [a,b] [] pos] X.env=[(false,eval (.Call (.Name "zip" p) [a,b] [] pos) X.env)]:=by rfl) :
  PL X (.Call (.Name "list" p0) [.Call (.Name "zip" p) [a,b] [] pos] [] pos0) (F6 t):=by
 intro ab s σ H Pr Z kz I E h;refine wpAny_Call_Name_kw (iQ I hgl hml (show bootBuiltins "list"=some (.type "list") by decide +kernel) (PyProof.Rows.callWith_type1 ?_ (by rw[hs0]; rfl) rfl));rw[hs0];show wpAny _ _ (spliced ((false,eval (.Call (.Name "zip" p) [a,b] [] pos) X.env)::[])) _ _ s;refine Calls.spliced_cons (Call_ (iQ I hg hm boot_zip (PyProof.Rows.callWith_type1 (PX (ha pos ab s σ H Pr Z _ I E h) λus s1 ⟨vs,H1,ls,Z1,I1,r1,hl,hb,E1,_,q1⟩=>?_) hs hs2)));dsimp only at q1;split at q1
 .
  rename_i d d2;obtain⟨k1,xs,ed,q2⟩:=C9 q1;obtain⟨k2,ys,ed2,q3,q4⟩:=C9 q2;subst ed ed2;clear q1 q2
  match vs,hl with
  | [v,v2],_ =>
   have E1':aA X.K Pr H1 (some v::some v2::σ) (.d (k1.mk xs)::.d (k2.mk ys)::Z1):=E1;obtain⟨_,e1,p1⟩:=E1'.head_d;cases e1;obtain⟨_,e1,p2⟩:=E1'.tail.head_d;cases e1;obtain⟨a1,vs1,rfl,f1,rs1⟩:=Sk.rep p1;obtain⟨a2,vs2,rfl,f2,rs2⟩:=Sk.rep p2;obtain⟨u1,u2,rfl,ru,ru2⟩:=r1.two;cases ru;cases ru2;obtain⟨its,rv,sq1⟩:=I1.sqk (Ri.pres (λ_ _ _ e=>e) f1);obtain⟨its2,rv2,sq2⟩:=I1.sqk (Ri.pres (λ_ _ _ e=>e) f2);have E2:aA X.K Pr H1 σ Z1:=E1'.tail.tail;refine Bs sq1 sq2 λh' st hk=>Calls.spliced_nil ?_;have lt1:a1<s1.heap.objs.size:=by obtain⟨o,e,_⟩:=sq1.obj;exact Ut e
   have lt2:a2<s1.heap.objs.size:=by obtain⟨o,e,_⟩:=sq2.obj;exact Ut e
   have D:ZA (s1.heap.objs.size+4) (s1.heap.objs.size+2) (s1.heap.objs.size+3) [(k1,s1.heap.objs.size,a1),(k2,s1.heap.objs.size+1,a2)]:=by
    refine⟨by simp[Zi.ofs],λq hq=>?_⟩;simp only[Uq,List.not_mem_nil,or_false]at hq;rcases hq with rfl|rfl
    . simp only[Zi.ofs,List.map_cons,List.map_nil,Uq,List.not_mem_nil,or_false,not_or];refine⟨Nat.ne_of_lt (Nat.lt_add_right _ lt1),Nat.ne_of_lt (Nat.lt_add_right _ lt1),Nat.ne_of_lt lt1,Nat.ne_of_lt (Nat.lt_add_right _ lt1)⟩
    . simp only[Zi.ofs,List.map_cons,List.map_nil,Uq,List.not_mem_nil,or_false,not_or];refine⟨Nat.ne_of_lt (Nat.lt_add_right _ lt2),Nat.ne_of_lt (Nat.lt_add_right _ lt2),Nat.ne_of_lt lt2,Nat.ne_of_lt (Nat.lt_add_right _ lt2)⟩
   have l1:=rv.length;have l2:=rv2.length;have m1:=rs1.length;have m2:=rs2.length
   have hsrc:∀q∈[(k1,s1.heap.objs.size,a1),(k2,s1.heap.objs.size+1,a2)],∃ys,q.1.Sq h' q.2.2 ys/\((q=(k1,s1.heap.objs.size,a1)->ys=its.toArray)/\(q=(k2,s1.heap.objs.size+1,a2)->ys=its2.toArray)):=λq hq=>by
    simp only[Uq,List.not_mem_nil,or_false]at hq;rcases hq with rfl|rfl
    . exact⟨_,sq1.to λo e=>hk _ o e,λ_=>rfl,λz=>by simp at z⟩
    . exact⟨_,sq2.to λo e=>hk _ o e,λz=>by simp at z,λ_=>rfl⟩
   obtain⟨Y,hY⟩:=xa hsrc;have y1:=(hY (k1,s1.heap.objs.size,a1) x_).2.1 rfl;have y2:=(hY (k2,s1.heap.objs.size+1,a2) x_).2.2 rfl;have zl:(sV xs ys).length=min its.length its2.length:=by simp[sV];omega
   have sz':s1.heap.objs.size+5<=h'.objs.size:=Nat.succ_le_of_lt (Ut st.hz);refine u9 (s:={s1 with heap:=h' }) D (I1.ok.hd hc) x_ x_ Y (λm=>[its.getD m .none,its2.getD m .none]) (n:=min its.length its2.length) (by rw[<- zl];exact q3) (λm hm=>⟨rfl,λj q x hq hx=>?_⟩) ?_ (Jr st) (λq hq=>(hY q hq).1) λh2 acc hl2 hsz hT hk2=>?_
   .
    have g1:m<its.length:=by omega
    have g2:m<its2.length:=by omega
    refine Js g1 g2 y1 y2 hq ?_;rw[tu,tu,gV g1,gV g2]at hx;exact hx
   .
    rcases Nat.le_total its.length its2.length with g|g
    . exact⟨_,tv,by rw[y1,Nat.min_eq_left g];simp⟩
    . exact⟨_,k5 _ tv,by rw[y2,Nat.min_eq_right g];simp⟩
   obtain⟨c,hl2⟩:=hl2;obtain⟨T,hT⟩:=xa (l:=List.range (min its.length its2.length)) (P:=λm (T:Addr)=>acc[m]?=some (.ref T)/\fc h2 T [its.getD m .none,its2.getD m .none]/\h'.objs.size<T) λm hm=>hT m (List.mem_range.mp hm)
   have kp:∀b u,s1.heap.get? b=some u->h2.get? b=some u:=λb u e=>hk2 b u (by
    have lb:b<s1.heap.objs.size:=Ut e;simp only[Zi.ofs,List.map_cons,List.map_nil,Uq,List.not_mem_nil,or_false,not_or]
    exact⟨Nat.ne_of_lt (Nat.lt_add_right _ lb),Nat.ne_of_lt (Nat.lt_add_right _ lb),Nat.ne_of_lt lb,Nat.ne_of_lt (Nat.lt_add_right _ lb)⟩) (hk b u e)
   have hT':∀m,m<min its.length its2.length->acc[m]?=some (.ref (T m))/\fc h2 (T m) [its.getD m .none,its2.getD m .none]/\h'.objs.size<T m:=λm hm=>hT m (List.mem_range.mpr hm)
   have ea:acc=((List.range (min its.length its2.length)).map λm=>Value.ref (T m)).toArray:=by
    refine Array.ext (by simp[hsz]) λm g1 g2=>?_;have g:m<min its.length its2.length:=by rw[<- hsz];exact g1
    have:=(hT' m g).1;rw[Array.getElem?_eq_getElem g1]at this;simpa using this
   subst ea
   have gr:∀m,m<min its.length its2.length->ck [vs1.getD m .non,vs2.getD m .non] [its.getD m .none,its2.getD m .none]:=λm hm=>by
    have g1:m<vs1.length:=by omega
    have g2:m<vs2.length:=by omega
    obtain⟨u1,e1,r1⟩:=rv.get (gV g1);obtain⟨u2,e2,r2⟩:=rv2.get (gV g2);rw[tu,tu,tu,tu,e1,e2,gV g1,gV g2];exact .cons r1 (.cons r2 .nil)
   have tt:∀m,m<min its.length its2.length->s1.heap.objs.size<=T m/\T m≠h'.objs.size/\fc h2 (T m) [its.getD m .none,its2.getD m .none]:=λm hm=>⟨Ur (Ur (Nat.le_add_right _ 5) sz') (Nat.le_of_lt (hT' m hm).2.2),Nat.ne_of_gt (hT' m hm).2.2,(hT' m hm).2.1⟩;have I2:=I1.laidT (vs:=(List.range (min its.length its2.length)).map λm=>V.ref (T m)) (row:=λm=>[vs1.getD m .non,vs2.getD m .non]) kp (Ur (Nat.le_add_right _ 5) sz') hl2 (by rw[Up,List.length_range,<- zl];exact q3) (ug λm _=>rfl) tt gr (λm _=>(by show 2<=sizeLine;decide));have old:∀b u,H1 b=some u->L2.laidT H1 s1.heap.objs.size h'.objs.size (min its.length its2.length) T ((List.range (min its.length its2.length)).map λm=>V.ref (T m)) (λm=>[vs1.getD m .non,vs2.getD m .non]) b=some u:=λb u e=>by unfold L2.laidT;rw[if_pos (I1.hok.lt e)];exact e
   refine⟨.ref h'.objs.size,_,_,Z1,I2,rfl,E2.own_more (vs:=(List.range (min its.length its2.length)).map λm=>V.ref (T m)) old (I1.hok.fresh (Ur (Nat.le_add_right _ 5) sz')) ?_ ?_,q4 _⟩
   . unfold L2.laidT;rw[if_neg (Nat.not_lt.mpr (Ur (Nat.le_add_right _ 5) sz')),if_pos rfl]
   .
    rw[<- xb];have en:min xs.length ys.length=min its.length its2.length:=by omega
    rw[en];refine AA λm hm=>?_;have hm:=List.mem_range.mp hm;have g1:m<xs.length:=by omega
    have g2:m<ys.length:=by omega
    refine .tup (P1.of (xg tt gr hm)) ?_;obtain⟨w1,e1,r1⟩:=rs1.get (gV g1);obtain⟨w2,e2,r2⟩:=rs2.get (gV g2);rw[tu,tu,tu,tu,e1,e2,gV g1,gV g2];exact .cons (r1.pres λb u _ e=>old b u e) (.cons (r2.pres λb u _ e=>old b u e) .nil)
 . exact q1.elim
end
noncomputable def Rm(K:PySem.W.Frag)(a:Addr)(xs:List V):It :=
 ⟨λi H=>P0 K H a xs/\i<xs.length,λi H v H'=>H'=H/\xs[xs.length-1-i]?=some v,λi H=>P0 K H a xs/\i=xs.length⟩
theorem F7{P:Program}{w:World}{K:PySem.W.Frag}{tg:Expr}(a j:Addr)(xs:List V):Ht P w K tg (Rm K a xs) [j] j (λi h=>h.IsRevIter j a ((xs.length:Int)-1-i)) where
 mem:=by simp
 obj:=λi h st b hb=>by
  have e:b=j:=by simpa using hb
  subst e;obtain⟨o,e,c,d⟩:=st;exact⟨o,e,λv z=>by rw[d]at z;cases z⟩
 keep:=λi h h' st k=>st.at λo e=>k j x_ o e
 item:=by
  intro X hP hw hK hc i ab s σ H E I hf st hg;subst hP hw hK;obtain⟨hq,hi⟩:=hg;obtain⟨its,rv,p,hz⟩:=I.list hq;have hx:xs[xs.length-1-i]?=some (xs[xs.length-1-i]'(by omega)):=gV _;obtain⟨u,hu,ru⟩:=rv.get hx;obtain⟨f0,f1,f2,f3,f4,f5⟩:=hf j x_;have ei:(xs.length:Int)-1-i=((xs.length-1-i:Nat):Int):=by omega
  rw[ei]at st;refine wpAny_pyNext_rev_item st p.isList (x:=u) (by simpa using hu) λh' st' sb=>?_;have I1:PU X ab σ H {s with heap:=h' }:=I.turned (t':=s.toks) (λb o hb e=>(sb.2 b hb).trans e) f0 f1 f3 f4 f5;obtain⟨o,e,c,d⟩:=id st';have ei2:((xs.length-1-i:Nat):Int)-1=(xs.length:Int)-1-((i+1:Nat):Int):=by omega
  rw[ei2]at st';exact⟨u,rfl,Fk (s:={s with heap:=h' }) e c d xp ⟨_,H,I1,ru,⟨rfl,hx⟩,st',λb hb=>(hf b hb).1⟩⟩
 done:=by
  intro X hP hw hK hc i ab s σ H E I hf st hg;subst hP hw hK;obtain⟨hq,hi⟩:=hg;obtain⟨f0,f1,f2,f3,f4,f5⟩:=hf j x_;have ei:(xs.length:Int)-1-i=-1:=by omega
  rw[ei]at st;exact wpAny_pyNext_rev_end (I.ok.hd hc) st λh' eb=>⟨rfl,I.turned (t':=s.toks) (λb o hb e=>eb b o hb e) f0 f1 f3 f4 f5⟩
 self:=λ_ _ _ _ _ st h=>wpAny_pyIter_revIter st h
theorem Dd{K:PySem.W.Frag}{H:Hp}{a:Addr}{vs:List V}{xs:List D}(h:QB K H a vs)(r:bL K H vs xs):yJ K H (Rm K a vs) xs.reverse:=λH' p=>by
 have h':=(h.pres p).l;refine⟨λi x e=>?_,h',by rw[List.length_reverse,r.length]⟩;have hi:i<xs.length:=by simpa using(k4.mp e).1
 rw[List.getElem?_reverse hi]at e;obtain⟨v,ev,rv⟩:=r.get e;refine⟨⟨h',by rw[r.length];exact hi⟩,λw H2 ⟨e1,e2⟩=>?_⟩;subst e1;rw[r.length,ev]at e2;cases e2;exact⟨.inl rfl,rv.pres p⟩
def Jt(t:W L):W (List D):=λZ kz=>t Z λr Z1=>QF r λd=>match d with
 |.lst xs=>kz xs.reverse Z1
 |_=>False
section
variable{X:Cx}{a tg:Expr}{pos p:Pos}
theorem Ju{t:W L} (hg:Gl X "reversed") (hm:X.mg "reversed"=none) (ha:PL X a t) (hs:starEach [a] X.env=[(false,eval a X.env)]:=by rfl):QQ X tg (.Call (.Name "reversed" p) [a] [] pos) (Jt t):=by
 intro ab s σ H Pr Z kz I E h;refine Call_ (iQ I hg hm (show bootBuiltins "reversed"=some (.type "reversed") by decide +kernel) (PyProof.Rows.callWith_type1 ?_ (by rw[hs]; rfl) rfl));rw[hs];show wpAny _ _ (spliced ((false,eval a X.env)::[])) _ _ s;refine Calls.spliced_cons (PX (ha ab s σ H Pr Z _ I E h) λv s1 q=>Calls.spliced_nil ?_)
 obtain⟨w,H1,d,Z1,I1,r1,E1,q1⟩:=EL.frz (kz:=λd Z1=>match d with
  |.lst xs=>kz xs.reverse Z1
  |_=>False) q
 obtain⟨_,e1,p1⟩:=E1.head_d;cases e1
 cases p1 with
 | @lst _ vs0 _ hz rs =>
  cases r1;obtain⟨its,rv,pl,_⟩:=I1.list hz.l;have el:its.toArray.size=vs0.length:=by simp;exact rv.length.symm
  refine call_reversed_list pl.isList ?_;rw[el];refine wpAny_pyIter_revIter (s:={s1 with heap:=_}) ⟨_,Heap.get?_push_size _ rfl,rfl,rfl⟩ ?_;refine⟨s1.heap.objs.size,[s1.heap.objs.size],_,_,H1,_,Z1,rfl,I1.kept (t':=s1.toks) (λb o e=>p4 _ e),F7 _ _ _,⟨_,Heap.get?_push_size _ rfl,rfl,?_⟩,λb hb=>?_,E1.tail,Dd hz rs,q1⟩
  . rw[show((vs0.length:Int)-1-((0:Nat):Int))=(vs0.length:Int)-1 by omega];rfl
  .
   have e:b=s1.heap.objs.size:=by simpa using hb
   subst e;exact I1.fpOk (Uu _) (I1.hok.fresh (Uu _))
 |_=>exact q1.elim
end
end L2
namespace L2
open PySem PySem.Spec PyProof.Rows
section
variable{X:Cx}{e:Expr}{pos:Pos}{t:W Fl}
theorem Mb{body:List Stmt}{h0:ExceptHandler}{hs:List ExceptHandler}(hx:∀e s,X.xe e s->False)(hb:QE X body t):PM X (.Try body (h0::hs) [] [] pos) t:=λab s σ H Pr Z kz I E ht =>
 wpAny_Try_except (wpAny_mono (hb ab s σ H Pr Z kz I E ht) (λf s1 q=>by
  cases f with
  |next=>exact wpAny_execs_nil q
  |brk=>exact q
  |cont=>exact q
  |ret v=>exact q) λe s z=>(hx e s z).elim)
def Nh:Option L->(Int->Prop)->Prop
 |some (.d (.int a)),k=>k a
 |_,_=>False
theorem F8(a:Int)(k:Int->Prop):Nh (some (.d (.int a))) k=k a:=rfl
theorem Jv{o:Option L}{k:Int->Prop}(h:Nh o k):∃a,o=some (.d (.int a))/\k a:=by
 unfold Nh at h;split at h
 . exact⟨_,rfl,h⟩
 . exact h.elim
def NO(i:Nat)(f:Int->Int->Int)(te:W L):W Fl:=λZ kz=>Nh Z[i]? λa=>te Z λr Z1=>mv r λb=>kz .nx (Z1.set i (.d (.int (f a b))))
theorem Mc{i:Nat}{x:Str}{te:W L}{pos':Pos}{op:Operator}{f:Int->Int->Int}(ho:P6 X op (P8 f))(hN:X.N.Nodup)(hi:X.N[i]?=some x)(hx:PR X.env.scope x)(he:PL X e te)(hf:X.fn x=true∨X.env.scope.names.lookup x=some .local:=by first|exact .inl rfl|exact .inr rfl|assumption) :
  PM X (.AugAssign (.Name x pos') op e pos) (NO i f te):=by
 refine PM.of (K1 hN hi hx he.pe ho hf) λσ H Pr Z kz fI E h=>?_;obtain⟨a,q,h⟩:=Jv h;obtain⟨sv,hs,v,rfl,r⟩:=E.slot q;cases r;refine⟨_,hs,Pr,Z,_,E,h,λy H1 r Z1 E1 p=>?_⟩;obtain⟨b,rfl,p⟩:=da p;obtain⟨_,e1,p1⟩:=E1.head_d;cases e1;cases p1;exact⟨a,b,rfl,rfl,_,(E1.tail.cons_d (.int _)).store (by rw[fI];exact(k4.mp hi).1),p⟩
def NP(i:Nat):W Bool:=λZ kz=>t9 i Z λ_ xs=>kz (!xs.isEmpty) Z
theorem Md(i:Nat){x:Str}{p:Pos}(hN:X.N[i]?=some x:=by rfl)(hv:PQ X.env.scope x:=by first | exact Or.inl rfl | exact Or.inr (Or.inl rfl) | exact Or.inr (Or.inr rfl)) (hd:(x == ("__debug__" : Str))=false:=by decide)
  (hcd:(x == ("__classdict__" : Str))=false:=by decide) (he:∀ whole,isTrue (.Name x p) X.env whole=(do let v <- whole; standAt (Expr.Name x p).pos; holding [v] (truthy v)):=by intro _; rfl):PB X (.Name x p) (NP i):=by
 intro ab s σ H Pr Z kz I E h;obtain⟨l,xs0,q0,h⟩:=dM h;obtain⟨hσ,vs0,hl0,r⟩:=E.ownAt q0;have em:(!vs0.isEmpty)=!xs0.isEmpty:=by have:=r.length;cases vs0<;>cases xs0<;>simp at this ⊢
 refine PX (Fn (d4 hN hv hd hcd) he ab s σ H (λb H'=>b=(!xs0.isEmpty)/\H'=H) I ⟨.ref l,hσ,_,.inl ⟨vs0,P0.of hl0,rfl⟩,em,rfl⟩) λb s1 ⟨H1,I1,e1,e2⟩=>?_;subst e1 e2;exact⟨H1,Z,I1,E,h⟩
end
end L2
namespace L2
open PySem PySem.Spec PyProof.Rows PySem.W
section
structure Rn (h:Heap) (e:Addr) (cls:Value) (dx T:Option Addr):Prop where
 ex:∃vs sl,h.get? e=some ⟨cls,dx,.fields vs,sl⟩/\1<vs.size/\(match T with
  |none=>vs[1]?=some .none
  |some t=>vs[1]?=some (.ref t)/\t≠e/\∃ot ts,h.get? t=some ot/\ot.data=.fields ts/\ts[3]?=some .none)
end
noncomputable def Ro(H:Hp)(e:Addr):Hp:=λb=>if b=e then none else H b
theorem pj{H:Hp}{e b:Addr}(h:b≠e):Ro H e b=H b:=by unfold Ro;rw[if_neg h]
theorem AC{H:Hp}{e:Addr}:Ro H e e=none:=by unfold Ro;rw[if_pos rfl]
def P7(o:HO):Prop:=M3 o/\Iu o
theorem Rn.at{h h':Heap}{e:Addr}{cls:Value}{dx:Option Addr}(f:Rn h e cls dx none)(k:∀o,h.get? e=some o->h'.get? e=some o):Rn h' e cls dx none:=by obtain⟨vs,sl,he,hz,h1⟩:=f;exact⟨vs,sl,k _ he,hz,h1⟩
noncomputable def XO(e:Addr)(cls:Value)(dx:Option Addr):HO:=.ext λh=>Rn h e cls dx none
noncomputable def XD(d:Addr)(fs:List (Str×V)):HO:=.ext λh=>∃mA,h.Ns1 d mA/\(∀f,MW (fs.lookup f) (mA f))/\PySem.Within mA (fs.map (·.1))
theorem XO.ok{P:Program}{w:World}{H:Hp}{h:Heap}{e:Addr}{cls:Value}{dx:Option Addr}(f:Rn h e cls dx none):g9 P w H h e (XO e cls dx):=by obtain⟨vs,sl,he,hz,h1⟩:=f;exact⟨⟨vs,sl,he,hz,h1⟩,⟨_,he⟩,λh1 h2 p k=>p.at k⟩
theorem XD.ok{P:Program}{w:World}{H:Hp}{h:Heap}{d:Addr}{fs:List (Str×V)}{mA:Str->Option Value}(n:h.Ns1 d mA)(r:∀f,MW (fs.lookup f) (mA f))(wi:PySem.Within mA (fs.map (·.1))):g9 P w H h d (XD d fs) :=
 ⟨⟨mA,n,r,wi⟩,let ⟨o,_,_,e,_⟩:=n;⟨o,e⟩,λh1 h2 ⟨mA,n,r⟩ k=>⟨mA,n.at k,r⟩⟩
structure Xc where
 c:Str
 ns:List Str
 ds:List D
def NQ(K:Frag)(H:Hp)(cls:Value)(dx:Option Addr)(x:Xc):Prop:=∃C vs,cls=.ref C/\t6 K x.c C=true/\(∀f∈x.ns,findIn K (.ref C) f=some none)/\XF H dx x.ns vs/\bL K H vs x.ds
theorem NQ.ext{K:Frag}{H H':Hp}{cls:Value}{dx:Option Addr}{x:Xc}(f:NQ K H cls dx x)(h:∀b o,H b=some o->H' b=some o):NQ K H' cls dx x:=by obtain⟨C,vs,e,s,fq,a,r⟩:=f;exact⟨C,vs,e,s,fq,a.pres λb o _ q=>h b o q,r.pres λb o _ q=>h b o q⟩
section
variable{H:Hp}
theorem PF.there{P:Program}{w:World}{H:Hp}{h:Heap}(x:PF P w H h){b:Addr}{o:HO}(e:H b=some o):∃u,h.get? b=some u:=by
 have lt:=x.lt e
 cases o with
 |lst xs=>obtain⟨_,_,_,_,e⟩:=x b _ e;exact⟨_,e⟩
 |tup xs=>obtain⟨_,_,_,o,e,_⟩:=x b _ e;exact⟨_,e⟩
 |dK kvs=>obtain⟨_,_,_,_,o,_,_,e,_⟩:=x b _ e;exact⟨_,e⟩
 |dT kvs=>obtain⟨_,_,_,_,o,_,_,e,_⟩:=x b _ e;exact⟨_,e⟩
 |set S n=>obtain⟨o,_,_,_,e,_⟩:=x b _ e;exact⟨_,e⟩
 |ins C dx fs=>obtain⟨_,_,_,e,_⟩:=x b _ e;exact⟨_,e⟩
 |own y=>obtain⟨_,e⟩:=x b _ e;exact⟨_,e⟩
 |xd fs=>obtain⟨_,⟨_,_,_,e,_⟩,_⟩:=x b _ e;exact⟨_,e⟩
 |rng lo hi=>obtain⟨_,_,_,e⟩:=x b _ e;exact⟨_,e⟩
 |frz ob u=>obtain⟨e,_⟩:=x b _ e;exact⟨_,e⟩
 |tbl t=>obtain⟨_,e,_⟩:=x b _ e;exact⟨_,e⟩
 |met f y=>exact⟨_,(show h.get? b=some _ from x b _ e)⟩
 |ext φ=>obtain⟨_,⟨_,e⟩,_⟩:=x b _ e;exact⟨_,e⟩
end
abbrev Rp:=List D->(L->Prop)->(Xc->Prop)->Prop
theorem aA.ds{K:Frag}{H:Hp}:∀{vs:List V}{ds:List D},bL K H vs ds->Paired (a6 K H) (vs.map some) (ds.map .d)
 |_,_,.nil=>.nil
 |_,_,.cons h t=>.cons ⟨_,rfl,h⟩ (aA.ds t)
end L2
namespace L2
open PySem PySem.Spec PyProof.Rows
section
variable{κ:Type}[DecidableEq κ]
theorem KV.length{kvs:List (κ×V)}{vs:List (κ×Value)}(r:KV kvs vs):kvs.length=vs.length:=Paired.length r
end
abbrev DR(K:PySem.W.Frag)(H:Hp):List (Pz×V)->List (Pz×D)->Prop:=Paired λ(p:Pz×V) (q:Pz×D)=>p.1=q.1/\QC K H p.2 q.2
theorem DR.pres{K:PySem.W.Frag}{H H':Hp}(p:sT H H'){vs:List (Pz×V)}{kvs:List (Pz×D)}(h:DR K H vs kvs):DR K H' vs kvs:=Paired.mapP h λ_ _ z=>⟨z.1,z.2.pres p⟩
section
variable{X:Cx}
noncomputable def Me:D->Bool
 |.int _=>true
 |.str _=>true
 |.bl _=>true
 |.non=>true
 |_=>false
inductive Rq (X:Cx):List (Option Expr)->List Expr->List (Pz×D)->Prop where
 |nil:Rq X [] [] []
 |int {k v:Expr} {ks:List (Option Expr)} {vs:List Expr} {i:Int} {d:D} {kvs:List (Pz×D)} (hk:PL X k (wC (.int i))) (hv:PL X v (wC d)) (hf:Me d=true) (t:Rq X ks vs kvs):Rq X (some k::ks) (v::vs) ((.inl i,d)::kvs)
 |str {k v:Expr} {ks:List (Option Expr)} {vs:List Expr} {y:Str} {d:D} {kvs:List (Pz×D)} (hk:PL X k (wC (.str y))) (hv:PL X v (wC d)) (hf:Me d=true) (t:Rq X ks vs kvs):Rq X (some k::ks) (v::vs) ((.inr y,d)::kvs)
theorem Rq.len:∀{ks:List (Option Expr)}{vs:List Expr}{kvs:List (Pz×D)},Rq X ks vs kvs->ks.all (·.isSome)=true/\ks.length=vs.length/\ks.length=kvs.length
 |_,_,_,.nil=>⟨rfl,rfl,rfl⟩
 | _,_,_,.int _ _ _ t=>by obtain⟨h1,h2,h3⟩:=t.len;simp[h1,h2,<- h3]
 | _,_,_,.str _ _ _ t=>by obtain⟨h1,h2,h3⟩:=t.len;simp[h1,h2,<- h3]
end
end L2
namespace L2
open PySem PySem.Spec PyProof.Rows PySem.SeqAt
mutual
noncomputable def De:Nat->D->Bool
 |_,.non=>true
 |_,.bl _=>true
 |_,.int _=>true
 |_,.str _=>true
 |n+1,.tup xs=>yU n xs
 |n+1,.lst xs=>yU n xs
 |n+1,.dct m=>m == 0
 |_,_=>false
noncomputable def yU:Nat->List D->Bool
 |_,[]=>true
 |n,x::xs=>De n x && yU n xs
end
mutual
noncomputable def Fb:D->Nat
 |.int _=>602
 |.str x=>10*x.length+2
 |.tup xs=>Bu xs+3
 |.lst xs=>Bu xs+3
 |_=>6
noncomputable def Bu:List D->Nat
 |[]=>0
 |x::xs=>Fb x+2+Bu xs
end
mutual
theorem Df:∀d:D,(QR d).leavesShort 601=true->(QR d).shown.length<=Fb d
 |.non,_=>by decide
 |.bl b,_=>by cases b<;>decide
 | .int i,h=>by
  have e:(PyData.shown (.int i)).length<=601:=by simpa only[QR,PyData.leavesShort,decide_eq_true_eq]using h
  exact Nat.le_succ_of_le e
 | .str x,h=>by
  have hx:∀c∈x.cps.toList,c<16^8:=by simpa only[QR,PyData.leavesShort,List.all_eq_true,decide_eq_true_eq]using h
  have e:=PySem.StrLaws.reprText_len x hx
  simp only[QR,PyData.shown,Fb]
  omega
 | .tup xs,h=>by
  have h1:=yV xs (by simpa only[QR,PyData.leavesShort]using h)
  have h2:=tupleText_len_le (PyData.shownAll (g8 xs))
  have h3:=PyData.shownAll_length (g8 xs)
  simp only[QR,PyData.shown,Fb]
  omega
 | .lst xs,h=>by
  have h1:=yV xs (by simpa only[QR,PyData.leavesShort]using h)
  have h2:=listText_len_le (PyData.shownAll (g8 xs))
  have h3:=PyData.shownAll_length (g8 xs)
  simp only[QR,PyData.shown,Fb]
  omega
 |.dct _,_=>by simp only[QR,Fb];decide
 |.exc _ _ _,_=>by simp only[QR,Fb];decide
 |.fn _ _,_=>by simp only[QR,Fb];decide
theorem yV:∀ds:List D,PyData.leavesShortAll 601 (g8 ds)=true->((PyData.shownAll (g8 ds)).map (·.length)).sum+2*(g8 ds).length<=Bu ds
 |[],_=>by simp only[g8,PyData.shownAll,List.map_nil,List.sum_nil,List.length_nil,Bu];omega
 | d::ds,h=>by
  have h':(QR d).leavesShort 601=true/\PyData.leavesShortAll 601 (g8 ds)=true:=by simpa only[g8,PyData.leavesShortAll,Bool.and_eq_true]using h
  have h1:=Df d h'.1
  have h2:=yV ds h'.2
  simp only[g8,PyData.shownAll,List.map_cons,List.sum_cons,List.length_cons,Bu]
  omega
end
structure NR (d:D):Prop where
 ok:Q3 40 d=true
 sh:iU d=true
 ln:(QR d).shown.length<=sizeLine
theorem Ay.l{d:D}(h:Ay d):NR d:=⟨h.ok,h.sh,h.len⟩
end L2
namespace L2
open PySem PySem.Spec PyProof.Rows
section
variable{X:Cx}{b:Expr}{pos p:Pos}{tb:W L}{x:Str}
def Jw(i:Nat)(tb:W L):W L:=λZ kz=>t9 i Z λ_ _=>tb Z λr Z1=>match r with
 |.own _ ys=>t9 i Z1 λ_ xs=>xs.length+ys.length<=sizeLine/\∀q,kz (.own q (xs++ys)) Z1
 |_=>False
theorem Jx(i:Nat)(hb:PL X b tb)(hN:X.N[i]?=some x:=by rfl)(hv:PQ X.env.scope x:=by first | exact Or.inl rfl | exact Or.inr (Or.inl rfl) | exact Or.inr (Or.inr rfl)) (hd:(x == ("__debug__" : Str))=false:=by decide)
  (hcd:(x == ("__classdict__" : Str))=false:=by decide):PL X (.BinOp (.Name x p) .Add b pos) (Jw i tb):=by
 refine PL.of (Nw Cz (d4 hN hv hd hcd) hb.pe) λσ H Pr Z kz E h=>?_;obtain⟨l,xs0,q0,h⟩:=dM h;obtain⟨hσ,vs0,hl0,_⟩:=E.ownAt q0;refine⟨.ref l,hσ,Pr,Z,_,E,h,λv H' r Z' E' pp=>?_⟩;split at pp
 rotate_left
 . exact pp.elim
 rename_i l2 ys;obtain⟨l',xs,q,hz,pp⟩:=dM pp;obtain⟨hσ',vs,hl,r1⟩:=E'.tail.ownAt q;rw[hσ]at hσ';cases hσ';obtain⟨hs,ws,hl2,r2⟩:=E'.ownAt (i:=0) rfl;have ev:v=.ref l2:=by simpa using hs
 subst ev;exact⟨l,l2,vs,ws,rfl,rfl,P0.of hl,P0.of hl2,by rw[r1.length,r2.length];exact hz,λp hp=>⟨_,Z',E'.tail.cons_own hp (r1.append r2),pp p⟩⟩
end
end L2
namespace L2
open PySem PySem.Spec PyProof.Rows PySem.W
end L2
namespace L2
open PySem PySem.Spec PyProof.Rows
end L2
namespace L2
open PySem PySem.Spec PyProof.Rows PySem.SeqAt
mutual
noncomputable def Rr:D->Bool
 |.dct n=>n == 0
 |.exc _ _ _=>false
 |.fn _ _=>false
 |.tup xs=>Mf xs
 |.lst xs=>Mf xs
 |.str x=>PyData.strOk x
 |_=>true
noncomputable def Mf:List D->Bool
 |[]=>true
 |x::xs=>Rr x && Mf xs
end
mutual
theorem rf:∀d:D,Rr d=true->iU d=true->(QR d).leavesShort 601=true
 |.non,_,_=>rfl
 |.bl _,_,_=>rfl
 |.dct _,_,_=>rfl
 |.exc _ _ _,h,_=>by simp[Rr]at h
 |.fn _ _,h,_=>by simp[Rr]at h
 | .int i,_,h=>by
  have:=(qx (.int i) h).1
  simpa only[QR,PyData.leavesShort,PyData.intsShort]using this
 |.str x,h,hs=>PyData.leavesShort_of_canLay0 601 (.str x) (by simpa only[Rr,PyData.canLay0]using h) (qx (.str x) hs).1
 | .tup xs,h,hs=>by
  have:=om xs (by simpa only[Rr]using h) (by simpa only[iU]using hs)
  simpa only[QR,PyData.leavesShort]using this
 | .lst xs,h,hs=>by
  have:=om xs (by simpa only[Rr]using h) (by simpa only[iU]using hs)
  simpa only[QR,PyData.leavesShort]using this
theorem om:∀ds:List D,Mf ds=true->lg ds=true->PyData.leavesShortAll 601 (g8 ds)=true
 |[],_,_=>rfl
 | d::ds,h,hs=>by
  simp only[Mf,Bool.and_eq_true]at h
  simp only[lg,Bool.and_eq_true]at hs
  simp only[g8,PyData.leavesShortAll,rf d h.1 hs.1,om ds h.2 hs.2,Bool.and_self]
end
structure Oz (d:D):Prop where
 ok:Rr d=true
 sh:iU d=true
 dp:(QR d).depth<=40
 sg:Fb d<=16777216
 ni:∀i,d≠.int i
theorem Oz.len{d:D}(h:Oz d):(QR d).shown.length<=sizeLine:=by
 have e:sizeLine=16777216:=by decide
 rw[e];exact Ur (Df d (rf d h.ok h.sh)) h.sg
end L2
namespace L2
open PySem PySem.Spec PyProof.Rows
theorem aA.takeIn{K:PySem.W.Frag}{Pr H:Hp}{σ:St}{Z:Ev}{i j:Nat}{ls:List L}{l:L}(E:aA K Pr H σ Z)(hi:Z[i]?=some (.bx none ls))(hj:ls[j]?=some l) :
  ∃a us w,σ[i]?=some (some (.ref a))/\P1 K H a us/\us.length=ls.length/\us[j]?=some w/\aA K Pr H (some w::σ) (l::Z.set i (.bx none (ls.set j .un))):=by
 obtain⟨sv,hs,_⟩:=E.slot hi;have hil:i<Z.length:=(k4.mp hi).1;have hjl:j<ls.length:=(k4.mp hj).1;obtain⟨a,us,rfl,ha,hl,E2⟩:=(E.outL hi hs).openT;have hju:j<us.length:=by omega
 have E3:=E2.outL (i:=j) (k:=l) (s:=some us[j]) (by rw[List.getElem?_append_left hjl];exact hj) (by rw[List.getElem?_append_left (by simpa using hju),List.getElem?_map,gV hju];rfl);rw[List.set_append_left _ _ hjl]at E3;have hll:us.length=(ls.set j L.un).length:=by simpa using hl
 have fI:=E.len
 have E4:aA K Pr H (us.map some++(some us[j]::σ)) (ls.set j .un++(l::Z.set i .un)):=E3.rearr (by simp[hl,fI]) [] (by
  rw[List.append_nil,List.zip_append (by simpa using hll),List.zip_cons_cons,List.zip_cons_cons,List.zip_append (by simpa using hll)]
  exact List.perm_middle.symm)
 have E5:=E4.closeT hll ha;have E6:=E5.back (i:=i+1) (by simp[hil]) (by simpa using hs);refine⟨a,us,us[j],hs,ha,hl,gV hju,?_⟩;simpa[List.set_set]using E6
section
variable{X:Cx}{x:Str}{p pos kpos:Pos}
def Ga(o:Option L)(i k:Nat)(Z:Ev)(kz:L->Ev->Prop):Prop:=match o with
 |some (.bx none ls)=>∃l,ls[k]?=some l/\kz l (Z.set i (.bx none (ls.set k .un)))
 |some (.d (.tup ds))=>∃d,ds[k]?=some d/\kz (.d d) Z
 |_=>False
def Dg(i k:Nat):W L:=λZ kz=>Ga Z[i]? i k Z kz
theorem Gb(ls:List L)(i k:Nat)(Z:Ev)(kz:L->Ev->Prop):Ga (some (.bx none ls)) i k Z kz=∃l,ls[k]?=some l/\kz l (Z.set i (.bx none (ls.set k .un))):=(rfl)
theorem Jy(ds:List D)(i k:Nat)(Z:Ev)(kz:L->Ev->Prop):Ga (some (.d (.tup ds))) i k Z kz=∃d,ds[k]?=some d/\kz (.d d) Z:=(rfl)
theorem Dh {kk} (i k:Nat) (hN:X.N[i]?=some x:=by rfl) (hv:PQ X.env.scope x:=by first | exact Or.inl rfl | exact Or.inr (Or.inl rfl) | exact Or.inr (Or.inr rfl)) (hd:(x == ("__debug__" : Str))=false:=by decide)
  (hcd:(x == ("__classdict__" : Str))=false:=by decide):PL X (.Subscript (.Name x p) (.Constant (.int (k:Int)) kk kpos) pos) (Dg i k):=by
 refine PL.of (Im Cj (d4 hN hv hd hcd) Hq (λ_ _=>rfl)) λσ H Pr Z kz E h=>?_;unfold Dg Ga at h;split at h
 . rename_i ls hi;obtain⟨l,hl,h⟩:=h;obtain⟨a,us,w,hs,ha,fI,hw,E'⟩:=E.takeIn hi hl;exact⟨_,hs,a,us,_,w,rfl,rfl,ha,eW hw,_,_,E',h⟩
 .
  rename_i ds hi;obtain⟨d,hd,h⟩:=h;obtain⟨sv,hs,sl⟩:=E.slot hi;obtain⟨v,rfl,r⟩:=sl
  cases r with
  | tup ha rs =>
   obtain⟨w,hw,rw_⟩:=rs.get hd;exact⟨_,hs,_,_,_,w,rfl,rfl,ha,eW hw,_,_,E.cons_d rw_,h⟩
 . exact h.elim
end
theorem aA.updFree{K:PySem.W.Frag}{Pr H:Hp}{σ:St}{Z:Ev}{D:Addr}{vs:List V}(E:aA K Pr H σ Z)(hn:D∉owns Z)(hD:H D=some (.lst vs))(hp:Pr D=none)(o:HO):aA K Pr (PD H D o) σ Z:=by
 have pr:sT H (PD H D o):=λb u pu e=>by
  have:b≠D:=λz=>by rw[z,hD]at e;cases e;exact pu
  rw[aE this];exact e
 refine⟨λb u e=>?_,E.nd,E.off,?_⟩
 .
  have:b≠D:=λz=>by rw[z,hp]at e;cases e
  rw[aE this];exact E.sub b u e
 .
  have key:∀{σ:St}{Z:Ev},D∉owns Z->Paired (a6 K H) σ Z->Paired (a6 K (PD H D o)) σ Z:=by
   intro σ Z hn h
   induction h with
   |nil=>exact .nil
   | cons q t ih =>
    rw[aJ]at hn;exact .cons (a6.pres pr _ (λa ha=>aE λz=>hn (List.mem_append_left _ (z ▸ ha))) q) (ih λz=>hn (List.mem_append_right _ z))
  exact key hn E.sl
theorem aA.cons_bx0{K:PySem.W.Frag}{Pr H:Hp}{σ:St}{Z:Ev}(E:aA K Pr H σ Z){p:Addr}(h:H p=none):aA K Pr (PD H p (.lst [])) (some (.ref p)::σ) (.bx (some p) []::Z):=by
 refine aA.closeO (vs:=[]) (ls:=[]) rfl bG (λz=>?_) ?_ (E.new h)
 . obtain⟨o,e,_⟩:=E.at_own (show p∈owns Z from z);rw[h]at e;cases e
 .
  cases q:Pr p with
  |none=>rfl
  |some u=>rw[E.sub _ u q]at h;cases h
theorem aA.bxPush{K:PySem.W.Frag}{Pr H:Hp}{τ:St}{Z:Ev}{D:Addr}{vy:V}{r:L}{acc:List L}(E:aA K Pr H (some vy::(some (V.ref D)::τ)) (r::(.bx (some D) acc::Z))) :
  ∃vs,H D=some (.lst vs)/\vs.length=acc.length/\aA K Pr (PD H D (.lst (vs++[vy]))) (some (.ref D)::τ) (.bx (some D) (acc++[r])::Z):=by
 have hl:=E.len
 have E1:aA K Pr H (some (V.ref D)::(some vy::τ)) (.bx (some D) acc::(r::Z)):=E.rearr (by simpa using hl) [] (by
  rw[List.append_nil,List.zip_cons_cons,List.zip_cons_cons,List.zip_cons_cons,List.zip_cons_cons]
  exact .swap _ _ _)
 obtain⟨vs,_,hD,hvl,hn,hp,E2⟩:=E1.openO;refine⟨vs,hD,hvl,?_⟩;have e1:vs.map some++(some vy::τ)=(vs++[vy]).map some++τ:=by simp
 have e2:acc++(r::Z)=(acc++[r])++Z:=by simp
 rw[e1,e2]at E2;rw[e2]at hn;exact(E2.updFree hn hD hp (.lst (vs++[vy]))).closeO (by simp[hvl]) bG hn hp
def mH(g:Tg)(ti:W Bool)(te:W L):List D->Ev->List L->(List L->Ev->Prop)->Prop
 |[],Z,acc,k=>k acc Z
 |x::xs,Z,acc,k=>g x Z λZ1=>ti Z1 λb Z2=>if b=true then te Z2 λr Z3=>mH g ti te xs Z3 (acc++[r]) k else mH g ti te xs Z2 acc k
def AD(n:Nat)(fi:List Nat)(src:W (List D))(g:Tg)(ti:W Bool)(te:W L):W L:=λZ kz=>src Z λxs Z1=>xs.length<=sizeLine /\
 mH g ti te xs (List.replicate n .un++bF fi Z1) [] λys ρb=>∀a,kz (.bx (some a) ys) (dg fi (ρb.drop n) (aR fi Z1))
section
variable{X:Cx}
theorem Bv{elt tg iter:Expr}{ifs:List Expr}{scope sc:Scope}{pos:Pos}{N Nt Nf:List Str}{fi:List Nat}{src:W (List D)}{g:Tg}{ti:W Bool}{te:W L}
  (hsc:X.env.scope=sc) (hXN:X.N=N) (hc:X.calm=true) (hi:QQ X tg iter src)
  (hkind:scope.kind=.function) (hnames:∀x∈scope.names,x.2=.local->scope.names.lookup x.1=some .local) (hcell:∀y∈scope.names,y.2≠.cell)
  (hfr:∀x∈scope.names,x.2=.free->sc.names.lookup x.1=some .cell∨sc.names.lookup x.1=some .free)
  (hnd:fi.Nodup) (hNf:Nf.map some=fi.map (λj=>N[j]?)) (hNk:∀x∈Nf,scope.names.lookup x=some .free) (hfl:∀j∈fi,j<N.length)
  (hg:∀cl s₀ H₀ fp,QW (cS X scope cl (Nt++Nf) s₀ H₀ fp) tg Nt.length g) (hti:∀cl s₀ H₀ fp,QX (cS X scope cl (Nt++Nf) s₀ H₀ fp) ifs ti) (hte:∀cl s₀ H₀ fp,PL (cS X scope cl (Nt++Nf) s₀ H₀ fp) elt te)
  {ab:List (Addr×Obj)} {s:Shared} {σ:St} {H Pr:Hp} {Z:Ev} {kz:L->Ev->Prop} {use:Option (Value->Sem Unit)} {Q:Value->Shared->Prop} (I:PU X ab σ H s) (E:aA X.K Pr H σ Z) (h:AD Nt.length fi src g ti te Z kz)
  (hRR:∀D C s7 H6 acc Z'' m,PU X ab σ H6 s7->s7.heap.Ns C m->H6 C=none->C≠X.env.locals->X.s₀.heap.objs.size<=C->(∀x c,X.env.cells.lookup x=some c->c≠C)->(∀p∈X.pn++ab,p.1≠C)->aA X.K Pr H6 (some (.ref D)::σ) (.bx (some D) acc::Z'')->kz (.bx (some D) acc) Z'' ->
   compPost (model X.prog X.w) X.A X.xe use Q (.ref D) C (.ok .next) s7)
  (hs:∀x,foldedSetIterable iter X.env x=pure x):wpAny (model X.prog X.w) X.A (comprehension (.ListComp elt [⟨tg,iter,ifs,0⟩] scope pos) scope X.env (firstIterPos [⟨tg,iter,ifs,0⟩] pos) (newList []) false (eval iter X.env) use) Q X.xe s:=by
 have hcells:∀x∈scope.names,x.2=.free->∃c,X.env.cells.lookup x.1=some c:=λx hx hk=>I.ok.has x.1 (by
  show X.env.scope.names.lookup x.1=_∨X.env.scope.names.lookup x.1=_
  rw[hsc];exact hfr x hx hk)
 have hsub:=uU (cells:=X.env.cells) scope.names [] (λx c e=>by simp at e);refine wpAny_comprehension_free (use:=use) rfl hs (mz hcells) hkind hnames (PX (hi ab s σ H Pr Z _ I E h) λv s1 h1=>PX h1 λitv s2 h2=>?_);obtain⟨it,fp,tn,J,H2,xs,Z2,e,I2,T,st2,f2,E2,G,fI,w0⟩:=h2;subst e;refine wpAny_newObj_type (T:="list") ?_;generalize hD:s2.heap.objs.size=D;have fD:H2 D=none:=by rw[<- hD];exact I2.fresh
 have I3:PU X ab σ (PD H2 D (.lst [])) {s2 with heap:=s2.heap.push {cls:=.type "list",dict:=none,data:=.seq ([]:List Value).toArray} }:=by have:=PU.lnew (ys:=[]) (its:=[]) (t':=s2.toks) I2 .nil (Nat.zero_le _);rw[hD]at this;exact this
 have E3:=E2.cons_bx0 (p:=D) fD;have sz3:(s2.heap.push {cls:=.type "list",dict:=none,data:=.seq ([]:List Value).toArray}).objs.size=D+1:=by rw[Heap.size_push,hD]
 generalize hs3:({s2 with heap:=s2.heap.push {cls:=.type "list",dict:=none,data:=.seq ([]:List Value).toArray} }:Shared)=s3 at I3;have hs3h:s3.heap=s2.heap.push {cls:=.type "list",dict:=none,data:=.seq ([]:List Value).toArray}:=by rw[<- hs3]
 have fpD:∀b∈fp,b≠D:=λb hb=>by obtain⟨o,e,_⟩:=T.obj 0 _ st2 b hb;rw[<- hD];exact Nat.ne_of_lt (Ut e)
 have old3:∀b o,s2.heap.get? b=some o->s3.heap.get? b=some o:=λb o e=>by rw[hs3h];exact p4 _ e
 refine wpAny_newFunctionEnv (around:=some X.env) hcell (by intro y hy;simp at hy) (λh4 hns4 hsb4=>?_) hkind
 have hns4':h4.Ns s3.heap.objs.size (λ_=>none):=by
  have:(λx=>(([]:List (Str×Value)).reverse.lookup x))=λ_=>(none:Option Value):=by funext x;rfl
  rw[this]at hns4;exact hns4
 have old4:∀b o,s3.heap.get? b=some o->h4.get? b=some o:=λb o e=>by rw[hsb4.2 b (Nat.ne_of_lt (Ut e))];exact p4 _ e
 have hσl:σ.length=N.length:=by rw[<- hXN];exact I.len
 have hρ2:σ.length=Z2.length:=E2.len;have hjσ:∀j∈fi,j<σ.length:=λj hj=>by rw[hσl];exact hfl j hj
 have hjρ:∀j∈fi,j<Z2.length:=λj hj=>by rw[<- hρ2];exact hjσ j hj
 have hfpl:∀b∈fp,b<s3.heap.objs.size:=λb hb=>by obtain⟨o,e,_⟩:=T.obj 0 _ st2 b hb;exact Ut (old3 b o e)
 have hlNf:Nf.length=fi.length:=by have:=congrArg List.length hNf;simpa using this
 have Bok:(cS X scope (wQ X.env.cells scope.names []) (Nt++Nf) s3 (PD H2 D (.lst [])) fp).Ok:=by
  refine⟨I3.ok.mod,hkind,I.ok.glob,I.ok.blt,Uu _,λx y c e1 e2=>I.ok.inj x y c (hsub x c e1) (hsub y c e2),λx hx=>?_,λx c hf _=>(Bool.false_ne_true hf).elim,I.ok.hd,I.ok.frames,.inl rfl,λb hb=>⟨Nat.ne_of_lt (hfpl b hb),λx c e=>(f2 b hb).2.2.2.2.1 x c (hsub x c e)⟩,I3.bs,Ur I.ok.bsz I3.sz,λb o e hb=>?_,λb hb hm=>?_,I3.stack,I3.stkFree,I3.tbs⟩
  .
   have hm:(x,NameKind.free)∈scope.names:=by
    rcases hx with hx|hx
    . exact dN (env:=X.env) hcell (.inl rfl) hx
    . exact dN (env:=X.env) hcell (.inr rfl) hx
   exact mB scope.names [] x (.inr ⟨hm,hcells _ hm rfl⟩)
  .
   rcases(f2 b hb).2.2.2.1 with z|z
   . exact I.ok.noex b o e z
   . exact absurd (so (Ut (I.ok.bs b o e).1) z) (Nat.lt_irrefl _)
  .
   rcases Uq.mp (I3.stkSub b hm)with z|z
   . exact(f2 b hb).2.1 z
   . exact(f2 b hb).2.2.1 z
 have I4:PU (cS X scope (wQ X.env.cells scope.names []) (Nt++Nf) s3 (PD H2 D (.lst [])) fp) [] (List.replicate Nt.length none++bf fi σ) (PD H2 D (.lst [])) {s3 with heap:=h4,toks:=s3.toks+([]:List (Str×Value)).length}:=by
  refine⟨Bok,rfl,I3.bare,Un.kept old4,⟨_,hns4',λi x v e1 e2 e3=>?_⟩,λx c e=>?_,I3.fresh,λx c e=>(I3.freeC x c (hsub x c e)).imp id λz=>⟨rfl,z.2⟩,λp hp=>absurd (show p∈([]:List (Addr×Obj))from hp) x_,I3.hok.kept old4,?_⟩
  .
   have e1:(Nt++Nf)[i]?=some x:=e1
   have hi':Nt.length<=i:=by
    by_cases q:i<Nt.length
    . rw[List.getElem?_append_left (by simpa using q),List.getElem?_replicate]at e2;split at e2<;>cases e2
    . omega
   rw[List.getElem?_append_right hi']at e1;rw[List.getElem?_append_right (by simpa using hi')]at e2;simp only[List.length_replicate]at e2;generalize i-Nt.length=k at e1 e2;have hk:k<fi.length:=by have:=(k4.mp e1).1;omega
   have e4:(Nf.map some)[k]?=(fi.map λj=>N[j]?)[k]?:=by rw[hNf]
   rw[List.getElem?_map,List.getElem?_map,e1,gV hk]at e4;have e5:N[fi[k]]?=some x:=by simpa using e4.symm
   have e6:σ[fi[k]]?=some (some v):=by unfold bf at e2;rw[List.getElem?_map,gV hk]at e2;have hjl:=hjσ fi[k] (List.getElem_mem hk);rw[gV hjl];simpa[gV hjl]using e2
   have hxm:x∈Nf:=List.mem_of_getElem? e1;have hfree:=hNk x hxm;have hmem:(x,NameKind.free)∈scope.names:=PySem.mem_of_lookup hfree;have hkx:=hfr _ hmem rfl;obtain⟨m,_,hl⟩:=I3.loc;obtain⟨u,ru,lk⟩:=hl fi[k] x v (by rw[hXN];exact e5) e6 (by rw[hsc];exact .inr hkx);refine⟨u,ru,.inr ⟨cZ (env:=X.env) hfree,?_⟩⟩;rcases lk with⟨z,_⟩|⟨_,c,hc1,hc2⟩
   .
    have z:X.env.scope.names.lookup x=some .local:=z;rw[hsc]at z;rcases hkx with q|q
    . rw[z]at q;cases q
    . rw[z]at q;cases q
   .
    obtain⟨d,hd⟩:=mB (cells:=X.env.cells) scope.names [] x (.inr ⟨hmem,c,hc1⟩);have:d=c:=by have:=hsub x d hd;rw[hc1]at this;exact(Option.some.inj this).symm
    subst this;obtain⟨o,ho,hdd⟩:=hc2;exact⟨d,hd,o,old4 _ o ho,hdd⟩
  . obtain⟨v,o,ho,hd⟩:=I3.cell x c (hsub x c e);exact⟨v,o,old4 c o ho,hd⟩
  . show(List.replicate Nt.length none++bf fi σ).length=(Nt++Nf).length;simp[bf,hlNf]
 have E4:aA X.K Pr (PD H2 D (.lst [])) (some (.ref D)::(σ++(List.replicate Nt.length none++bf fi σ))) (.bx (some D) []::(aR fi Z2++(List.replicate Nt.length .un++bF fi Z2))):=by
  have a1:aA X.K Pr (PD H2 D (.lst [])) (σ++[some (.ref D)]) (Z2++[.bx (some D) []]):=E3.rearr (by simp[hρ2]) [] (by
   rw[List.append_nil,List.zip_append hρ2]
   exact(List.perm_append_comm (l₁:=[(some (V.ref D),L.bx (some D) [])]) (l₂:=σ.zip Z2)))
  have a2:=a1.takes fi hnd λj hj=>by have:=hjρ j hj;simp;omega
  rw[mC hjσ,ua hjρ,qR hjρ]at a2;have a3:=a2.uns Nt.length;have hcl:(bf fi σ).length=(bF fi Z2).length:=by simp[bf,bF]
  have hul:σ.length=(aR fi Z2).length:=by rw[cC];exact hρ2
  refine a3.rearr (by simp[hul,hcl]) [] ?_;have l1:(bf fi σ++(σ++[some (V.ref D)])++List.replicate Nt.length none).zip (bF fi Z2++(aR fi Z2++[L.bx (some D) []])++List.replicate Nt.length L.un)=((bf fi σ).zip (bF fi Z2)++(σ.zip (aR fi Z2)++[(some (V.ref D),L.bx (some D) [])]))++(List.replicate Nt.length none).zip (List.replicate Nt.length L.un):=by rw[List.zip_append (by simp only[List.length_append,hcl,hul];rfl),List.zip_append hcl,List.zip_append hul];rfl
  have l2:(some (V.ref D)::(σ++(List.replicate Nt.length none++bf fi σ))).zip (L.bx (some D) []::(aR fi Z2++(List.replicate Nt.length L.un++bF fi Z2)))=(some (V.ref D),L.bx (some D) [])::(σ.zip (aR fi Z2)++((List.replicate Nt.length none).zip (List.replicate Nt.length L.un)++(bf fi σ).zip (bF fi Z2))):=by rw[List.zip_cons_cons,List.zip_append hul,List.zip_append x_]
  rw[List.append_nil,l1,l2];generalize (bf fi σ).zip (bF fi Z2)=z1;generalize σ.zip (aR fi Z2)=z2;generalize (List.replicate Nt.length none).zip (List.replicate Nt.length L.un)=z3;show(z1++(z2++[(some (V.ref D),L.bx (some D) [])])++z3).Perm ((some (V.ref D),L.bx (some D) [])::(z2++(z3++z1)));have p1:(z1++(z2++[(some (V.ref D),L.bx (some D) [])])++z3).Perm ((z2++[(some (V.ref D),L.bx (some D) [])])++z3++z1):=by rw[List.append_assoc];exact List.perm_append_comm
  refine p1.trans ?_;rw[List.append_assoc,List.append_assoc];exact List.perm_middle
 clear E3
 let B:Cx:=cS X scope (wQ X.env.cells scope.names []) (Nt++Nf) s3 (PD H2 D (.lst [])) fp
 have hul:σ.length=(aR fi Z2).length:=by rw[cC];exact hρ2
 have stat:∀{H':Hp},(∀b∈fp,H' b=none)->∀b∈fp,B2 B [] H' b:=λhn b hb=>by
  refine⟨hn b hb,Nat.ne_of_lt (hfpl b hb),λhm=>?_,.inl hb,λx c e=>(f2 b hb).2.2.2.2.1 x c (hsub x c e),λp hp=>absurd (show p∈([]:List (Addr×Obj))from hp) x_⟩;rcases Uq.mp (I3.stkSub b hm)with z|z
  . exact(f2 b hb).2.1 z
  . exact(f2 b hb).2.2.1 z
 have loop:∀s5:Shared,s5={s3 with heap:=h4,toks:=s3.toks+([]:List (Str×Value)).length}->codeAny (model X.prog X.w) X.A (.compLoop (.ListComp elt [⟨tg,iter,ifs,0⟩] scope pos) 0 (.ref it) (.ref D) B.env)
   (compPost (model X.prog X.w) X.A X.xe use Q (.ref D) s3.heap.objs.size) s5:=by
  rintro s5 rfl
  refine wR (λn s'=>∃i σ' H' Z' acc,n+i=xs.length/\PU B [] σ' H' s'/\tn i s'.heap/\(∀b∈fp,H' b=none)/\σ'.drop Nt.length=bf fi σ/\aA X.K Pr H' (some (.ref D)::(σ++σ')) (.bx (some D) acc::(aR fi Z2++Z'))/\acc.length<=i /\
   mH g ti te (xs.drop i) Z' acc λys ρb=>∀a,kz (.bx (some a) ys) (dg fi (ρb.drop Nt.length) (aR fi Z2))) ?_ xs.length
   ⟨0,_,_,_,[],xL,I4,T.keep 0 _ _ st2 λb hb o e=>old4 b o (old3 b o e),λb hb=>by rw[aE (fpD b hb)];exact(f2 b hb).1,x_,E4,Uu _,by simpa using w0⟩
  rintro n s6 ⟨i,σ6,H6,Z6,acc,hn,I6,st6,fr6,dr6,E6,hal,w6⟩
  have pr:sT H2 H6:=λb o p e=>by
   have ne:b≠D:=λz=>by rw[z,fD]at e;cases e
   have e':B.H₀ b=some o:=by show PD H2 D (.lst []) b=some o;rw[aE ne];exact e
   cases o with
   |tup ys=>exact I6.base.tups b ys e'
   |frz ob u=>exact I6.base.frzs b ob u e'
   |tbl t=>exact I6.base.tbls b t e'
   |_=>exact p.elim
  obtain⟨go,stop⟩:=G H6 pr;have hτ:(some (V.ref D)::σ).length=(L.bx (some D) acc::aR fi Z2).length:=by simp[hul]
  by_cases hlt:i<xs.length
  .
   obtain⟨hgo,hy⟩:=go i xs[i] (gV hlt);rw[List.drop_eq_getElem_cons hlt]at w6;refine PX (T.item B rfl rfl rfl hc i [] s6 σ6 H6 (λ_ _=>False) I6 (stat fr6) st6 hgo) λr s7 ⟨u,hr,h7⟩=>?_;subst hr;refine PX h7 λ_ s8 ⟨x,H8,I8,r8,y8,st8,fr8⟩=>?_;obtain⟨gr,rx⟩:=hy x H8 y8;have I8':=I8.pinned (stat fr8) (T.obj _ _ st8);have E8:=E6.grown gr;have E8a:aA X.K (bq H8 Z6) H8 σ6 Z6:=(aA.drop (τ:=some (V.ref D)::σ) (lam:=L.bx (some D) acc::aR fi Z2) E8 hτ).wide;obtain⟨gg,hgg,hgs⟩:=hg (wQ X.env.cells scope.names []) s3 (PD H2 D (.lst [])) fp;refine PX (hgg _ s8 σ6 H8 x u _ I8' r8 (hgs x σ6 H8 _ Z6 xs[i] _ I8.len E8a rx w6)) λ_ s9 ⟨σ9,H9,I9,e9,dr9,Z9,E9,q9⟩=>?_;subst e9;have F9:aA X.K Pr H9 (some (V.ref D)::(σ++σ9)) (L.bx (some D) acc::(aR fi Z2++Z9)):=aA.step (τ:=some (V.ref D)::σ) (lam:=L.bx (some D) acc::aR fi Z2) (w:=[]) (μ:=[]) E8 hτ E9 rfl;have F9a:aA X.K (bq H9 Z9) H9 σ9 Z9:=(aA.drop (τ:=some (V.ref D)::σ) (lam:=L.bx (some D) acc::aR fi Z2) F9 hτ).wide;refine PX (hti _ _ _ _ _ s9 σ9 H9 _ Z9 _ I9 F9a q9) λok sA ⟨HA,ρA,IA,EA,qA⟩=>?_;have FA:aA X.K Pr HA (some (V.ref D)::(σ++σ9)) (L.bx (some D) acc::(aR fi Z2++ρA)):=aA.step (τ:=some (V.ref D)::σ) (lam:=L.bx (some D) acc::aR fi Z2) (w:=[]) (μ:=[]) F9 hτ EA rfl
   have again:∀{sZ:Shared}{HZ:Hp}{ρZ:Ev}{acc':List L},PU B ([]++tY fp s8.heap) σ9 HZ sZ->aA X.K Pr HZ (some (.ref D)::(σ++σ9)) (.bx (some D) acc'::(aR fi Z2++ρZ))->acc'.length<=i+1 ->
     (mH g ti te (xs.drop (i+1)) ρZ acc' λys ρb=>∀a,kz (.bx (some a) ys) (dg fi (ρb.drop Nt.length) (aR fi Z2)))->∃m,m<n/\∃i σ' H' Z' acc,m+i=xs.length/\PU B [] σ' H' sZ/\tn i sZ.heap/\(∀b∈fp,H' b=none)/\σ'.drop Nt.length=bf fi σ /\
     aA X.K Pr H' (some (.ref D)::(σ++σ')) (.bx (some D) acc::(aR fi Z2++Z'))/\acc.length<=i/\mH g ti te (xs.drop i) Z' acc λys ρb=>∀a,kz (.bx (some a) ys) (dg fi (ρb.drop Nt.length) (aR fi Z2)):=λ{sZ HZ ρZ acc'} IZ EZ hz qZ=>by
    refine⟨n-1,xL,i+1,σ9,HZ,ρZ,acc',xL,IZ.unpinned,T.keep _ _ _ st8 λb hb o e=>(IZ.pin (b,o) (List.mem_append_right _ (List.mem_append_right _ (eV hb e)))).1,λb hb=>?_,dr9.trans dr6,EZ,hz,qZ⟩;obtain⟨o,e,d⟩:=T.obj _ _ st8 b hb;exact(IZ.pin (b,o) (List.mem_append_right _ (List.mem_append_right _ (eV hb e)))).2.1
   cases ok with
   | false =>
    rw[if_neg Bool.false_ne_true]at qA ⊢;exact again IA FA xL qA
   | true =>
    rw[if_pos rfl]at qA ⊢;have FAa:aA X.K (bq HA ρA) HA σ9 ρA:=(aA.drop (τ:=some (V.ref D)::σ) (lam:=L.bx (some D) acc::aR fi Z2) FA hτ).wide;refine PX (hte _ _ _ _ _ sA σ9 HA _ ρA _ IA FAa qA) λux sB qB=>?_;obtain⟨vy,HB,y,ρB,IB,rB,EB,qB⟩:=qB;have FB:aA X.K Pr HB (some vy::(some (V.ref D)::(σ++σ9))) (y::(L.bx (some D) acc::(aR fi Z2++ρB))):=aA.step (τ:=some (V.ref D)::σ) (lam:=L.bx (some D) acc::aR fi Z2) (w:=[some vy]) (μ:=[y]) FA hτ EB rfl;obtain⟨vs,hDB,hvl,FC⟩:=FB.bxPush;refine PX (mj (X:=B) _ sB σ9 HB (.ref D) [vy] (.ref D) [ux] (λz H'=>H'=PD HB D (.lst (vs++[vy]))) IB rfl (.cons rB .nil) ⟨D,vs,vy,rfl,rfl,hDB,by rw[hvl];omega,rfl⟩) λ_ sC ⟨z,HC,IC,_,eC⟩=>?_;subst eC;exact again IC FC (by simp;omega) qB
  .
   have e:i=xs.length:=by omega
   subst e;refine PX (T.done B rfl rfl rfl hc xs.length [] s6 σ6 H6 (λ_ _=>False) I6 (stat fr6) st6 stop) λr s7 ⟨hr,I7⟩=>?_;subst hr;rw[List.drop_length]at w6;obtain⟨m,hm,_⟩:=id I7.loc;have I8:PU X ab σ H6 s7:=I3.call' (ch:=fp) I7.os I7.base I7.hok I7.bare λb hb=>⟨(f2 b hb).2.2.2.1,(f2 b hb).2.1,(f2 b hb).2.2.2.2.1,(f2 b hb).2.2.2.2.2⟩;have f4:=I3.fpOk (H':=H6) (b:=s3.heap.objs.size) (Uu _) I7.free
   .
    have hlen6:σ6.length=Z6.length:=(aA.drop (τ:=some (V.ref D)::σ) (lam:=L.bx (some D) acc::aR fi Z2) E6 hτ).len
    have a1:aA X.K Pr H6 (bf fi σ++(σ++[some (V.ref D)])) (Z6.drop Nt.length++(aR fi Z2++[L.bx (some D) acc])):=by
     have hcd:(bf fi σ).length=(Z6.drop Nt.length).length:=by rw[<- dr6,List.length_drop,List.length_drop,hlen6]
     refine E6.rearr (by simp[hcd,hul,hlen6]) ((σ6.take Nt.length).zip (Z6.take Nt.length)) ?_;have l0:σ6.zip Z6=(σ6.take Nt.length).zip (Z6.take Nt.length)++(bf fi σ).zip (Z6.drop Nt.length):=by rw[<- dr6,<- List.zip_append (by simp[hlen6]),List.take_append_drop,List.take_append_drop]
     have l1:(some (V.ref D)::(σ++σ6)).zip (L.bx (some D) acc::(aR fi Z2++Z6))=(some (V.ref D),L.bx (some D) acc)::(σ.zip (aR fi Z2)++σ6.zip Z6):=by rw[List.zip_cons_cons,List.zip_append hul]
     have l2:(bf fi σ++(σ++[some (V.ref D)])).zip (Z6.drop Nt.length++(aR fi Z2++[L.bx (some D) acc]))=(bf fi σ).zip (Z6.drop Nt.length)++(σ.zip (aR fi Z2)++[(some (V.ref D),L.bx (some D) acc)]):=by rw[List.zip_append hcd,List.zip_append hul];rfl
     rw[l1,l2,l0];generalize (bf fi σ).zip (Z6.drop Nt.length)=z1;generalize σ.zip (aR fi Z2)=z2;generalize (σ6.take Nt.length).zip (Z6.take Nt.length)=z3;have p1:((some (V.ref D),L.bx (some D) acc)::(z2++(z3++z1))).Perm ((z2++[(some (V.ref D),L.bx (some D) acc)])++(z3++z1)):=by rw[List.append_assoc];exact List.perm_middle.symm
     refine p1.trans ?_;have p2:((z2++[(some (V.ref D),L.bx (some D) acc)])++(z3++z1)).Perm ((z3++z1)++(z2++[(some (V.ref D),L.bx (some D) acc)])):=List.perm_append_comm;refine p2.trans ?_;rw[List.append_assoc];exact List.perm_append_comm
    have a2:=aA.backs (σ:=σ++[some (V.ref D)]) (cs:=Z6.drop Nt.length) (Z:=aR fi Z2++[L.bx (some D) acc]) fi hnd (by rw[List.length_drop,<- hlen6,<- List.length_drop,dr6];simp[bf]) (λj hj=>by
     rw[List.getElem?_append_left (by rw[cC];exact hjρ j hj)];exact uT fi Z2 j hj (hjρ j hj)) (λj hj=>by have:=hjσ j hj;simp;omega) (by rw[mC hjσ];exact a1)
    rw[og λj hj=>by rw[cC];exact hjρ j hj]at a2;have hpl:σ.length=(dg fi (Z6.drop Nt.length) (aR fi Z2)).length:=by have:=a2.len;simpa using this
    refine hRR D s3.heap.objs.size s7 H6 acc (dg fi (Z6.drop Nt.length) (aR fi Z2)) m I8 hm f4.1 f4.2.1 I3.sz f4.2.2.2.2.1 f4.2.2.2.2.2 (a2.rearr (by simp[hpl]) [] ?_) (w6 D);rw[List.append_nil,List.zip_append hpl,List.zip_cons_cons];exact List.perm_append_comm (l₂:=[(some (V.ref D),L.bx (some D) acc)])
 exact codeAny_compStart_list (loop _ rfl) (T.self _ 0 _ _ _ (T.keep 0 _ _ st2 λb hb o e=>old4 b o (old3 b o e)) (loop _ rfl))
theorem Gc{elt tg iter:Expr}{ifs:List Expr}{scope sc:Scope}{pos:Pos}{N Nt Nf:List Str}{fi:List Nat}{src:W (List D)}{g:Tg}{ti:W Bool}{te:W L}
  (hsc:X.env.scope=sc) (hXN:X.N=N) (hc:X.calm=true) (hi:QQ X tg iter src)
  (hkind:scope.kind=.function) (hnames:∀x∈scope.names,x.2=.local->scope.names.lookup x.1=some .local) (hcell:∀y∈scope.names,y.2≠.cell)
  (hfr:∀x∈scope.names,x.2=.free->sc.names.lookup x.1=some .cell∨sc.names.lookup x.1=some .free)
  (hnd:fi.Nodup) (hNf:Nf.map some=fi.map (λj=>N[j]?)) (hNk:∀x∈Nf,scope.names.lookup x=some .free) (hfl:∀j∈fi,j<N.length)
  (hg:∀cl s₀ H₀ fp,QW (cS X scope cl (Nt++Nf) s₀ H₀ fp) tg Nt.length g) (hti:∀cl s₀ H₀ fp,QX (cS X scope cl (Nt++Nf) s₀ H₀ fp) ifs ti) (hte:∀cl s₀ H₀ fp,PL (cS X scope cl (Nt++Nf) s₀ H₀ fp) elt te)
  (hs:∀x,foldedSetIterable iter X.env x=pure x:=by intro _;rfl):PL X (.ListComp elt [⟨tg,iter,ifs,0⟩] scope pos) (AD Nt.length fi src g ti te):=by
 intro ab s σ H Pr Z kz I E h;rw[eval_ListComp];refine Bv (use:=none) hsc hXN hc hi hkind hnames hcell hfr hnd hNf hNk hfl hg hti hte I E h (λD C s7 H6 acc Z'' m I7 hm h1 h2 h3 h4 h5 E7 p=>?_) hs;exact⟨m,hm,λh' hsb=>⟨.ref D,H6,_,Z'',I7.turned (t':=s7.toks) (λb o hb e=>(hsb.2 b hb).trans e) h1 (Ne.symm (Ne.symm h2)) (.inr h3) h4 h5,rfl,E7,p⟩⟩
end
section
variable{X:Cx}{e:Expr}{p pos:Pos}{te:W L}
def Jz(r:L)(Z:Ev)(kz:L->Ev->Prop):Prop:=match r with
 |.bx (some _) ls=>kz (.bx none ls) Z
 |_=>False
def OA(ls:List L)(Z:Ev)(kz:L->Ev->Prop):Prop:=match ls with
 |[r]=>Jz r Z kz
 |_=>False
def Di(te:W L):W L:=λZ kz=>te Z λr Z1=>Jz r Z1 kz
theorem Gd(a:Addr)(ls:List L)(Z:Ev)(kz:L->Ev->Prop):Jz (.bx (some a) ls) Z kz=kz (.bx none ls) Z:=(rfl)
theorem Ge(he:PL X e te) (hg:Gl X "tuple") (hm:X.mg "tuple"=none) (hse:starEach [e] X.env=(false,eval e X.env)::starEach [] X.env:=by rfl) (hpl:(backTo pos (starEach ([]:List Expr) X.env)).any (·.1)=false:=by rfl):PL X (.Call (.Name "tuple" p) [e] [] pos) (Di te):=by
 intro ab s σ H Pr Z kz I E h;have ha:QD X [e] [none] (ar te aF):=af he ag hse;refine wpAny_Call_Name_kw (iQ I hg hm (by decide +kernel:bootBuiltins "tuple"=some (.type "tuple")) ?_ xp xp);refine PyProof.Rows.callWith_type1 (PX (ha pos ab s σ H Pr Z (λls Z1=>OA ls Z1 kz) I E h) λus s1 ⟨vs,H1,ls0,Z1,I1,r1,hl,hb,E1,_,q⟩=>?_) hse hpl;unfold OA at q;dsimp only at q;split at q
 rotate_left
 . exact q.elim
 rename_i r _
 cases r with
 | bx k ls =>
  cases k with
  |none=>exact q.elim
  | some a =>
   cases vs with
   |nil=>cases hl
   |cons v vs =>
   have hvs:vs=[]:=List.length_eq_zero_iff.mp (by simpa using hl);subst hvs;obtain⟨ws,e2,hD,hwl,hn,hp,E2⟩:=aA.openO (σ:=σ) (Z:=Z1) E1;cases e2;refine PX (uK ab s1 σ H1 _ us (λz H'=>∃l,z=.ref l/\H1 l=none/\H'=PD H1 l (.tup ws)) I1 r1 ⟨a,ws,rfl,.inl ⟨P0.of hD,λl hl=>⟨l,rfl,hl,rfl⟩⟩⟩) λw s2 ⟨z,H2,I2,rz,l,e3,hl3,e4⟩=>?_;subst e3 e4;exact⟨.ref l,_,.bx none ls,Z1,I2,rz,(E2.new hl3).closeT hwl (P1.of bG),q⟩
 |_=>exact q.elim
end
end L2
namespace L2
open PySem PySem.Spec PyProof.Rows PySem.W
theorem Un.one{P:Program}{w:World}{fs:List Addr}{H H':Hp}{h h':Heap}{c:Addr}{oc:Obj}(hc:H c=none)(gc:h.get? c=some oc)(cc:∀q,¬Ab oc q)(u:Un fs [] (PD H c (.frz oc (.own c))) H' h h')(ok:PF P w H' h') :
  Un fs [] H (Ro H' c) h h'/\PF P w (Ro H' c) h':=by
 have zc:H' c=some (.frz oc (.own c)):=u.frzs c oc _ bG;have gc':h'.get? c=some oc:=(ok c _ zc).1;have nz:∀b o,H' b=some o->o≠.frz oc (.own c)->b≠c:=λb o e n z=>by subst z;rw[zc]at e;cases e;exact n rfl
 refine⟨⟨λb o e n hb hx=>?_,λb o e n hb hx=>?_,λb o e n hx=>?_,λb o e hx=>u.there b o e hx,λb xs e=>?_,λb o v e=>?_,λb t e=>?_⟩,λb o e=>?_⟩
 .
  by_cases z:b=c
  . subst z;rw[gc]at e;cases e;exact gc'
  . exact u.keep b o e (by rw[aE z];exact n) hb hx
 .
  by_cases z:b=c
  . subst z;rw[gc]at e;cases e;exact⟨oc.slots,gc'⟩
  . exact u.slot b o e (by rw[aE z];exact n) hb hx
 .
  by_cases z:b=c
  . subst z;exact AC
  . rw[pj z];exact u.free b o e (by rw[aE z];exact n) hx
 . have z:=bK e hc;rw[pj z];exact u.tups b xs (by rw[aE z];exact e)
 . have z:=bK e hc;rw[pj z];exact u.frzs b o v (by rw[aE z];exact e)
 . have z:=bK e hc;rw[pj z];exact u.tbls b t (by rw[aE z];exact e)
 .
  have hb:b≠c:=λz=>by subst z;rw[AC]at e;cases e
  rw[pj hb]at e;refine(ok b o e).stay (λ_ _ _ z=>z) (λd z=>?_) (λd xs z=>?_) λd od q co z=>?_
  . rw[pj (nz d _ z λy=>nomatch y)];exact z
  . rw[pj (nz d _ z λy=>nomatch y)];exact z
  . rw[pj (nz d _ z λy=>by cases y;exact cc q co)];exact z
end L2
namespace L2
open PySem PySem.W
end L2
namespace L2
open PySem PySem.Spec PyProof.Rows PySem.SeqAt
structure OB (d:D):Prop where
 ok:Rr d=true
 sh:iU d=true
 dp:(QR d).depth<=40
 sg:Fb d<=16777216
theorem OB.len{d:D}(h:OB d):(QR d).shown.length<=sizeLine:=by
 have e:sizeLine=16777216:=by decide
 rw[e];exact Ur (Df d (rf d h.ok h.sh)) h.sg
end L2
namespace L2
open PySem PySem.Spec PyProof.Rows
def Rt(o q:Option L)(i j:Nat)(t:W L)(Z:Ev)(kz:L->Ev->Prop):Prop:=match o,q with
 |some (.own _ xs),some (.own b _)=>i≠j/\dh i Z=true/\t (Z.set i (.d (.lst xs))) λr Z'=>ku r=true/\∃zs,gH zs=true/\Z'=(Z.set i (.d (.lst xs))).set j (.own b zs)/\kz r (Z.set j (.own b zs))
 |_,_=>False
theorem JA(a b:Addr)(xs ys:List D)(i j:Nat)(t:W L)(Z:Ev)(kz:L->Ev->Prop):Rt (some (.own a xs)) (some (.own b ys)) i j t Z kz=(i≠j/\dh i Z=true/\t (Z.set i (.d (.lst xs))) λr Z'=>ku r=true/\∃zs,gH zs=true/\Z'=(Z.set i (.d (.lst xs))).set j (.own b zs)/\kz r (Z.set j (.own b zs))):=(rfl)
def Pd(o:Option L)(Z:Ev)(kz:Bool->Ev->Prop):Prop:=match o with
 |some (.d (.lst xs))=>kz (!xs.isEmpty) Z
 |_=>False
theorem Gf(xs:List D)(Z:Ev)(kz:Bool->Ev->Prop):Pd (some (.d (.lst xs))) Z kz=kz (!xs.isEmpty) Z:=(rfl)
end L2
namespace HT
open PySem PySem.Spec PyProof.Rows
end HT
namespace L2
open PySem PySem.Spec PyProof.Rows
end L2
namespace L2
open PySem PySem.Spec PyProof.Rows PySem.W
end L2
namespace L2
open PySem PySem.Spec PyProof.Rows PySem.SeqAt
end L2
namespace PySem
open PySem.Spec
namespace F
end F
end PySem
namespace L2
open PySem PySem.Spec PyProof.Rows PySem.W
section
variable{key:Nat->Int}{n:Nat}{I:Shared->Prop}{cmp:Nat->Nat->(Bool->Shared->Prop)->Shared->Prop}
def Gg(I:Shared->Prop)(cmp:Nat->Nat->(Bool->Shared->Prop)->Shared->Prop){α:Type}(t:KasT α)(P:α->Prop):Prop:=∀(Q:α->Shared->Prop)(s:Shared),I s->(∀a s',I s'->P a->Q a s')->t.kasWp cmp Q s
def OC(key:Nat->Int)(n:Nat)(I:Shared->Prop)(cmp:Nat->Nat->(Bool->Shared->Prop)->Shared->Prop):Prop:=∀(i j:Nat)(C:Bool->Shared->Prop)(s:Shared),i<n->j<n->i≠j->I s->(∀s',I s'->C (decide (key i<key j)) s')->cmp i j C s
noncomputable def kk(key:Nat->Int)(p:Array Nat)(i:Nat):Int:=key (p.getD i 0)
structure Dj (n:Nat) (p:Array Nat):Prop where
 sz:p.size=n
 pm:p.toList.Perm (List.range n)
theorem Dj.lt{p:Array Nat}(g:Dj n p){i:Nat}(h:i<n):p.getD i 0<n:=by
 have hs:i<p.size:=by rw[g.sz];exact h
 have e:p.getD i 0=p[i]:=by simp[Array.getD,hs]
 rw[e];exact List.mem_range.mp (g.pm.mem_iff.mp (by rw[<- Array.getElem_toList];exact List.getElem_mem _))
theorem Dj.ne{p:Array Nat}(g:Dj n p){i j:Nat}(hi:i<n)(hj:j<n)(h:i≠j):p.getD i 0≠p.getD j 0:=by
 have hs:i<p.size:=by rw[g.sz];exact hi
 have ht:j<p.size:=by rw[g.sz];exact hj
 have nd:p.toList.Nodup:=g.pm.nodup_iff.mpr List.nodup_range;have e1:p.getD i 0=p.toList[i]'(by simpa using hs):=by simp[Array.getD,hs]
 have e2:p.getD j 0=p.toList[j]'(by simpa using ht):=by simp[Array.getD,ht]
 rw[e1,e2];intro z;exact h ((List.getElem_inj nd).mp z)
theorem Gg.ask{α:Type}{i j:Nat}{k:Bool->KasT α}{P:α->Prop}(hc:OC key n I cmp)(hi:i<n)(hj:j<n)(hn:i≠j)(h1:key i<key j->Gg I cmp (k true) P)(h2:¬key i<key j->Gg I cmp (k false) P):Gg I cmp (.ask i j k) P:=λQ s hI hq=>by
 refine hc i j _ s hi hj hn hI λs' hI'=>?_;by_cases c:key i<key j
 . rw[decide_eq_true c];exact h1 c Q s' hI' hq
 . rw[decide_eq_false c];exact h2 c Q s' hI' hq
theorem Gg.at{α:Type}{p:Array Nat}{i j:Nat}{k:Bool->KasT α}{P:α->Prop}(hc:OC key n I cmp)(hq:∀a b,a<n->b<n->key a=key b->a=b)(g:Dj n p)(hi:i<n)(hj:j<n)(hn:i≠j)(h1:kk key p i<kk key p j->Gg I cmp (k true) P)(h2:kk key p j<kk key p i->Gg I cmp (k false) P):Gg I cmp (.ask (p.getD i 0) (p.getD j 0) k) P:=by refine Gg.ask hc (g.lt hi) (g.lt hj) (g.ne hi hj hn) h1 λc=>h2 ?_;have:kk key p i≠kk key p j:=λz=>g.ne hi hj hn (hq _ _ (g.lt hi) (g.lt hj) z);unfold kk at this ⊢;omega
end
theorem bL.at{K:Frag}{H:Hp}{vs:List V}{ds:List D}(r:bL K H vs ds){i:Nat}(h1:i<vs.length)(h2:i<ds.length):QC K H vs[i] ds[i]:=by obtain⟨v,e1,e2⟩:=r.get (gV h2);rw[gV h1]at e1;cases e1;exact e2
end L2
namespace L2
open PySem
theorem mI{g:Tg}{b:W Fl}{kz:Fl->Ev->Prop}:∀(xs:List D)(I:Nat->Ev->Prop)(Z:Ev),I 0 Z ->
  (∀j x Z,xs[j]?=some x->I j Z->∀Q:Fl->Ev->Prop,(∀Z',I (j+1) Z'->Q .nx Z')->(∀Z',I (j+1) Z'->Q .ct Z')->(∀Z',kz .nx Z'->Q .bk Z')->(∀r Z',kz (.rt r) Z'->Q (.rt r) Z')->g x Z λZ1=>b Z1 Q) ->
  (∀Z,I xs.length Z->kz .nx Z)->eZ g b xs Z kz
 |[],I,Z,h0,_,PZ=>PZ Z h0
 | x::xs,I,Z,h0,step,PZ=>by
  unfold eZ;refine step 0 x Z rfl h0 _ (λZ' h=>?_) (λZ' h=>?_) (λZ' h=>h) (λr Z' h=>h)
  . exact mI xs (λj=>I (j+1)) Z' h (λj y Z e hi=>step (j+1) y Z e hi) PZ
  . exact mI xs (λj=>I (j+1)) Z' h (λj y Z e hi=>step (j+1) y Z e hi) PZ
theorem fT{α:Type}{enc:α->D}{g:Tg}{b:W Fl}{kz:Fl->Ev->Prop}(as:List α)(I:List α->Ev->Prop)(Z:Ev)(h0:I [] Z)
  (step:∀pre a suf Z,as=pre++a::suf->I pre Z->∀Q:Fl->Ev->Prop,(∀Z',I (pre++[a]) Z'->Q .nx Z')->(∀Z',I (pre++[a]) Z'->Q .ct Z')->(∀Z',kz .nx Z'->Q .bk Z')->(∀r Z',kz (.rt r) Z'->Q (.rt r) Z')->g (enc a) Z λZ1=>b Z1 Q)
  (PZ:∀Z,I as Z->kz .nx Z):eZ g b (as.map enc) Z kz:=by
 refine mI _ (λj Z=>I (as.take j) Z) Z h0 (λj x Z e hi Q h1 h2 h3 h4=>?_) λZ h=>PZ Z (by simpa using h);rw[List.getElem?_map]at e
 cases ea:as[j]? with
 |none=>rw[ea]at e;cases e
 | some a =>
  rw[ea]at e;cases e;obtain⟨hj,ea'⟩:=k4.mp ea;have es:as.take (j+1)=as.take j++[a]:=by rw[List.take_succ,ea];rfl
  have ed:as=as.take j++a::as.drop (j+1):=by have:=(List.take_append_drop j as).symm;rw[List.drop_eq_getElem_cons hj,ea']at this;exact this
  rw[es]at h1 h2;exact step _ a _ Z ed hi Q h1 h2 h3 h4
theorem va{g:Tg}{ti:W Bool}{te:W L}{k:List D->Ev->Prop}:∀(xs:List D)(I:Nat->Ev->List D->Prop)(Z:Ev)(acc:List D),I 0 Z acc ->
  (∀j x Z acc,xs[j]?=some x->I j Z acc->∀Q:Ev->List D->Prop,(∀Z' acc',I (j+1) Z' acc'->Q Z' acc')->g x Z λZ1=>ti Z1 λb Z2=>if b=true then te Z2 λr Z3=>QF r λy=>Q Z3 (acc++[y])else Q Z2 acc) ->
  (∀Z acc,I xs.length Z acc->k acc Z)->eE g ti te xs Z acc k
 |[],I,Z,acc,h0,_,PZ=>PZ Z acc h0
 | x::xs,I,Z,acc,h0,step,PZ=>by unfold eE;exact step 0 x Z acc rfl h0 (λZ acc=>eE g ti te xs Z acc k) λZ' acc' h=>va xs (λj=>I (j+1)) Z' acc' h (λj y Z acc e hi=>step (j+1) y Z acc e hi) PZ
theorem jb{α:Type}{enc:α->D}{h:α->Option D}{caps:Ev}{ti:W Bool}{te:W L}{k:List D->Ev->Prop}:∀(as:List α)(acc:List D)(l:L),
  (∀a∈as,∀Q:Ev->Option D->Prop,Q (.d (enc a)::caps) (h a)->ti (.d (enc a)::caps) λb Z2=>if b=true then te Z2 λr Z3=>QF r λy=>Q Z3 (some y)else Q Z2 none) ->
  (∀l',k (acc++as.filterMap h) (l'::caps))->eE (aQ 0) ti te (as.map enc) (l::caps) acc k
 |[],acc,l,_,PZ=>by have:=PZ l;simpa[eE]using this
 | a::as,acc,l,step,PZ=>by
  show eE (aQ 0) ti te (enc a::as.map enc) (l::caps) acc k;unfold eE;show ti (.d (enc a)::caps) _
  refine step a tv (λZ o=>match o with|some y=>eE (aQ 0) ti te (as.map enc) Z (acc++[y]) k|none=>eE (aQ 0) ti te (as.map enc) Z acc k) ?_
  cases e:h a with
  |none=>exact jb as acc _ (λb hb=>step b (k5 _ hb)) (by simpa[List.filterMap_cons,e]using PZ)
  |some y=>exact jb as (acc++[y]) _ (λb hb=>step b (k5 _ hb)) (by simpa[List.filterMap_cons,e]using PZ)
theorem bt{α:Type}{enc:α->D}{h:α->D}{caps:Ev}{te:W L}{k:List D->Ev->Prop}(as:List α)(acc:List D)(l:L)
  (step:∀a∈as,∀Q:Ev->D->Prop,Q (.d (enc a)::caps) (h a)->te (.d (enc a)::caps) λr Z3=>QF r λy=>Q Z3 y)
  (PZ:∀l',k (acc++as.map h) (l'::caps)):eE (aQ 0) bZ te (as.map enc) (l::caps) acc k:=by
 refine jb (h:=λa=>some (h a)) as acc l (λa ha Q q=>?_) (by simpa using PZ);simp only[bZ,if_true];exact step a ha (λZ y=>Q Z (some y)) q
theorem jZ{α:Type}{e1 e2:α->D}{h:α->Option D}{caps:Ev}{ti:W Bool}{te:W L}{k:List D->Ev->Prop}:∀(as:List α)(acc:List D)(l m:L),
  (∀a∈as,∀Q:Ev->Option D->Prop,Q (.d (e1 a)::.d (e2 a)::caps) (h a)->ti (.d (e1 a)::.d (e2 a)::caps) λb Z2=>if b=true then te Z2 λr Z3=>QF r λy=>Q Z3 (some y)else Q Z2 none) ->
  (∀l' m',k (acc++as.filterMap h) (l'::m'::caps))->eE (eY [0,1]) ti te (as.map λa=>D.tup [e1 a,e2 a]) (l::m::caps) acc k
 |[],acc,l,m,_,PZ=>by have:=PZ l m;simpa[eE]using this
 | a::as,acc,l,m,step,PZ=>by
  show eE (eY [0,1]) ti te (D.tup [e1 a,e2 a]::as.map λa=>D.tup [e1 a,e2 a]) (l::m::caps) acc k;unfold eE;show ti (.d (e1 a)::.d (e2 a)::caps) _
  refine step a tv (λZ o=>match o with|some y=>eE (eY [0,1]) ti te (as.map λa=>D.tup [e1 a,e2 a]) Z (acc++[y]) k|none=>eE (eY [0,1]) ti te (as.map λa=>D.tup [e1 a,e2 a]) Z acc k) ?_
  cases e:h a with
  |none=>exact jZ as acc _ _ (λb hb=>step b (k5 _ hb)) (by simpa[List.filterMap_cons,e]using PZ)
  |some y=>exact jZ as (acc++[y]) _ _ (λb hb=>step b (k5 _ hb)) (by simpa[List.filterMap_cons,e]using PZ)
theorem jc{α:Type}{e1 e2:α->D}{h:α->D}{caps:Ev}{te:W L}{k:List D->Ev->Prop}(as:List α)(acc:List D)(l m:L)
  (step:∀a∈as,∀Q:Ev->D->Prop,Q (.d (e1 a)::.d (e2 a)::caps) (h a)->te (.d (e1 a)::.d (e2 a)::caps) λr Z3=>QF r λy=>Q Z3 y)
  (PZ:∀l' m',k (acc++as.map h) (l'::m'::caps)):eE (eY [0,1]) bZ te (as.map λa=>D.tup [e1 a,e2 a]) (l::m::caps) acc k:=by
 refine jZ (h:=λa=>some (h a)) as acc l m (λa ha Q q=>?_) (by simpa using PZ);simp only[bZ,if_true];exact step a ha (λZ y=>Q Z (some y)) q
theorem xh{α:Type}{x:α}{xs:List α}:Qp (x::xs) 0=some x:=eW (j:=0) rfl
theorem xi{α:Type}{x y:α}{xs:List α}:Qp (x::y::xs) 1=some y:=eW (j:=1) rfl
theorem JB{α:Type}{x y z:α}{xs:List α}:Qp (x::y::z::xs) 2=some z:=eW (j:=2) rfl
theorem Mg{α:Type}{x y z w:α}{xs:List α}:Qp (x::y::z::w::xs) 3=some w:=eW (j:=3) rfl
theorem NS{α:Type}{x y z w v:α}{xs:List α}:Qp (x::y::z::w::v::xs) 4=some v:=eW (j:=4) rfl
theorem HM{α:Type}{xs:List α}{i:Int}{x:α}(h0:0<=i)(h:xs[i.toNat]?=some x):Qp xs i=some x:=by have:=eW h;rwa [Int.toNat_of_nonneg h0]at this
theorem b7{α:Type}{f:α->D}{xs:List α}{k:Nat}(h:k<xs.length):Qp (xs.map f) (k:Int)=some (f xs[k]):=eW (by rw[List.getElem?_map,gV h];rfl)
theorem Pe:Qo 3 0=some 0:=by decide
theorem Pf:Qo 3 1=some 1:=by decide
theorem Pg:Qo 3 2=some 2:=by decide
theorem hX(n:Nat):wm 0 n=(List.range n).map λ(i:Nat)=>D.int (i:Int):=by unfold wm;simp
theorem AE{g:Tg}{b:W Fl}{kz:Fl->Ev->Prop}(lo:Int)(n:Nat)(I:Nat->Ev->Prop)(Z:Ev)(h0:I 0 Z)
  (step:∀j Z,j<n->I j Z->∀Q:Fl->Ev->Prop,(∀Z',I (j+1) Z'->Q .nx Z')->(∀Z',I (j+1) Z'->Q .ct Z')->(∀Z',kz .nx Z'->Q .bk Z')->(∀r Z',kz (.rt r) Z'->Q (.rt r) Z')->g (.int (lo+(j:Int))) Z λZ1=>b Z1 Q)
  (PZ:∀Z,I n Z->kz .nx Z):eZ g b (wm lo n) Z kz:=by
 have hl:(wm lo n).length=n:=by simp[wm]
 refine mI _ I Z h0 (λj x Z hj hi Q h1 h2 h3 h4=>?_) λZ h=>PZ Z (by rwa [hl]at h);have hj':j<n:=by rw[<- hl];exact(k4.mp hj).1
 have e:x=.int (lo+(j:Int)):=by unfold wm at hj;rw[List.getElem?_map,List.getElem?_range hj']at hj;exact(Option.some.inj hj).symm
 subst e;exact step j Z hj' hi Q h1 h2 h3 h4
theorem gM{g:Tg}{b:W Fl}{kz:Fl->Ev->Prop}(n:Nat)(I:Nat->Ev->Prop)(Z:Ev)(h0:I 0 Z)
  (step:∀j Z,j<n->I j Z->∀Q:Fl->Ev->Prop,(∀Z',I (j+1) Z'->Q .nx Z')->(∀Z',I (j+1) Z'->Q .ct Z')->(∀Z',kz .nx Z'->Q .bk Z')->(∀r Z',kz (.rt r) Z'->Q (.rt r) Z')->g (.int (j:Int)) Z λZ1=>b Z1 Q)
  (PZ:∀Z,I n Z->kz .nx Z):eZ g b (wm 0 n) Z kz :=
 AE 0 n I Z h0 (λj Z hj hi Q h1 h2 h3 h4=>by rw[Int.zero_add];exact step j Z hj hi Q h1 h2 h3 h4) PZ
theorem bz{i:Int}(h:i.natAbs<2^200):cP i:=so h (Us xp xp)
theorem aP{i:Int}{n:Nat}(h:i.natAbs<2^n)(hn:n<=1000000):cP i:=so h (Us xp hn)
theorem fU(x:Int){m:Int}(h:0<m):0<=x.fmod m/\x.fmod m<m:=by rw[Int.fmod_eq_emod_of_nonneg _ xL];exact⟨Int.emod_nonneg _ xL,Int.emod_lt_of_pos _ h⟩
theorem yW{i:Int}{n:Nat}(h0:0<=i)(h:i<2^n)(hn:n<=1000000):cP i:=by
 have:i.natAbs<2^n:=by
  have e:((2^n:Nat):Int)=(2:Int)^n:=by simp
  omega
 exact so this (Us xp hn)
theorem NT:(10:Int)^60<2^200:=by decide
theorem xj{i:Int}(h0:0<=i)(h:i<=10^60):i.natAbs<2^9000:=by
 have:i.natAbs<2^200:=by
  have:=NT;have e:((2^200:Nat):Int)=(2:Int)^200:=by decide
  omega
 exact so this (Us xp xp)
theorem HN(p q:Rat):Rat.divInt (p.num*q.num) ((p.den:Int)*(q.den:Int))=p*q:=by rw[<- Rat.divInt_mul_divInt,Rat.num_divInt_den,Rat.num_divInt_den]
theorem RB.of_divInt{t b:Int}{n:Nat}(h:b≠0)(ht:t.natAbs<2^n)(hb:b.natAbs<2^n):RB n (Rat.divInt t b):=⟨Uv (HJ h) ht,Uv (CL h) hb⟩
theorem vb(p q:Rat):((p.den:Int)*(q.den:Int))≠0:=by have dp:=den_pos p;have dq:=den_pos q;exact Int.mul_ne_zero xL xL
theorem qy(p q:Rat):((p.den:Int)*(q.den:Int)).natAbs=p.den*q.den:=by rw[Int.natAbs_mul,Int.natAbs_natCast,Int.natAbs_natCast]
theorem RB.mul{m n:Nat}{p q:Rat}(hp:RB m p)(hq:RB n q):RB (m+n) (p*q):=by rw[<- HN];exact RB.of_divInt (vb p q) (by rw[Int.natAbs_mul];exact ba hp.1 hq.1) (by rw[qy];exact ba hp.2 hq.2)
theorem xk{q:Rat}(h:q≠0):q.num≠0:=λz=>h (Rat.num_eq_zero.mp z)
theorem lh(q:Rat):(q.den:Int)≠0:=by have:=den_pos q;omega
theorem HP(p:Rat){q:Rat}(h:q≠0):Rat.divInt (p.num*(q.den:Int)) ((p.den:Int)*q.num)=p / q:=by
 rw[Rat.div_def,<- Rat.divInt_mul_divInt,Rat.num_divInt_den]
 congr 1
 conv=>rhs;rw[<- Rat.num_divInt_den q,Rat.inv_divInt]
theorem RB.div{m n:Nat}{p q:Rat}(hp:RB m p)(hq:RB n q)(h:q≠0):RB (m+n) (p / q):=by
 rw[<- HP p h];refine RB.of_divInt (Int.mul_ne_zero (lh p) (xk h)) ?_ ?_
 . rw[Int.natAbs_mul];exact ba hp.1 (by simpa using hq.2)
 . rw[Int.natAbs_mul];exact ba (by simpa using hp.2) hq.1
theorem RB.zero:RB 1 0:=⟨xp,xp⟩
theorem NU(p q:Rat):decide (p.num*(q.den:Int)<q.num*(p.den:Int))=decide (p<q):=by rw[decide_eq_decide,Rat.lt_iff]
structure Ru where
 nm:Str
 one:Nat
 other:Nat
 size:Rat
structure aS where
 rooms:List Rat
 asks:List Ru
noncomputable def aS.n(R:aS):Nat:=R.rooms.length
noncomputable def j2(a:Ru):D:=.tup [.str a.nm,.int a.one,.int a.other,Q2 a.size]
noncomputable def a5(R:aS):D:=.tup [.lst (R.rooms.map Q2),.lst (R.asks.map j2)]
theorem xl(q:Rat):(q.num:Rat)=q*(q.den:Rat):=by
 have h:=Rat.num_divInt_den q;have hd:(q.den:Rat)≠0:=λw=>by have:=Rat.natCast_pos.mpr q.den_pos;rw[w]at this;exact absurd this xp
 rw[Rat.divInt_eq_div]at h;have e:(((q.den:Nat):Int):Rat)=(q.den:Rat):=rfl;rw[e]at h;have e2:q*(q.den:Rat)=(q.num:Rat) / (q.den:Rat)*(q.den:Rat):=by rw[h]
 rw[e2,Rat.div_mul_cancel hd]
theorem xm{q:Rat}{V:Nat}(h0:0<=q)(hv:q<(V:Rat)):q.num.natAbs<V*q.den:=by
 have hd:(0:Rat)<(q.den:Rat):=Rat.natCast_pos.mpr q.den_pos;have h1:q*(q.den:Rat)<(V:Rat)*(q.den:Rat):=Rat.mul_lt_mul_of_pos_right hv hd;rw[<- xl]at h1
 have h2:((q.num:Int):Rat)<(((V*q.den:Nat):Int):Rat):=by
  have e:(((V*q.den:Nat):Int):Rat)=(V:Rat)*(q.den:Rat):=by push_cast;rfl
  rw[e];exact h1
 have h3:q.num<((V*q.den:Nat):Int):=Rat.intCast_lt_intCast.mp h2;have h4:0<=q.num:=Rat.num_nonneg.mpr h0;omega
theorem RB.of_val{q:Rat}{d v:Nat}(h0:0<=q)(hd:q.den<2^d)(hv:q<((2^v:Nat):Rat)):RB (v+d) q:=by refine⟨so (xm h0 hv) ?_,so hd (Us xp xL)⟩;rw[Nat.pow_add];exact Nat.mul_le_mul_left _ (Nat.le_of_lt hd)
structure rg (n:Nat) (a:Ru):Prop where
 one:a.one<n
 other:a.other<n
 ne:a.one≠a.other
 size:0<=a.size
 lt:a.size<((2^300:Nat):Rat)
 nm:PyData.strOk a.nm=true
structure aS.Ok (R:aS):Prop where
 lo:2<=R.n
 hi:R.n<=12
 few:R.asks.length<=20
 room:∀q∈R.rooms,0<q/\RB 60 q
 ask:∀a∈R.asks,rg R.n a
 cd:∃D:Nat,0<D/\D<2^1240/\∀a∈R.asks,a.size.den∣D
theorem aS.Ok.rb{R:aS}(h:R.Ok){a:Ru}(ha:a∈R.asks):RB 1540 a.size:=by obtain⟨D,d0,d1,hd⟩:=h.cd;exact RB.of_val (v:=300) (d:=1240) (h.ask a ha).size (Uv (Nat.le_of_dvd d0 (hd a ha)) d1) (h.ask a ha).lt
theorem mJ{α:Type}{n:Nat}{f:α->D}:∀xs:List α,(∀x∈xs,Q3 n (f x)=true)->qv n (xs.map f)=true
 |[],_=>rfl
 |x::xs,h=>by simp[qv,h x tv,mJ xs λy hy=>h y (k5 _ hy)]
theorem Dk(n:Nat)(q:Rat):Q3 (n+1) (Q2 q)=true:=by cases n<;>simp[Q2,Q3,qv]
theorem JC{n:Nat}{a:Ru}(h:rg n a):Q3 2 (j2 a)=true:=by simp[j2,Q3,qv,h.nm,Dk]
theorem Gh{R:aS}(h:R.Ok):Q3 4 (a5 R)=true:=by simp only[a5,Q3,qv,Bool.and_true,Bool.and_eq_true];exact⟨mJ _ λq _=>Dk 1 q,mJ _ λa ha=>JC (h.ask a ha)⟩
def p8(xs:List D):Prop:=∃(c sd:Int)(t:Bool),xs=[.int c,.int sd,.bl t]/\0<=sd/\sd<2147483647
theorem AF{t b g:Int}(h:b≠0)(e:g=cQ t b):D.tup [.int (t.fdiv g),.int (b.fdiv g)]=Q2 (Rat.divInt t b):=by subst e;rw[CK h,Jb h];rfl
noncomputable def wo(qs:List Rat):Nat:=(qs.map (·.den)).foldr (·*·) 1
theorem mK:∀qs:List Rat,0<wo qs
 |[]=>Nat.one_pos
 |a::t=>Nat.mul_pos (den_pos a) (mK t)
noncomputable def xn(qs:List Rat):Rat:=qs.foldl (·+·) 0
theorem Dl(qs:List Rat):∀acc:Rat,qs.foldl (·+·) acc=acc+xn qs:=by
 unfold xn
 induction qs with
 |nil=>intro acc;simp[Rat.add_zero]
 |cons q qs ih=>intro acc;rw[List.foldl_cons,List.foldl_cons,ih,ih (0+q),Rat.zero_add,Rat.add_assoc]
theorem jd(q:Rat)(qs:List Rat):xn (q::qs)=q+xn qs:=by show(q::qs).foldl (·+·) 0=_;rw[List.foldl_cons,Dl,Rat.zero_add]
theorem Gi(as bs:List Rat):xn (as++bs)=xn as+xn bs:=by
 induction as with
 |nil=>rw[List.nil_append];show _=(0:Rat)+_;rw[Rat.zero_add]
 |cons a as ih=>rw[List.cons_append,jd,jd,ih,Rat.add_assoc]
theorem Gj{xs:List D}{i:Int}{k:L->Prop}:aG (.lst xs) (.int i) k=∃v,Qp xs i=some v/\k (.d v):=rfl
theorem Gk{xs:List D}{i:Int}{k:L->Prop}:aG (.tup xs) (.int i) k=∃v,Qp xs i=some v/\k (.d v):=rfl
theorem Gm{z:Str}{i:Int}{k:L->Prop}:aG (.str z) (.int i) k=(z.length<=sizeLine/\∃c,Qp z.cps.toList i=some c/\k (.d (.str ⟨#[c]⟩))):=rfl
theorem Gn{R:aS}{k:L->Prop}:aG (a5 R) (.int 0) k=k (.d (.lst (R.rooms.map Q2))):=by show(∃v,Qp _ _=some v/\_)=_;simp only[xh,Option.some.injEq,exists_eq_left']
theorem Gp{R:aS}{k:L->Prop}:aG (a5 R) (.int 1) k=k (.d (.lst (R.asks.map j2))):=by show(∃v,Qp _ _=some v/\_)=_;simp only[xi,Option.some.injEq,exists_eq_left']
theorem JD{a:Ru}{k:L->Prop}:aG (j2 a) (.int 0) k=k (.d (.str a.nm)):=by show(∃v,Qp _ _=some v/\_)=_;simp only[xh,Option.some.injEq,exists_eq_left']
theorem JE{a:Ru}{k:L->Prop}:aG (j2 a) (.int 1) k=k (.d (.int a.one)):=by show(∃v,Qp _ _=some v/\_)=_;simp only[xi,Option.some.injEq,exists_eq_left']
theorem JF{a:Ru}{k:L->Prop}:aG (j2 a) (.int 2) k=k (.d (.int a.other)):=by show(∃v,Qp _ _=some v/\_)=_;simp only[JB,Option.some.injEq,exists_eq_left']
theorem JG{a:Ru}{k:L->Prop}:aG (j2 a) (.int 3) k=k (.d (Q2 a.size)):=by show(∃v,Qp _ _=some v/\_)=_;simp only[Mg,Option.some.injEq,exists_eq_left']
theorem Mh{q:Rat}{k:L->Prop}:aG (Q2 q) (.int 0) k=k (.d (.int q.num)):=by show(∃v,Qp _ _=some v/\_)=_;simp only[xh,Option.some.injEq,exists_eq_left']
theorem Mi{q:Rat}{k:L->Prop}:aG (Q2 q) (.int 1) k=k (.d (.int (q.den:Int))):=by show(∃v,Qp _ _=some v/\_)=_;simp only[xi,Option.some.injEq,exists_eq_left']
theorem Dm(q:Rat):noL (Q2 q)=true:=by simp[Q2,noL,gH]
theorem ia{α:Type}{f:α->D}:∀(xs:List α),(∀x∈xs,noL (f x)=true)->gH (xs.map f)=true
 |[],_=>rfl
 |x::xs,h=>by simp[gH,h x tv,ia xs λy hy=>h y (k5 _ hy)]
theorem vc(qs:List Rat):gH (qs.map Q2)=true:=ia _ λq _=>Dm q
theorem Dn{α:Type}(f:α->Int)(xs:List α):gH (xs.map λx=>D.int (f x))=true:=ia _ λ_ _=>rfl
theorem Do(R:aS):R.rooms.length=R.n:=rfl
noncomputable def fP(w:Bool):Str:=if w then "on" else "back"
theorem AG:df (.str "on"):=bR (n:=0) y_ xp
theorem ui:df (.str "back"):=bR (n:=0) y_ xp
theorem rh(w:Bool):df (.str (fP w)):=by
 cases w
 . exact ui
 . exact AG
theorem Mj(w:Bool):(fP w="on")=(w=true):=by cases w <;> simp[fP] <;> decide
theorem Gq(w:Bool):(fP w="back")=(w=false):=by cases w <;> simp[fP] <;> decide
theorem Dp{is:List Nat}{xs:List D}{Z:Ev}{k:Ev->Prop}:eY is (.tup xs) Z k=hU is xs Z k:=rfl
theorem Dq{is:List Nat}{a:Ru}{Z:Ev}{k:Ev->Prop}:eY is (j2 a) Z k=hU is [.str a.nm,.int a.one,.int a.other,Q2 a.size] Z k:=rfl
theorem Gr{is:List Nat}{q:Rat}{Z:Ev}{k:Ev->Prop}:eY is (Q2 q) Z k=hU is [.int q.num,.int (q.den:Int)] Z k:=rfl
theorem yX{xs:List D}{k:List D->Prop}:i6 (.lst xs) k=k xs:=rfl
theorem yY{xs:List D}{k:List D->Prop}:i6 (.tup xs) k=k xs:=rfl
theorem Bw{q:Rat}{k:List D->Prop}:i6 (Q2 q) k=k [.int q.num,.int (q.den:Int)]:=rfl
theorem Dr{xs:List D}{k:L->Prop}:bN [.lst xs] k=k (.d (.int xs.length)):=rfl
theorem Ds{xs:List D}{k:L->Prop}:bN [.tup xs] k=k (.d (.int xs.length)):=rfl
theorem Dt{x:Str}{k:L->Prop}:bN [.str x] k=(x.length<=sizeLine/\k (.d (.int x.length))):=rfl
theorem Gs{q:Rat}{k:L->Prop}:bN [Q2 q] k=k (.d (.int 2)):=rfl
theorem Bx{R:aS}{k:L->Prop}:bN [a5 R] k=k (.d (.int 2)):=rfl
theorem Du{a:Ru}{k:L->Prop}:bN [j2 a] k=k (.d (.int 4)):=rfl
theorem yZ(q:Rat):nZ "tuple" (Q2 q)=true:=rfl
theorem y6(q:Rat):nZ "list" (Q2 q)=false:=rfl
theorem y7(q:Rat):nZ "int" (Q2 q)=false:=rfl
theorem xq(q:Rat):nZ "bool" (Q2 q)=false:=rfl
theorem y9(q:Rat):nZ "str" (Q2 q)=false:=rfl
theorem vd(R:aS):nZ "tuple" (a5 R)=true:=rfl
noncomputable def Rv(n:Nat)(f:Nat->Rat):List D:=(List.range n).map λ(t:Nat)=>Q2 (f t)
theorem JH(n:Nat)(f:Nat->Rat):(Rv n f).length=n:=by simp[Rv]
theorem HQ{n:Nat}{f:Nat->Rat}{t:Nat}(h:t<n):Qp (Rv n f) (t:Int)=some (Q2 (f t)):=by refine eW ?_;unfold Rv;rw[List.getElem?_map,List.getElem?_range h];rfl
theorem Dv(n:Nat)(f:Nat->Rat):Rv n f=((List.range n).map f).map Q2:=by unfold Rv;rw[List.map_map];rfl
theorem Gu(n:Nat)(f:Nat->Rat):gH (Rv n f)=true:=by rw[Dv];exact vc _
noncomputable def je(c:Nat×Nat):D:=.tup [.int (c.1:Int),.int (c.2:Int)]
theorem JI{c:Nat×Nat}{k:L->Prop}:aG (je c) (.int 0) k=k (.d (.int c.1)):=by show(∃v,Qp _ _=some v/\_)=_;simp only[xh,Option.some.injEq,exists_eq_left']
theorem JJ{c:Nat×Nat}{k:L->Prop}:aG (je c) (.int 1) k=k (.d (.int c.2)):=by show(∃v,Qp _ _=some v/\_)=_;simp only[xi,Option.some.injEq,exists_eq_left']
theorem JK(n:Nat)(c:Nat×Nat):Q3 (n+1) (je c)=true:=by cases n<;>simp[je,Q3,qv]
theorem Dw(c:Nat×Nat):noL (je c)=true:=by simp[je,noL,gH]
theorem Dx(c:Nat×Nat):df (je c):=bR (JK 0 c) xp
theorem JL(c d:Nat×Nat):QS (je c) (je d)=decide (c=d):=by
 unfold je;rw[CO,mF,mF,Av,qU,qU,Bool.and_true,<- Bool.decide_and,decide_eq_decide];constructor
 . rintro⟨h1,h2⟩;exact Prod.ext xL xL
 . rintro rfl;exact⟨rfl,rfl⟩
noncomputable def gP(g:Rat×(Nat×Nat)):D:=.tup [Q2 g.1,je g.2]
theorem NV{g:Rat×(Nat×Nat)}{k:L->Prop}:aG (gP g) (.int 0) k=k (.d (Q2 g.1)):=by show(∃v,Qp _ _=some v/\_)=_;simp only[xh,Option.some.injEq,exists_eq_left']
theorem NW{g:Rat×(Nat×Nat)}{k:L->Prop}:aG (gP g) (.int 1) k=k (.d (je g.2)):=by show(∃v,Qp _ _=some v/\_)=_;simp only[xi,Option.some.injEq,exists_eq_left']
theorem Gv(T:String):nZ T .non=(T == "NoneType"):=rfl
theorem JM(T:String)(b:Bool):nZ T (.bl b)=(T == "bool" ||T == "int"):=rfl
theorem Gw(T:String)(i:Int):nZ T (.int i)=(T == "int"):=rfl
theorem Gx(T:String)(x:Str):nZ T (.str x)=(T == "str"):=rfl
theorem Gy(T:String)(xs:List D):nZ T (.tup xs)=(T == "tuple"):=rfl
theorem Gz(T:String)(xs:List D):nZ T (.lst xs)=(T == "list"):=rfl
theorem By(g:Rat×(Nat×Nat)):nZ "tuple" (gP g)=true:=rfl
theorem xr(c:Nat×Nat):nZ "tuple" (je c)=true:=rfl
theorem xt(a:Ru):nZ "tuple" (j2 a)=true:=rfl
theorem Dy{c:Nat×Nat}{k:L->Prop}:bN [je c] k=k (.d (.int 2)):=rfl
theorem JN{c:Rat×(Nat×Nat)}{k:L->Prop}:bN [gP c] k=k (.d (.int 2)):=rfl
theorem Dz(cs:List (Nat×Nat)):gH (cs.map je)=true:=ia _ λc _=>Dw c
theorem p8.noL{xs:List D}(h:p8 xs):gH xs=true:=by obtain⟨c,sd,t,rfl,_,_⟩:=h;rfl
end L2
namespace L2
open PySem PySem.Builtin.Str
theorem JO{x y:Str}(h:x.cps.toList=y.cps.toList):x=y:=by cases x;cases y;exact congrArg Str.mk (Array.toList_inj.mp h)
theorem GA{x:Str}{j:Int}(h0:0<=j)(h2:j<=x.length):(Txt.slice x none (some j)).cps.toList=x.cps.toList.take j.toNat:=by have:=eq_of_beq (PyProof.Rows.slice_closes_toL h0 h2);rw[this];simp
theorem Bz{x:Str}{i:Int}(h0:0<=i)(h2:i<=x.length):(Txt.slice x (some i) none).cps.toList=x.cps.toList.drop i.toNat:=by
 rw[PyProof.Rows.slice_from_eq h0 h2 rfl];have e:x.cps.toList.length=x.length:=by simp[Str.length]
 rw[List.take_of_length_le];rw[List.length_drop,e];omega
theorem mL(x y:Str):(x++y).cps.toList=x.cps.toList++y.cps.toList:=by show(x.cps++y.cps).toList=_;simp
theorem j3(x:Str):x.length=x.cps.toList.length:=by simp[Str.length]
def rj(c:Nat):Prop:=97<=c/\c<=122
structure Fc (z:Str):Prop where
 lo:1<=z.cps.toList.length
 hi:z.cps.toList.length<=8
 let_:∀c∈z.cps.toList,rj c
theorem Fc.ok{z:Str}(h:Fc z):PyData.strOk z=true:=by unfold PyData.strOk;rw[<- Array.all_toList,List.all_eq_true];intro c hc;have:=h.let_ c hc;unfold rj at this;simp;omega
noncomputable def ve:Str:="abcdefghijklmnopqrstuvwxyz"
theorem xu:ve.cps.toList=(List.range 26).map (·+97):=by decide
theorem uj{i:Int}(h0:0<=i)(h1:i<26):Qp ve.cps.toList i=some (i.toNat+97):=by refine HM h0 ?_;rw[xu,List.getElem?_map,List.getElem?_range xL];rfl
theorem uk:∀(zs:List Str),(Str.join "" zs).cps.toList=(zs.map λz=>z.cps.toList).flatten
 |[]=>rfl
 |[x]=>by simp[Str.join]
 | x::y::r=>by have ih:=uk (y::r);show(x++("" : Str)++Str.join "" (y::r)).cps.toList=_;rw[mL,mL,ih];show x.cps.toList++[]++_=_;simp
theorem GB(zs:List Str):(Txt.join "" zs).cps.toList=(zs.map λz=>z.cps.toList).flatten:=by rw[eq_of_beq (PyProof.Rows.join_closes (sep:="") (sep':="") (ys:=zs) rfl),uk]
theorem xv:∀cs:List Nat,(cs.map λc=>[c]).flatten=cs
 |[]=>rfl
 |c::cs=>by rw[List.map_cons,List.flatten_cons,xv cs];rfl
theorem oo(cs:List Nat):(Txt.join "" (cs.map λc=>(⟨#[c]⟩:Str))).cps.toList=cs:=by rw[GB,List.map_map];exact xv cs
theorem AH:∀cs:List Nat,((cs.map λc=>(⟨#[c]⟩:Str)).map (·.length)).sum=cs.length
 |[]=>rfl
 | c::cs=>by rw[List.map_cons,List.map_cons,List.sum_cons,AH cs,List.length_cons];show 1+_=_;omega
noncomputable def nameAt(b:Str)(p t k:Nat):Str:=⟨(b.cps.toList.take p++[(t+k) % 26+97]++b.cps.toList.drop (p+1)).toArray⟩
theorem DA{b:Str}{p t k:Nat}(h:Fc b)(hp:p<b.cps.toList.length):Fc (nameAt b p t k):=by
 have e:(nameAt b p t k).cps.toList=b.cps.toList.take p++[(t+k) % 26+97]++b.cps.toList.drop (p+1):=by simp[nameAt]
 have l:(b.cps.toList.take p++[(t+k) % 26+97]++b.cps.toList.drop (p+1)).length=b.cps.toList.length:=by rw[List.length_append,List.length_append,List.length_take,List.length_drop,List.length_singleton];omega
 refine⟨by rw[e,l];exact h.lo,by rw[e,l];exact h.hi,λc hc=>?_⟩;rw[e]at hc;rcases List.mem_append.mp hc with hc|hc
 .
  rcases List.mem_append.mp hc with hc|hc
  . exact h.let_ c (List.mem_of_mem_take hc)
  . rw[List.mem_singleton.mp hc];unfold rj;have:=Nat.mod_lt (t+k) (y:=26) xp;omega
 . exact h.let_ c (List.mem_of_mem_drop hc)
theorem BA{b:Str}{p t j k:Nat}(hp:p<b.cps.toList.length)(hj:j<26)(hk:k<26)(h:nameAt b p t j=nameAt b p t k):j=k:=by
 have e:b.cps.toList.take p++[(t+j) % 26+97]++b.cps.toList.drop (p+1)=b.cps.toList.take p++[(t+k) % 26+97]++b.cps.toList.drop (p+1):=by have:=congrArg (λz:Str=>z.cps.toList) h;simpa[nameAt]using this
 rw[List.append_assoc,List.append_assoc]at e;have e2:=List.append_cancel_left e;have e3:=(List.cons.inj e2).1;omega
theorem xx{α β:Type}{f:α->β}:∀{xs:List α},xs.Nodup->(∀x∈xs,∀y∈xs,f x=f y->x=y)->(xs.map f).Nodup
 |[],_,_=>List.nodup_nil
 | x::xs,hn,h=>by rw[List.map_cons,List.nodup_cons];obtain⟨h1,h2⟩:=List.nodup_cons.mp hn;refine⟨λhm=>?_,xx h2 λa ha b hb=>h a (k5 _ ha) b (k5 _ hb)⟩;obtain⟨y,hy,e⟩:=List.mem_map.mp hm;have:=h y (k5 _ hy) x tv e;rw[this]at hy;exact h1 hy
theorem GC{q:Rat}(h:RB 60 q):q<((2^300:Nat):Rat):=by
 have h1:=xl q;have hd:(1:Rat)<=(q.den:Rat):=by have:=q.den_pos;exact_mod_cast this
 have h2:(q.num:Rat)<((2^300:Nat):Rat):=by
  have h3:q.num<((2^300:Nat):Int):=by have:=so h.1 (Us (show 0<2 by decide) (show 60<=300 by decide));omega
  exact Rat.intCast_lt_intCast.mpr h3
 have hV:(0:Rat)<((2^300:Nat):Rat):=Rat.natCast_pos.mpr (Nat.pow_pos xp);generalize ((2^300:Nat):Rat)=V at *;refine Rat.not_le.mp λhq=>?_;have h4:V*1<=q*(q.den:Rat):=Rat.le_trans (Rat.mul_le_mul_of_nonneg_left hd (Rat.le_of_lt hV)) (Rat.mul_le_mul_of_nonneg_right hq (by grind));rw[<- h1]at h4;grind
noncomputable def KH:List Ru->Nat
 |[]=>1
 |a::as=>a.size.den*KH as
theorem AI:∀as,0<KH as
 |[]=>Nat.one_pos
 |a::as=>Nat.mul_pos a.size.den_pos (AI as)
theorem DB:∀{as:List Ru},(∀a∈as,RB 60 a.size)->KH as<=2^(60*as.length)
 |[],_=>Uu 1
 | a::as,h=>by have h1:=(h a tv).2;have h2:=DB (as:=as) λp hp=>h p (k5 _ hp);show a.size.den*KH as<=2^(60*(as.length+1));rw[Nat.mul_add,Nat.mul_one,Nat.pow_add,Nat.mul_comm (2^_)];exact Nat.mul_le_mul (Nat.le_of_lt h1) h2
theorem AJ:∀{as:List Ru}{a:Ru},a∈as->a.size.den∣KH as
 | b::as,a,h=>by
  rcases Uq.mp h with rfl|h
  . exact Nat.dvd_mul_right _ _
  . exact Nat.dvd_trans (AJ h) (Nat.dvd_mul_left _ _)
theorem NX{as:List Ru}(h:∀a∈as,RB 60 a.size)(hl:as.length<=20):∃D:Nat,0<D/\D<2^1240/\∀a∈as,a.size.den∣D:=by refine⟨KH as,AI as,Uv (DB h) (Nat.pow_lt_pow_right xp xL),λa ha=>AJ ha⟩
end L2
namespace L2
open PySem
noncomputable def Rw(n i j:Nat):List Nat:=(List.range ((j+n-i) % n)).map λs=>(i+s) % n
noncomputable def JP(n i j:Nat):List Nat:=(List.range ((i+n-j) % n)).map λs=>(i+n-1-s) % n
noncomputable def Ni(n:Nat)(a:Ru)(w:Bool):List Nat:=if w then Rw n a.one a.other else JP n a.one a.other
theorem DC{n i j:Nat}(hi:i<n)(hj:j<n):(((j:Int)-i).fmod n)=(((j+n-i) % n:Nat):Int):=by
 rw[Int.fmod_eq_emod_of_nonneg _ xL];have e:((j:Int)-i) % n=((j:Int)-i+n) % n:=(Int.add_emod_right _ _).symm;rw[e];have:(j:Int)-i+n=((j+n-i:Nat):Int):=by omega
 rw[this];exact(Int.natCast_emod _ _).symm
theorem GD{n i s:Nat}:(((i:Int)+s).fmod n)=(((i+s) % n:Nat):Int):=by rw[Int.fmod_eq_emod_of_nonneg _ xL,Int.natCast_emod,Int.natCast_add]
noncomputable def Rx(n i j:Nat):Nat:=(j+n-i) % n
theorem mM{x n:Nat}(h:x<2*n):x % n=if x<n then x else x-n:=by
 by_cases hx:x<n
 . rw[if_pos hx,Nat.mod_eq_of_lt hx]
 . rw[if_neg hx,Nat.mod_eq_sub_mod xL,Nat.mod_eq_of_lt xL]
theorem rk{n i j:Nat}(hi:i<n)(hj:j<n):Rx n i j=if i<=j then j-i else j+n-i:=by unfold Rx;rw[mM xL];split<;>split<;>omega
theorem Ml(n i j:Nat):(Rw n i j).length=Rx n i j:=by simp[Rw,Rx]
theorem DD{n i j:Nat}(hn:0<n):Rx n i j<n:=Nat.mod_lt _ hn
theorem AK{n i s:Nat}(hi:i<n)(hs:s<n):Rx n i ((i+s) % n)=s:=by have h1:=Nat.mod_lt (i+s) (y:=n) xL;rw[rk hi h1,mM xL];split<;>split<;>omega
theorem AL{n i t:Nat}(hi:i<n)(ht:t<n):(i+Rx n i t) % n=t:=by have h1:=DD (n:=n) (i:=i) (j:=t) xL;rw[mM xL,rk hi ht];split<;>split<;>omega
theorem JQ{n i j:Nat}(hi:i<n)(hj:j<n)(h:i≠j):Rx n i j+Rx n j i=n:=by rw[rk hi hj,rk hj hi];split<;>split<;>omega
theorem Mm{n i j t:Nat}(hi:i<n):t∈Rw n i j↔t<n/\Rx n i t<Rx n i j:=by
 constructor
 . intro h;obtain⟨s,hs,rfl⟩:=List.mem_map.mp h;have hs:s<Rx n i j:=List.mem_range.mp hs;have:=DD (n:=n) (i:=i) (j:=j) xL;exact⟨Nat.mod_lt _ xL,by rw[AK hi xL];exact hs⟩
 . rintro⟨ht,h⟩;exact List.mem_map.mpr ⟨Rx n i t,List.mem_range.mpr h,AL hi ht⟩
theorem DE{n i s:Nat}(hi:i<n)(hs:s<n):(i+n-1-s) % n=(i+(n-1-s)) % n:=by
 congr 1
 omega
theorem GE{n i j t:Nat}(hi:i<n)(hj:j<n)(hij:i≠j):t∈JP n i j↔t<n/\¬Rx n i t<Rx n i j:=by
 have hsum:=JQ hi hj hij;constructor
 . intro h;obtain⟨s,hs,rfl⟩:=List.mem_map.mp h;have hs:s<Rx n j i:=List.mem_range.mp hs;refine⟨Nat.mod_lt _ xL,?_⟩;rw[DE hi xL,AK hi xL];omega
 .
  rintro⟨ht,h⟩;have:=DD (n:=n) (i:=i) (j:=t) xL;refine List.mem_map.mpr ⟨n-1-Rx n i t,List.mem_range.mpr (show _<Rx n j i by omega),?_⟩;rw[DE hi xL];have e:n-1-(n-1-Rx n i t)=Rx n i t:=by omega
  rw[e,AL hi ht]
noncomputable def kx(n:Nat)(a:Ru)(t:Nat):Bool:=decide (Rx n a.one t<Rx n a.one a.other)
theorem JR{n:Nat}{a:Ru}(h:rg n a)(w:Bool){t:Nat}(ht:t<n):t∈Ni n a w↔(kx n a t == w)=true:=by
 have h1:=h.one;have h2:=h.other;cases w
 . show t∈JP n a.one a.other↔_;rw[GE h1 h2 h.ne];simp[kx,ht]
 . show t∈Rw n a.one a.other↔_;rw[Mm h1];simp[kx,ht]
theorem AM(t:Nat):∀(T:List Nat),Qz (.int (t:Int)) (T.map λ(s:Nat)=>D.int (s:Int))=decide (t∈T)
 |[]=>rfl
 | s::T=>by
  have ih:=AM t T;unfold Qz at ih ⊢;rw[List.map_cons,List.any_cons,ih];show(QZ (.int (s:Int)) (.int (t:Int)) ||_)=_;have e:QZ (.int (s:Int)) (.int (t:Int))=decide (t=s):=by show decide ((s:Int)=(t:Int))=_;rw[decide_eq_decide];omega
  rw[e];simp[Bool.decide_or]
theorem DF(T:List Nat):(T.map λ(s:Nat)=>D.int (s:Int)).all qS=true:=by rw[List.all_eq_true];intro x hx;obtain⟨s,_,rfl⟩:=List.mem_map.mp hx;rfl
theorem RB.sum{b:Nat}:∀(qs:List Rat),(∀q∈qs,RB b q)->RB (1+(b+1)*qs.length) (xn qs)
 |[],_=>RB.mono (m:=1) ⟨xp,xp⟩ xL
 | q::qs,h=>by have ih:=RB.sum qs λz hz=>h z (k5 _ hz);rw[jd];refine((h q tv).add ih).mono ?_;rw[List.length_cons,Nat.mul_succ];omega
theorem za{b:Nat}:∀(qs:List Rat),(∀q∈qs,RB b q)->wo qs<=2^(b*qs.length)
 |[],_=>Uu 1
 | q::qs,h=>by have ih:=za qs λz hz=>h z (k5 _ hz);show q.den*wo qs<=_;refine Ur (Nat.mul_le_mul (Nat.le_of_lt (h q tv).2) ih) ?_;rw[<- Nat.pow_add,List.length_cons,Nat.mul_succ];exact Us xp xL
theorem vf:xn []=0:=rfl
theorem xy(qs:List Rat)(q:Rat):xn (qs++[q])=xn qs+q:=by rw[Gi,jd,vf,Rat.add_zero]
noncomputable def yv(n:Nat)(a:Ru)(p:Rat)(t:Nat):Rat:=if kx n a t then p else a.size-p
noncomputable def fQ(n:Nat)(as:List Ru)(ps:List Rat)(t:Nat):Rat:=xn ((as.zip ps).map λx=>yv n x.1 x.2 t)
structure NY (R:aS) (ps:List Rat) (c:Nat):Prop where
 len:ps.length=R.asks.length
 lo:∀x∈R.asks.zip ps,0<=x.2/\x.2<=x.1.size
 rb:∀p∈ps,RB c p
theorem j4{α β:Type}(as:List α)(bs:List β)(k:Nat):(as.zip bs).take k=(as.take k).zip (bs.take k):=by unfold List.zip;exact List.take_zipWith
theorem GF{α β:Type}{as:List α}{bs:List β}{k:Nat}(h1:k<as.length)(h2:k<bs.length):(as.take (k+1)).zip (bs.take (k+1))=(as.take k).zip (bs.take k)++[(as[k],bs[k])]:=by rw[<- j4,<- j4,List.take_succ,gV (by rw[List.length_zip];omega),List.getElem_zip];rfl
theorem BB{n:Nat}{as:List Ru}{ps:List Rat}{k:Nat}(h1:k<as.length)(h2:k<ps.length)(t:Nat):fQ n (as.take (k+1)) (ps.take (k+1)) t=fQ n (as.take k) (ps.take k) t+yv n as[k] ps[k] t:=by unfold fQ;rw[GF h1 h2,List.map_append];exact xy _ _
theorem DG{α β:Type}{xs:List α}{f:α->β}(n:Nat)(h:xs.length=n)(g:Nat->β)(hg:∀k (hk:k<xs.length),g k=f xs[k]):(List.range n).map g=xs.map f:=by subst h;refine List.ext_getElem x_ λj h1 h2=>?_;simp only[List.getElem_map,List.getElem_range];exact hg j (by simpa using h2)
noncomputable def kj(c:Nat×Nat)(p:Nat):Bool:=decide (c.1<p/\p<=c.2)
noncomputable def apart(c:Nat×Nat)(i j:Nat):Bool:=kj c i != kj c j
noncomputable def JS(as:List Ru)(c:Nat×Nat):Rat:=xn ((as.filter λa=>apart c a.one a.other).map (·.size))
noncomputable def aS.room(R:aS)(t:Nat):Rat:=R.rooms.getD t 0
noncomputable def Mn(R:aS)(c:Nat×Nat):Rat:=R.room c.1+R.room c.2
noncomputable def OD(R:aS)(c:Nat×Nat):Rat:=JS R.asks c / Mn R c
def vg(n:Nat)(c:Nat×Nat):Prop:=c.1<=c.2/\c.2<n
noncomputable def p9(n:Nat):List (Nat×Nat):=(List.range n).flatMap λg=>(List.range (n-g)).map λi=>(g,g+i)
theorem vh{n:Nat}{c:Nat×Nat}:c∈p9 n↔vg n c:=by
 unfold p9 vg;rw[List.mem_flatMap];constructor
 . rintro⟨g,hg,h⟩;obtain⟨i,hi,rfl⟩:=List.mem_map.mp h;have:=List.mem_range.mp hg;have:=List.mem_range.mp hi;exact⟨Nat.le_add_right _ _,by show g+i<n;omega⟩
 . rintro⟨h1,h2⟩;exact⟨c.1,List.mem_range.mpr xL,List.mem_map.mpr ⟨c.2-c.1,List.mem_range.mpr xL,by ext<;>simp;omega⟩⟩
theorem AN{n:Nat}(h:n<=12):(p9 n).length<=200:=by
 have:∀m:Fin 13,(p9 m.1).length<=200:=by decide
 exact this ⟨n,xL⟩
theorem DH{R:aS}{t:Nat}(h:t<R.n):Qp (R.rooms.map Q2) (t:Int)=some (Q2 (R.room t)):=by have h':t<R.rooms.length:=h;rw[b7 h'];unfold aS.room;rw[tu,gV h'];rfl
theorem ib{R:aS}(hR:R.Ok){t:Nat}(h:t<R.n):0<R.room t/\RB 60 (R.room t):=by have h':t<R.rooms.length:=h;unfold aS.room;rw[tu,gV h'];exact hR.room _ (List.getElem_mem h')
theorem BC{q:Rat}{D:Nat}{z:Int}(h0:0<D)(e:q*(D:Rat)=(z:Rat)):q.den∣D:=by
 have hQ:(D:Rat)≠0:=λw=>by have:=Rat.natCast_pos.mpr h0;rw[w]at this;exact absurd this xp
 have e2:q=Rat.divInt z (D:Int):=by rw[Rat.divInt_eq_div];have:((D:Int):Rat)=(D:Rat):=rfl;rw[this,<- e,Rat.mul_div_cancel hQ]
 rw[e2];have:=Rat.den_divInt z (D:Int);rw[this,if_neg (by omega),Int.natAbs_natCast];exact Nat.div_dvd_of_dvd (Nat.gcd_dvd_left _ _)
theorem um{q:Rat}{D:Nat}(h:q.den∣D):∃z:Int,q*(D:Rat)=(z:Rat):=by obtain⟨m,rfl⟩:=h;refine⟨q.num*(m:Int),?_⟩;rw[Rat.intCast_mul,xl];have e1:((m:Int):Rat)=(m:Rat):=rfl;have e2:((q.den*m:Nat):Rat)=(q.den:Rat)*(m:Rat):=Rat.natCast_mul _ _;rw[e1,e2,Rat.mul_assoc]
theorem JT{p q:Rat}{D:Nat}(h0:0<D)(hp:p.den∣D)(hq:q.den∣D):(p+q).den∣D:=by obtain⟨a,ha⟩:=um hp;obtain⟨b,hb⟩:=um hq;exact BC (z:=a+b) h0 (by rw[Rat.add_mul,ha,hb,Rat.intCast_add])
def Mo(qs:List Rat):Prop:=wo qs<2^9000∨∃D:Nat,0<D/\D<2^4400/\∀q∈qs,q.den∣D
noncomputable def bD(R:aS)(ps:List Rat)(t:Nat):Rat:=fQ R.n R.asks ps t / R.room t
noncomputable def Fd(n:Nat)(f:Nat->Rat):Nat:=(List.range n).foldl (λb t=>if f b<f t then t else b) 0
theorem AO(f:Nat->Rat):∀(ts:List Nat)(b:Nat),(∀t∈ts,f t<=f (ts.foldl (λb t=>if f b<f t then t else b) b))/\f b<=f (ts.foldl (λb t=>if f b<f t then t else b) b)/\(ts.foldl (λb t=>if f b<f t then t else b) b=b∨ts.foldl (λb t=>if f b<f t then t else b) b∈ts)
 |[],b=>⟨λt ht=>by simp at ht,Rat.le_refl,.inl rfl⟩
 | s::ts,b=>by
  obtain⟨h1,h2,h3⟩:=AO f ts (if f b<f s then s else b)
  rw[List.foldl_cons]
  have g:f b<=f (if f b<f s then s else b)/\f s<=f (if f b<f s then s else b):=by
   split
   . rename_i h;exact⟨Rat.le_of_lt h,Rat.le_refl⟩
   . rename_i h;exact⟨Rat.le_refl,Rat.not_lt.mp h⟩
  refine⟨λt ht=>?_,Rat.le_trans g.1 h2,?_⟩
  .
   rcases Uq.mp ht with rfl|ht
   . exact Rat.le_trans g.2 h2
   . exact h1 t ht
  .
   rcases h3 with h3|h3
   .
    rw[h3];split
    . exact .inr tv
    . exact .inl rfl
   . exact .inr (k5 _ h3)
theorem zb{n:Nat}(hn:0<n)(f:Nat->Rat):Fd n f<n/\∀t,t<n->f t<=f (Fd n f):=by
 obtain⟨h1,_,h3⟩:=AO f (List.range n) 0;refine⟨?_,λt ht=>h1 t (List.mem_range.mpr ht)⟩;rcases h3 with h3|h3
 . unfold Fd;rw[h3];exact hn
 . exact List.mem_range.mp h3
theorem JU(n:Nat)(f:Nat->Rat):i9 (Rv n f)=(List.range n).map λ(t:Nat)=>D.tup [.int (t:Int),Q2 (f t)]:=by unfold i9 Rv;refine List.ext_getElem x_ λj h1 h2=>?_;simp
theorem GG(R:aS):R.rooms.map Q2=Rv R.n R.room:=by
 rw[Dv]
 congr 1
 refine List.ext_getElem (by simp[aS.n]) λj h1 h2=>?_;simp[aS.room,h1]
theorem JV(n:Nat)(f g:Nat->Rat):sV (Rv n f) (Rv n g)=(List.range n).map λ(t:Nat)=>D.tup [Q2 (f t),Q2 (g t)]:=by unfold sV Rv;refine List.ext_getElem x_ λj h1 h2=>?_;simp
theorem DI{n : Nat}{a : Ru}(h : rg n a){t : Nat}(ht : t<n) : kx n a t = ((decide (a.one <= t) != decide (a.other <= t)) != decide (a.other<a.one)) := by
  have h1 := h.one;have h2 := h.other;have hne := h.ne;unfold kx;rw[rk h1 ht, rk h1 h2];by_cases a1 : a.one <= t<;>by_cases a2 : a.other <= t<;>by_cases a3 : a.other<a.one<;>by_cases a4 : a.one <= a.other
  all_goals
    simp only[a1, a2, a3, a4, if_true, if_false, decide_true, decide_false]
  all_goals first
    |omega
    | (first
        |(rw[decide_eq_true xL];rfl)
        |(rw[decide_eq_false xL];rfl))
theorem DJ{n:Nat}{a:Ru}(h:rg n a){c:Nat×Nat}(hc:vg n c):apart c a.one a.other=(kx n a c.1 != kx n a c.2):=by
 have h1:=hc.1;have h2:=hc.2;rw[DI h xL,DI h h2];unfold apart kj
 have e:∀p:Nat,decide (c.1<p/\p<=c.2)=(decide (p<=c.1) != decide (p<=c.2)):=λp=>by
  by_cases q1:p<=c.1<;>by_cases q2:p<=c.2
  . rw[decide_eq_false xL];simp[q1,q2]
  . omega
  . rw[decide_eq_true xL];simp[q1,q2]
  . rw[decide_eq_false xL];simp[q1,q2]
 rw[e,e];cases decide (a.one<=c.1)<;>cases decide (a.one<=c.2)<;>cases decide (a.other<=c.1)<;>cases decide (a.other<=c.2)<;>cases decide (a.other<a.one)<;>rfl
noncomputable def NZ:Option Nat->D
 |none=>.non
 |some k=>.int (k:Int)
noncomputable def mN(P:Nat->Bool)(n:Nat):Option Nat:=(List.range n).find? P
theorem BD{P:Nat->Bool}{n:Nat}:mN P n=none↔∀k,k<n->P k=false:=by
 unfold mN;rw[List.find?_eq_none];constructor
 . intro h k hk;have:=h k (List.mem_range.mpr hk);simpa using this
 . intro h k hk;rw[h k (List.mem_range.mp hk)];exact Bool.false_ne_true
theorem GH{P:Nat->Bool}{n k:Nat}(hk:k<n)(h1:P k=true)(h0:∀j,j<k->P j=false):mN P n=some k:=by
 have e:List.range n=List.range k++k::(List.range' (k+1) (n-k-1)):=by
  rw[List.range_eq_range',List.range_eq_range'];have:n=k+(1+(n-k-1)):=by omega
  conv=>lhs;rw[this]
  rw[<- List.range'_append_1,Nat.zero_add]
  congr 1
  rw[Nat.add_comm,List.range'_succ]
 unfold mN;rw[e,List.find?_append];have:(List.range k).find? P=none:=by rw[List.find?_eq_none];intro j hj;rw[h0 j (List.mem_range.mp hj)];exact Bool.false_ne_true
 rw[this,List.find?_cons,h1];rfl
noncomputable def aS.sz(R:aS)(k:Nat):Rat:=(R.asks.map (·.size)).getD k 0
theorem pk(t:Int){b:Int}(hb:0<b):∃m:Int,0<m/\t=(Rat.divInt t b).num*m/\b=((Rat.divInt t b).den:Int)*m:=by
 obtain⟨m,m0,e1,e2⟩:=Rat.divInt_num_den (d:=b) (n:=t) (n':=(Rat.divInt t b).num) (d':=(Rat.divInt t b).den) (z':=(Rat.divInt t b).den_nz) (c:=(Rat.divInt t b).reduced) xL rfl;refine⟨m,?_,e1,e2⟩;have hd:=den_pos (Rat.divInt t b);have h3:0<((Rat.divInt t b).den:Int)*m:=by rw[<- e2];exact hb
 exact Int.pos_of_mul_pos_right h3 xL
theorem mO{t b:Int}{l:Rat}(hb:0<b):Rat.divInt t b<l↔t*(l.den:Int)<l.num*b:=by
 obtain⟨m,hm,e1,e2⟩:=pk t hb;generalize Rat.divInt t b=p at e1 e2;rw[Rat.lt_iff,e1,e2];have q1:p.num*m*(l.den:Int)=p.num*(l.den:Int)*m:=by rw[Int.mul_assoc,Int.mul_comm m,<- Int.mul_assoc]
 have q2:l.num*((p.den:Int)*m)=l.num*(p.den:Int)*m:=by rw[Int.mul_assoc]
 rw[q1,q2];exact(Int.mul_lt_mul_right hm).symm
end L2
namespace My
open PySem L2
noncomputable def cK(R:aS)(j:Nat):Ru:=(R.asks[j]?).getD ⟨"",0,0,0⟩
noncomputable def Ry(R:aS)(j t:Nat):Bool:=kx R.n (cK R j) t
noncomputable def dI(R:aS)(w:Nat->Int)(k g h:Nat):Int:=((List.range (R.asks.length-k)).map λi=>if Ry R (k+i) g != Ry R (k+i) h then w (k+i)else 0).sum
theorem qz{R:aS}(hR:R.Ok){j:Nat}(h:j<R.asks.length):rg R.n (cK R j):=by unfold cK;rw[gV h];exact hR.ask _ (List.getElem_mem h)
theorem fV{R:aS}{j:Nat}(h:j<R.asks.length):cK R j=R.asks[j]:=by unfold cK;rw[gV h];rfl
def Ph(R:aS)(w f:Nat->Int)(k:Nat):Prop:=∀g h,g<R.n->h<R.n->dI R w k g h<=f g+f h/\(f g+f h-dI R w k g h) % 2=0
noncomputable def N0(R:aS)(w f:Nat->Int)(k:Nat)(p:Int)(t:Nat):Int:=f t-if Ry R k t then p else w k-p
noncomputable def Rz(i j:Int):Int:=if j<i then j else i
noncomputable def RA(R:aS)(k:Nat):List Nat:=(PySem.W.sortI ((Ni R.n (cK R k) true).map λ(t:Nat)=>(t:Int))).map Int.toNat
noncomputable def Pi(R:aS)(w f:Nat->Int)(k g h:Nat):Int:=f g+f h-dI R w (k+1) g h
noncomputable def Mp(R:aS)(w f:Nat->Int)(k:Nat)(acc:Int)(g:Nat)(hs:List Nat):Int:=hs.foldl (λt h=>if decide (g<=h)then Rz t (Pi R w f k g h)else t) acc
noncomputable def Mq(R:aS)(w f:Nat->Int)(k:Nat)(gs:List Nat):Int:=gs.foldl (λt g=>Mp R w f k t g (RA R k)) (2*w k)
noncomputable def Mr(R:aS)(w f:Nat->Int)(k:Nat):Int:=(Mq R w f k (RA R k)).fdiv 2
noncomputable def RC(R:aS)(w f:Nat->Int):Nat->Nat->Int
 |0=>f
 |k+1=>N0 R w (RC R w f k) k (Mr R w (RC R w f k) k)
noncomputable def RD(R:aS)(w f:Nat->Int)(k:Nat):Int:=Mr R w (RC R w f k) k
theorem JW{t b:Int}(h:b≠0):(Rat.divInt t b).den∣b.natAbs:=by rw[Rat.den_divInt,if_neg h];exact Nat.div_dvd_of_dvd (by rw[Int.gcd];exact Nat.gcd_dvd_left _ _)
theorem zd(p q:Rat):(p*q).den∣p.den*q.den:=by
 have e:p*q=Rat.divInt (p.num*q.num) ((p.den:Int)*q.den):=by rw[<- Rat.divInt_mul_divInt,Rat.num_divInt_den,Rat.num_divInt_den]
 rw[e];have:=JW (t:=p.num*q.num) (b:=(p.den:Int)*q.den) (Int.mul_ne_zero (lh _) (lh _));rwa [Int.natAbs_mul,Int.natAbs_natCast,Int.natAbs_natCast]at this
theorem GI(q:Rat):(q.num:Rat)=q*(q.den:Rat):=by
 have h:((q.den:Int):Rat)≠0:=λe=>lh q (by
  have:((q.den:Int):Rat)=((0:Int):Rat):=e
  exact Rat.intCast_inj.mp this)
 have e:q=(q.num:Rat) / ((q.den:Int):Rat):=by
  conv=>lhs;rw[<- Rat.num_divInt_den q,Rat.divInt_eq_div]
 have:=Rat.div_mul_cancel (a:=(q.num:Rat)) h;rw[<- e]at this;exact this.symm
noncomputable def RE(qs:List Rat):Nat:=qs.foldl (λb q=>Nat.lcm b q.den) 1
theorem ze:∀(qs:List Rat)(b:Nat),b∣qs.foldl (λb q=>Nat.lcm b q.den) b/\(∀q∈qs,q.den∣qs.foldl (λb q=>Nat.lcm b q.den) b)/\∀P,b∣P->(∀q∈qs,q.den∣P)->qs.foldl (λb q=>Nat.lcm b q.den) b∣P
 |[],b=>⟨Nat.dvd_refl _,λq hq=>by simp at hq,λP h _=>h⟩
 | q::qs,b=>by
  obtain⟨h1,h2,h3⟩:=ze qs (Nat.lcm b q.den);rw[List.foldl_cons];refine⟨Nat.dvd_trans (Nat.dvd_lcm_left _ _) h1,λp hp=>?_,λP hb hP=>h3 P (Nat.lcm_dvd hb (hP q tv)) λp hp=>hP p (k5 _ hp)⟩;rcases Uq.mp hp with rfl|hp
  . exact Nat.dvd_trans (Nat.dvd_lcm_right _ _) h1
  . exact h2 p hp
theorem AQ{qs:List Rat}{q:Rat}(h:q∈qs):q.den∣RE qs:=(ze qs 1).2.1 q h
theorem GJ{qs:List Rat}{P:Nat}(h:∀q∈qs,q.den∣P):RE qs∣P:=(ze qs 1).2.2 P (Nat.one_dvd _) h
noncomputable def eF(u:Nat)(q:Rat):Int:=q.num*((u / q.den:Nat):Int)
theorem rm{u:Nat}{q:Rat}(h:q.den∣u):((eF u q:Int):Rat)=q*(u:Rat):=by obtain⟨c,rfl⟩:=h;unfold eF;rw[Nat.mul_div_cancel_left _ (den_pos q),Rat.intCast_mul,GI,Rat.intCast_natCast,Rat.natCast_mul,Rat.mul_assoc]
theorem zf{u:Nat}{q:Rat}(h:0<=q):0<=eF u q:=Int.mul_nonneg (Rat.num_nonneg.mpr h) (Int.natCast_nonneg _)
noncomputable def ky(R:aS):List Rat:=R.asks.map (·.size)
noncomputable def tE(R:aS)(q:Rat):List Rat:=R.rooms.map λr=>q*r
noncomputable def RF(R:aS)(q:Rat):Nat:=RE (ky R++tE R q)
noncomputable def bP(R:aS)(q:Rat):Nat:=2*RF R q
noncomputable def wI(R:aS)(q:Rat)(j:Nat):Int:=eF (bP R q) (cK R j).size
noncomputable def RG(R:aS)(q:Rat)(t:Nat):Int:=eF (bP R q) (q*R.room t)
theorem GK{R:aS}{j:Nat}(h:j<R.asks.length)(q:Rat):(cK R j).size.den∣RF R q:=by refine AQ (List.mem_append_left _ (List.mem_map.mpr ⟨cK R j,?_,rfl⟩));rw[fV h];exact List.getElem_mem h
theorem GL{R:aS}{t:Nat}(h:t<R.n):R.room t∈R.rooms:=by unfold aS.room;have h':t<R.rooms.length:=h;rw[tu,gV h'];exact List.getElem_mem h'
theorem GM{R:aS}{t:Nat}(h:t<R.n)(q:Rat):(q*R.room t).den∣RF R q :=
 AQ (List.mem_append_right _ (List.mem_map.mpr ⟨R.room t,GL h,rfl⟩))
theorem DK{a b:Nat}(h:a∣b):a∣2*b:=Nat.dvd_trans h (Nat.dvd_mul_left _ _)
theorem Ms{R:aS}{q:Rat}{j:Nat}(h:j<R.asks.length):((wI R q j:Int):Rat)=(cK R j).size*(bP R q:Rat):=rm (DK (GK h q))
theorem Mt{R:aS}{q:Rat}{t:Nat}(h:t<R.n):((RG R q t:Int):Rat)=q*R.room t*(bP R q:Rat):=rm (DK (GM h q))
theorem GN{R:aS}(hR:R.Ok)(q:Rat):∀j,j<R.asks.length->0<=wI R q j:=λj h=>zf (qz hR h).size
theorem vi:∀{qs:List Rat}{q:Rat},q∈qs->q.den∣wo qs
 | p::qs,q,h=>by
  show q.den∣p.den*wo qs;rcases Uq.mp h with rfl|h
  . exact Nat.dvd_mul_right _ _
  . exact Nat.dvd_trans (vi h) (Nat.dvd_mul_left _ _)
theorem DL:∀{qs:List Rat},(∀q∈qs,RB 60 q)->wo qs<=2^(60*qs.length)
 |[],_=>Uu 1
 | q::qs,h=>by have h1:=(h q tv).2;have h2:=DL λp hp=>h p (k5 _ hp);show q.den*wo qs<=2^(60*(qs.length+1));rw[Nat.mul_add,Nat.mul_one,Nat.pow_add,Nat.mul_comm (2^_)];exact Nat.mul_le_mul (Nat.le_of_lt h1) h2
theorem DM(R:aS)(q:Rat):0<RF R q:=by have hd:RF R q∣wo (ky R++tE R q):=GJ λp hp=>vi hp;exact Nat.pos_of_dvd_of_pos hd (mK _)
theorem AR{R:aS}(hR:R.Ok){q:Rat}(hq:RB 1750 q):0<bP R q/\bP R q<2^3750:=by
 obtain⟨D,d0,d1,hD⟩:=hR.cd
 have hd:RF R q∣D*(q.den*wo R.rooms):=by
  refine GJ λp hp=>?_;rcases List.mem_append.mp hp with hp|hp
  . obtain⟨a,ha,rfl⟩:=List.mem_map.mp hp;exact Nat.dvd_trans (hD a ha) (Nat.dvd_mul_right _ _)
  . obtain⟨r,hr,rfl⟩:=List.mem_map.mp hp;refine Nat.dvd_trans (zd q r) (Nat.dvd_trans (Nat.mul_dvd_mul_left _ (vi hr)) (Nat.dvd_mul_left _ _))
 have h1:D<=2^1240:=Nat.le_of_lt d1;have h2:wo R.rooms<=2^720:=by refine Ur (DL λp hp=>(hR.room p hp).2) (Us xp ?_);have:R.rooms.length<=12:=hR.hi;omega
 have h3:q.den<=2^1750:=Nat.le_of_lt hq.2;have h4:RF R q<=D*(q.den*wo R.rooms):=Nat.le_of_dvd (Nat.mul_pos d0 (Nat.mul_pos (den_pos _) (mK _))) hd;have h5:D*(q.den*wo R.rooms)<=2^1240*(2^1750*2^720):=Nat.mul_le_mul h1 (Nat.mul_le_mul h3 h2);have h6:2^1240*(2^1750*2^720)=2^3710:=by rw[<- Nat.pow_add,<- Nat.pow_add]
 rw[h6]at h5;have h0:=DM R q;have h7:(2:Nat)^3711=2*2^3710:=by rw[Nat.pow_succ,Nat.mul_comm]
 have h8:(2:Nat)^3711<2^3750:=Nat.pow_lt_pow_right xp xp;unfold bP;refine⟨xL,?_⟩;generalize (2:Nat)^3750=z at *;generalize (2:Nat)^3710=y at *;generalize (2:Nat)^3711=x at *;omega
theorem BE(R:aS):R.asks=(List.range R.asks.length).map (cK R):=by refine List.ext_getElem x_ λj h1 h2=>?_;rw[List.getElem_map,List.getElem_range,fV h1]
noncomputable def pI(R:aS)(q:Rat)(k:Nat):Int:=RD R (wI R q) (RG R q) k
noncomputable def N1(R:aS)(q:Rat)(k:Nat):Rat:=Rat.divInt (pI R q k) (bP R q:Int)
noncomputable def Pj(R:aS)(q:Rat):List Rat:=(List.range R.asks.length).map (N1 R q)
theorem xb{α β:Type}(f:Nat->α)(g:Nat->β)(m:Nat):((List.range m).map f).zip ((List.range m).map g)=(List.range m).map λk=>(f k,g k):=by rw[List.zip_map']
noncomputable def cF(n:Nat)(f:Nat->Int):List D:=(List.range n).map λ(t:Nat)=>D.int (f t)
theorem ie(n:Nat)(f:Nat->Int):(cF n f).length=n:=by simp[cF]
theorem gn{n:Nat}{f:Nat->Int}{t:Nat}(h:t<n):Qp (cF n f) (t:Int)=some (.int (f t)):=by refine eW ?_;unfold cF;rw[List.getElem?_map,List.getElem?_range h];rfl
theorem DN{a b:Nat}(h:0<b):((a:Int).fdiv (Int.gcd a b:Int))*(b:Int)=((Nat.lcm a b:Nat):Int):=by rw[Int.fdiv_eq_ediv_of_nonneg _ xL];show((a:Int) / ((Nat.gcd a b:Nat):Int))*(b:Int)=_;rw[<- Int.natCast_ediv,<- Int.natCast_mul,Nat.div_mul_right_comm (Nat.gcd_dvd_left a b)];rfl
theorem Mu(R:aS)(q:Rat):(ky R).map (λp=>D.int (eF (bP R q) p))=cF R.asks.length (wI R q):=by
 unfold ky cF
 conv=>lhs;rw[BE R,List.map_map,List.map_map]
 rfl
theorem zg(R:aS):R.rooms=(List.range R.n).map R.room:=by refine List.ext_getElem (by simp[aS.n]) λj h1 h2=>?_;rw[List.getElem_map,List.getElem_range];unfold aS.room;rw[tu,gV h1];rfl
theorem Mv(R:aS)(q:Rat):(tE R q).map (λp=>D.int (eF (bP R q) p))=cF R.n (RG R q):=by
 unfold tE cF
 conv=>lhs;rw[zg R,List.map_map,List.map_map]
 rfl
end My
set_option exponentiation.threshold 2000
namespace L2
open PySem
theorem vj:∀{m n:Nat}(d:D),m<=n->Q3 m d=true->Q3 n d=true:=by
 intro m n d hmn h
 have:∀(m:Nat),(∀(n:Nat)(d:D),m<=n->Q3 m d=true->Q3 n d=true)/\∀(n:Nat)(ds:List D),m<=n->qv m ds=true->qv n ds=true:=by
  intro m
  induction m with
  | zero =>
   have h0:∀(n:Nat)(d:D),0<=n->Q3 0 d=true->Q3 n d=true:=λn d _ h=>by cases d<;>cases n<;>simp_all [Q3]
   refine⟨h0,λn ds hn h=>?_⟩
   induction ds with
   |nil=>simp[qv]
   |cons x xs ih=>simp only[qv,Bool.and_eq_true]at h ⊢;exact⟨h0 n x hn h.1,ih h.2⟩
  | succ m ih =>
   have h0:∀(n:Nat)(d:D),m+1<=n->Q3 (m+1) d=true->Q3 n d=true:=λn d hn h=>by
    obtain⟨k,rfl⟩:∃k,n=k+1:=⟨n-1,xL⟩;cases d<;>simp_all [Q3]
    all_goals exact ih.2 k _ xL h
   refine⟨h0,λn ds hn h=>?_⟩
   induction ds with
   |nil=>simp[qv]
   |cons x xs ihx=>simp only[qv,Bool.and_eq_true]at h ⊢;exact⟨h0 n x hn h.1,ihx h.2⟩
 exact(this m).1 n d hmn h
end L2
set_option exponentiation.threshold 5000
namespace My
open PySem L2
structure LB (R:aS) (ps:List Rat):Prop where
 p:∀p∈ps,RB 4100 p
 ld:∀k t,RB 4100 (fQ R.n (R.asks.take k) (ps.take k) t)
 st:∀(k:Nat)(h1:k<R.asks.length)(h2:k<ps.length)(t:Nat),RB 4100 (yv R.n R.asks[k] ps[k] t)
 sm:∀t,Mo ((R.asks.zip ps).map λx=>yv R.n x.1 x.2 t)
theorem LB.all{R:aS}{ps:List Rat}(h:LB R ps)(hl:ps.length=R.asks.length)(t:Nat):RB 4100 (fQ R.n R.asks ps t):=by have:=h.ld R.asks.length t;rwa [List.take_of_length_le (Uu _),List.take_of_length_le xL]at this
theorem N2{R:aS}(hR:R.Ok){q:Rat}(hq:RB 1750 q){j:Nat}(h:j<R.asks.length):(wI R q j).natAbs<2^4050:=by
 have h1:=(AR hR hq).2;have h2:=xm (V:=2^300) (qz hR h).size (qz hR h).lt;unfold wI eF;rw[Int.natAbs_mul,Int.natAbs_natCast];have h3:(cK R j).size.den*(bP R q / (cK R j).size.den)<=bP R q:=Nat.mul_div_le _ _;have e:(2:Nat)^4050=2^300*2^3750:=by rw[<- Nat.pow_add]
 have h4:(cK R j).size.num.natAbs*(bP R q / (cK R j).size.den)<=2^300*bP R q:=by refine Ur (Nat.mul_le_mul_right _ (Nat.le_of_lt h2)) ?_;rw[Nat.mul_assoc];exact Nat.mul_le_mul_left _ h3
 rw[e];exact Uv h4 (Nat.mul_lt_mul_of_pos_left h1 (Nat.pow_pos xp))
noncomputable def zI(R:aS)(q:Rat)(t j:Nat):Int:=if kx R.n (cK R j) t then pI R q j else wI R q j-pI R q j
theorem DO{caps:Ev}{te:W L}{k:List D->Ev->Prop}(xs:List D)(acc:List D)(l:L)(step:∀a∈xs,∀Q:Ev->D->Prop,Q (.d a::caps) a->te (.d a::caps) λr Z3=>QF r λy=>Q Z3 y)(PZ:∀l',k (acc++xs) (l'::caps)):eE (aQ 0) bZ te xs (l::caps) acc k:=by have:=bt (enc:=id) (h:=id) (te:=te) (k:=k) (caps:=caps) xs acc l step (by simpa using PZ);simpa using this
mutual
noncomputable def sX:D->Nat
 |.tup xs=>max xs.length (rn xs)
 |.lst xs=>max xs.length (rn xs)
 |_=>0
noncomputable def rn:List D->Nat
 |[]=>0
 |x::xs=>max (sX x) (rn xs)
end
theorem rp{x:D}:∀{xs:List D},x∈xs->sX x<=rn xs
 | y::ys,h=>by
  simp only[rn];rcases Uq.mp h with rfl|h
  . omega
  . have:=rp h;omega
theorem qC{n:Nat}:∀{xs:List D},(∀x∈xs,sX x<=n)->rn xs<=n
 |[],_=>Nat.zero_le _
 | y::ys,h=>by simp only[rn];have:=h y tv;have:=qC (xs:=ys) λx hx=>h x (k5 _ hx);omega
theorem AS{n:Nat}(h:n<=99):n<=sizeLine:=Ur h xp
theorem zh(q:Rat):sX (Q2 q)=2:=by simp[Q2,sX,rn]
theorem GO(a:Ru):sX (j2 a)=4:=by have:=zh a.size;simp[j2,sX,rn,this]
theorem GP{qs:List Rat}{n:Nat}(h:qs.length<=n)(h2:2<=n):sX (.lst (qs.map Q2))<=n:=by
 simp only[sX,Up];have:=qC (n:=2) (xs:=qs.map Q2) λx hx=>by obtain⟨q,_,rfl⟩:=List.mem_map.mp hx;rw[zh];exact Uu _
 omega
theorem xA{as:List Ru}{n:Nat}(h:as.length<=n)(h2:4<=n):sX (.lst (as.map j2))<=n:=by
 simp only[sX,Up];have:=qC (n:=4) (xs:=as.map j2) λx hx=>by obtain⟨q,_,rfl⟩:=List.mem_map.mp hx;rw[GO];exact Uu _
 omega
theorem DP{R:aS}(h1:R.n<=99)(h2:R.asks.length<=99):sX (a5 R)<=99:=by have h1:=GP (qs:=R.rooms) (n:=99) h1 xp;have h2:=xA (as:=R.asks) (n:=99) h2 xp;simp only[a5,sX,rn,List.length_cons,List.length_nil]at h1 h2 ⊢;omega
structure RH (n:Nat) (d:D):Prop where
 dep:sW d<n
 wid:sX d<=99
theorem RH.mono{n m:Nat}{d:D}(h:RH n d)(hm:n<=m):RH m d:=⟨so h.dep hm,h.wid⟩
theorem RH.lst{n:Nat}{xs:List D}(h:RH (n+1) (.lst xs)):xs.length<=sizeLine/\∀x∈xs,RH n x:=by obtain⟨h1,h2⟩:=h;simp only[sW,sX]at h1 h2;exact⟨AS xL,λx hx=>⟨by have:=rd hx;omega,by have:=rp hx;omega⟩⟩
theorem RH.tup{n:Nat}{xs:List D}(h:RH (n+1) (.tup xs)):xs.length<=sizeLine/\∀x∈xs,RH n x:=by obtain⟨h1,h2⟩:=h;simp only[sW,sX]at h1 h2;exact⟨AS xL,λx hx=>⟨by have:=rd hx;omega,by have:=rp hx;omega⟩⟩
theorem zk(q:Rat):sW (Q2 q)=1:=by simp[Q2,sW,q8]
theorem GQ(a:Ru):sW (j2 a)=2:=by have:=zk a.size;simp[j2,sW,q8,this]
theorem vk{xs:List D}{n:Nat}(h:∀x∈xs,sW x<=n):sW (.lst xs)<=n+1:=by simp only[sW];have:=Az h;omega
theorem GR(qs:List Rat):sW (.lst (qs.map Q2))<=2:=vk λx hx=>by obtain⟨q,_,rfl⟩:=List.mem_map.mp hx;rw[zk];exact Uu _
theorem xB(as:List Ru):sW (.lst (as.map j2))<=3:=vk λx hx=>by obtain⟨q,_,rfl⟩:=List.mem_map.mp hx;rw[GQ];exact Uu _
theorem DQ(R:aS):sW (a5 R)<=4:=by have h1:=GR R.rooms;have h2:=xB R.asks;simp only[a5,sW,q8]at h1 h2 ⊢;omega
theorem JX(a:Ru):noL (j2 a)=true:=by simp[j2,noL,gH,Dm]
theorem DS(as:List Ru):gH (as.map j2)=true:=ia _ λa _=>JX a
theorem RH.ring{R:aS}(h1:R.n<=99)(h2:R.asks.length<=99):RH 5 (a5 R):=⟨by have:=DQ R;omega,DP h1 h2⟩
theorem RH.asks{as:List Ru}(h:as.length<=99):RH 4 (.lst (as.map j2)):=⟨by have:=xB as;omega,xA h xp⟩
mutual
theorem vj:∀(n:Nat)(d:D),Q3 n d=true->Q3 (n+1) d=true
 |_,.non,_=>by simp[Q3]
 |_,.bl _,_=>by simp[Q3]
 |_,.int _,_=>by simp[Q3]
 |_,.str x,h=>by simpa[Q3]using h
 |0,.tup _,h=>by simp[Q3]at h
 |0,.lst _,h=>by simp[Q3]at h
 | n+1,.tup xs,h=>by
  simp only[Q3]at h ⊢
  exact rq n xs h
 | n+1,.lst xs,h=>by
  simp only[Q3]at h ⊢
  exact rq n xs h
 |_,.dct _,h=>by simp[Q3]at h
 |_,.exc _ _ _,h=>by simp[Q3]at h
 |_,.fn _ _,h=>by simp[Q3]at h
theorem rq:∀(n:Nat)(ds:List D),qv n ds=true->qv (n+1) ds=true
 |_,[],_=>rfl
 | n,d::ds,h=>by
  simp only[qv,Bool.and_eq_true]at h ⊢
  exact⟨vj n d h.1,rq n ds h.2⟩
end
theorem Mw{n m:Nat}{d:D}(h:Q3 n d=true)(hm:n<=m):Q3 m d=true:=by
 obtain⟨k,rfl⟩:=Nat.exists_eq_add_of_le hm
 induction k with
 |zero=>exact h
 |succ k ih=>exact vj _ _ (ih xL)
end My
set_option exponentiation.threshold 5000
namespace My
open PySem L2
noncomputable def kA:Option Bool->D
 |none=>.non
 |some w=>.str (fP w)
structure mf where
 top:Rat
 strict:Bool
 elder:List (Option Bool)
 most:Nat
noncomputable def RI(el:List (Option Bool)):D:=.lst (el.map kA)
noncomputable def d9(ws:List Bool):D:=.lst (ws.map λw=>D.str (fP w))
theorem GS(ws:List Bool):d9 ws=RI (ws.map some):=by unfold d9 RI;rw[List.map_map];rfl
noncomputable def cG(w:mf):D:=.tup [Q2 w.top,.bl w.strict,RI w.elder,.int (w.most:Int)]
noncomputable def cw(x:Option Bool×Option Bool):Bool:=match x.1 with
 |none=>false
 |some a=>x.2 == some (!a)
noncomputable def ff(el ws:List (Option Bool)):List Nat:=((el.zip ws).zipIdx.filter λx=>cw x.1).map (·.2)
theorem uo(o:Option Bool):df (kA o):=by
 cases o with
 |none=>exact ud
 |some w=>exact rh w
theorem DT(o:Option Bool)(b:Bool):QS (kA o) (.str (fP b))=(o == some b):=by
 cases o with
 |none=>rfl
 | some a =>
  show QS (.str (fP a)) (.str (fP b))=_;rw[CM];cases a<;>cases b<;>rfl
noncomputable def eG(st:Bool)(load bound:Int):Bool:=decide (bound<load) ||(st && decide (load=bound))
noncomputable def mP(w:mf)(x:Rat):Bool:=decide (w.top<x) ||(w.strict && decide (x=w.top))
noncomputable def ig(n:Nat)(as:List Ru)(zs:List Int)(ws:List Bool)(t:Nat):Int:=((as.zip (zs.zip ws)).map λx=>if kx n x.1 t == x.2.2 then x.2.1 else 0).sum
theorem DU{as:List Ru}{zs:List Int}{ws:List Bool}{k:Nat}(h1:k<as.length)(h2:k<zs.length)(h3:k<ws.length):(as.take (k+1)).zip ((zs.take (k+1)).zip (ws.take (k+1)))=(as.take k).zip ((zs.take k).zip (ws.take k))++[(as[k],zs[k],ws[k])]:=by
 have hz:k<(zs.zip ws).length:=by rw[List.length_zip];omega
 rw[<- j4,<- j4,<- j4,<- j4,List.take_succ,gV (by rw[List.length_zip];omega),List.getElem_zip,List.getElem_zip];rfl
theorem DV{n:Nat}{as:List Ru}{zs:List Int}{ws:List Bool}{k:Nat}(h1:k<as.length)(h2:k<zs.length)(h3:k<ws.length)(t:Nat):ig n (as.take (k+1)) (zs.take (k+1)) (ws.take (k+1)) t=ig n (as.take k) (zs.take k) (ws.take k) t+if kx n as[k] t == ws[k]then zs[k]else 0:=by unfold ig;rw[DU h1 h2 h3,List.map_append,List.sum_append];simp
noncomputable def iZ(as:List Ru)(ws:List Bool):List Rat:=(as.zip ws).map λx=>if x.2 then x.1.size else 0
theorem xC(n u:Nat)(t:Nat):∀(as:List Ru)(ws:List Bool),ws.length=as.length->(∀a∈as,a.size.den∣u)->((ig n as ((as.map (·.size)).map (eF u)) ws t:Int):Rat)=fQ n as (iZ as ws) t*(u:Rat)
 |[],[],_,_=>by simp[ig,fQ,vf]
 | a::as,w::ws,h,hd=>by
  have ih:=xC n u t as ws (by simpa using h) λb hb=>hd b (k5 _ hb)
  have e1:ig n (a::as) (((a::as).map (·.size)).map (eF u)) (w::ws) t=(if kx n a t == w then eF u a.size else 0)+ig n as ((as.map (·.size)).map (eF u)) ws t:=rfl
  have e2:fQ n (a::as) (iZ (a::as) (w::ws)) t=yv n a (if w then a.size else 0) t+fQ n as (iZ as ws) t:=by unfold fQ;show xn (_::_)=_;rw[jd];rfl
  have uc:=rm (hd a tv);rw[e1,e2,Rat.intCast_add,ih,Rat.add_mul]
  congr 1
  unfold yv;cases kx n a t<;>cases w<;>simp[uc]<;>grind
 |[],_::_,h,_=>by simp at h
 |_::_,[],h,_=>by simp at h
theorem GT{n:Nat}{f:Nat->Int}{t:Nat}(v:Int):(cF n f).set t (.int v)=cF n λs=>if s=t then v else f s:=by
 refine List.ext_getElem (by simp[cF]) λj h1 h2=>?_;have e1:∀(g:Nat->Int)(h:j<(cF n g).length),(cF n g)[j]=.int (g j):=λg h=>by simp[cF]
 rw[List.getElem_set,e1 _ h2];by_cases hj:t=j
 . subst hj;simp
 . rw[if_neg hj,if_neg (Ne.symm hj)];exact e1 _ _
theorem DW{n:Nat}{f:Nat->Int}{t:Nat}(h:t<n):Qo (cF n f).length (t:Int)=some t:=by rw[ie];unfold Qo;rw[if_pos (by omega),if_pos (by omega),Int.toNat_natCast]
theorem ou{n:Nat}{f g:Nat->Int}(h:∀t,t<n->f t=g t):cF n f=cF n g:=by unfold cF;refine List.map_congr_left λt ht=>?_;rw[h t (List.mem_range.mp ht)]
theorem mQ{qs:List Rat}(hl:qs.length<=20)(hb:∀q∈qs,RB 60 q):0<RE qs/\RE qs<=2^1200:=by
 have d:RE qs∣wo qs:=GJ λq hq=>by
  clear hl hb
  induction qs with
  |nil=>simp at hq
  | cons a t ih =>
   show q.den∣a.den*wo t;rcases Uq.mp hq with rfl|hq
   . exact Nat.dvd_mul_right _ _
   . exact Nat.dvd_trans (ih hq) (Nat.dvd_mul_left _ _)
 have p:=mK qs;refine⟨Nat.pos_of_dvd_of_pos d p,Ur (Nat.le_of_dvd p d) (Ur (za qs hb) (Us xp xL))⟩
theorem AU(n:Nat)(t:Nat){M:Nat}:∀(as:List Ru)(zs:List Int)(ws:List Bool),(∀z∈zs,z.natAbs<=M)->(ig n as zs ws t).natAbs<=as.length*M
 |[],_,_,_=>by simp[ig]
 |a::as,[],_,_=>by simp[ig]
 |a::as,z::zs,[],_=>by simp[ig]
 | a::as,z::zs,w::ws,h=>by
  have ih:=AU n t as zs ws λy hy=>h y (k5 _ hy)
  have e1:ig n (a::as) (z::zs) (w::ws) t=(if kx n a t == w then z else 0)+ig n as zs ws t:=rfl
  have hz:=h z tv;rw[e1,List.length_cons,Nat.succ_mul];split<;>omega
theorem DX{u:Nat}{q:Rat}(hq:RB 60 q)(hu:u<=2^1200):(eF u q).natAbs<=2^1260:=by
 unfold eF;rw[Int.natAbs_mul,Int.natAbs_natCast];have h1:u / q.den<=2^1200:=Ur (Nat.div_le_self _ _) hu;have e:(2:Nat)^1260=2^60*2^1200:=by rw[<- Nat.pow_add]
 rw[e];exact Nat.mul_le_mul (Nat.le_of_lt hq.1) h1
theorem mR{R:aS}(hR:R.Ok)(hT:∀a∈R.asks,RB 60 a.size)(ws:List Bool)(t:Nat):(ig R.n R.asks ((R.asks.map (·.size)).map (eF (RE (R.asks.map (·.size))))) ws t).natAbs<2^1265:=by
 have few:=hR.few;have hb:∀q∈R.asks.map (·.size),RB 60 q:=λq hq=>by obtain⟨a,ha,rfl⟩:=List.mem_map.mp hq;exact hT a ha
 obtain⟨c0,c1⟩:=mQ (qs:=R.asks.map (·.size)) (by rw[Up];exact few) hb;have:=AU R.n t (M:=2^1260) R.asks ((R.asks.map (·.size)).map (eF (RE (R.asks.map (·.size))))) ws λz hz=>by obtain⟨q,hq,rfl⟩:=List.mem_map.mp hz;exact DX (hb q hq) c1
 have e:(2:Nat)^1265=32*2^1260:=by rw[show(1265:Nat)=5+1260 by rfl,Nat.pow_add]
 rw[e];refine Uv this ?_;have p:0<(2:Nat)^1260:=Nat.pow_pos xp;refine Uv (Nat.mul_le_mul_right _ few) ?_;omega
theorem GU{R:aS}(hR:R.Ok)(hT:∀a∈R.asks,RB 60 a.size){ws:List Bool}(hl:ws.length=R.asks.length)(t:Nat):bD R (iZ R.asks ws) t=((ig R.n R.asks ((R.asks.map (·.size)).map (eF (RE (R.asks.map (·.size))))) ws t:Int):Rat) / ((RE (R.asks.map (·.size)):Nat):Rat) / R.room t:=by
 have hb:∀q∈R.asks.map (·.size),RB 60 q:=λq hq=>by obtain⟨a,ha,rfl⟩:=List.mem_map.mp hq;exact hT a ha
 obtain⟨c0,c1⟩:=mQ (qs:=R.asks.map (·.size)) (by rw[Up];exact hR.few) hb;have w:=xC R.n (RE (R.asks.map (·.size))) t R.asks ws hl λa ha=>AQ (List.mem_map.mpr ⟨a,ha,rfl⟩);have p:((RE (R.asks.map (·.size)):Nat):Rat)≠0:=λz=>by have:=Rat.natCast_pos.mpr c0;grind
 rw[w,Rat.mul_div_cancel p];rfl
end My
set_option exponentiation.threshold 5000
namespace My
open PySem L2
noncomputable def gI:Nat->(Nat->Int)->Int
 |0,_=>0
 |n+1,f=>gI n f+f n
theorem j5{n:Nat}{f g:Nat->Int}(h:∀i,i<n->f i=g i):gI n f=gI n g:=by
 induction n with
 |zero=>rfl
 |succ n ih=>rw[gI,gI,ih λi hi=>h i xL,h n xL]
theorem JY{n:Nat}{f g:Nat->Int}(h:∀i,i<n->f i<=g i):gI n f<=gI n g:=by
 induction n with
 |zero=>exact Int.le_refl _
 | succ n ih =>
  have h1:=ih λi hi=>h i xL;have h2:=h n xL;rw[gI,gI];omega
theorem AV(n:Nat)(f g:Nat->Int):gI n (λi=>f i+g i)=gI n f+gI n g:=by
 induction n with
 |zero=>rfl
 |succ n ih=>rw[gI,gI,gI,ih];omega
theorem xD{n k:Nat}(h:k<=n)(f:Nat->Int):gI n f=gI k f+gI n λi=>if i<k then 0 else f i:=by
 induction n with
 | zero =>
  have:k=0:=by omega
  subst this;rfl
 | succ n ih =>
  rcases Nat.lt_or_ge n k with g|g
  .
   have:k=n+1:=by omega
   subst this
   have e:gI (n+1) (λi=>if i<n+1 then 0 else f i)=gI (n+1) λ_=>0:=j5 λi hi=>if_pos hi
   have z:∀m,gI m (λ_=>(0:Int))=0:=λm=>by induction m with
    |zero=>rfl
    |succ m ihm=>rw[gI,ihm];rfl
   rw[e,z];omega
  . rw[gI,ih g,gI,if_neg (by omega)];omega
noncomputable def RJ(R:aS)(q:Rat)(ws:List Bool)(t:Nat):Int:=gI ws.length λi=>if Ry R i t == ws.getD i false then wI R q i else 0
theorem Mx(R:aS)(q:Rat)(ws:List Bool)(b:Bool)(t:Nat):RJ R q (ws++[b]) t=RJ R q ws t+if Ry R ws.length t == b then wI R q ws.length else 0:=by
 unfold RJ;rw[List.length_append,List.length_singleton,gI]
 congr 1
 . refine j5 λi hi=>?_;rw[tu,tu,List.getElem?_append_left hi]
 . simp
theorem JZ{R:aS}{q:Rat}{ws:List Bool}(hw:ws.length=R.asks.length)(t:Nat):((RJ R q ws t:Int):Rat)=fQ R.n R.asks (iZ R.asks ws) t*(bP R q:Rat):=by
 have hp:(iZ R.asks ws).length=R.asks.length:=by simp[iZ,hw]
 have key:∀k,k<=R.asks.length->((gI k (λi=>if Ry R i t == ws.getD i false then wI R q i else 0):Int):Rat)=fQ R.n (R.asks.take k) ((iZ R.asks ws).take k) t*(bP R q:Rat):=by
  intro k
  induction k with
  |zero=>intro _;simp[gI,fQ,vf]
  | succ k ih =>
   intro hk;have h1:k<R.asks.length:=by omega
   have h2:k<(iZ R.asks ws).length:=by omega
   rw[BB h1 h2,gI,Rat.intCast_add,ih xL,Rat.add_mul]
   congr 1
   have e1:(iZ R.asks ws)[k]=if ws[k]'(by omega)then R.asks[k].size else 0:=by simp[iZ]
   have e2:ws.getD k false=ws[k]'(by omega):=by rw[tu,gV xL];rfl
   have wc:=Ms (R:=R) (q:=q) h1;rw[fV h1]at wc;unfold yv Ry;rw[e1,e2,fV h1];cases kx R.n R.asks[k] t<;>cases ws[k]'(by omega)<;>simp[wc]<;>grind
 have:=key R.asks.length (Uu _);rw[List.take_of_length_le (Uu _),List.take_of_length_le xL]at this;unfold RJ;rw[hw];exact this
theorem oy{R:aS}(hR:R.Ok){w:mf}{ws:List Bool}(hw:ws.length=R.asks.length){t:Nat}(ht:t<R.n):eG w.strict (RJ R w.top ws t) (RG R w.top t)=mP w (bD R (iZ R.asks ws) t):=by
 obtain⟨r1,r2⟩:=ib hR ht;have u0:0<bP R w.top:=by have:=DM R w.top;unfold bP;omega
 have uq:(0:Rat)<(bP R w.top:Rat):=Rat.natCast_pos.mpr u0;have e1:=JZ (q:=w.top) hw t;have e2:=Mt (q:=w.top) ht;unfold eG mP bD;have i1:RG R w.top t<RJ R w.top ws t↔w.top<fQ R.n R.asks (iZ R.asks ws) t / R.room t:=by rw[<- Rat.intCast_lt_intCast,e1,e2,Rat.lt_div_iff r1];exact⟨λh=>(Rat.mul_lt_mul_right uq).mp h,λh=>(Rat.mul_lt_mul_right uq).mpr h⟩
 have i2:RJ R w.top ws t=RG R w.top t↔fQ R.n R.asks (iZ R.asks ws) t / R.room t=w.top:=by
  rw[<- Rat.intCast_inj,e1,e2];have r0:R.room t≠0:=by grind
  have un:(bP R w.top:Rat)≠0:=by grind
  constructor
  .
   intro h;have:fQ R.n R.asks (iZ R.asks ws) t=w.top*R.room t:=by grind
   rw[this,Rat.mul_div_cancel r0]
  .
   intro h;have:fQ R.n R.asks (iZ R.asks ws) t=w.top*R.room t:=by rw[<- h,Rat.div_mul_cancel r0]
   rw[this]
 rw[decide_eq_decide.mpr i1,decide_eq_decide.mpr i2]
inductive Tr where
 |turned
 |cut (c:Nat×Nat)
 |split (k:Nat) (a b:Tr)
noncomputable def RK:Tr->D
 |.turned=>.tup [.str "turned"]
 |.cut c=>.tup [.str "cut",.int (c.1:Int),.int (c.2:Int)]
 |.split k a b=>.tup [.str "split",.int (k:Int),RK a,RK b]
noncomputable def RL(R:aS)(fixed:List (Option Bool))(c:Nat×Nat)(i:Nat):Int:=match fixed.getD i none with
 |none=>if apart c (cK R i).one (cK R i).other then 1 else 0
 |some b=>(if Ry R i c.1 == b then 1 else 0)+if Ry R i c.2 == b then 1 else 0
noncomputable def zm(R:aS)(q:Rat)(fixed:List (Option Bool))(c:Nat×Nat):Int:=gI R.asks.length λi=>wI R q i*RL R fixed c i
def Tr.Ok(R:aS)(w:mf):List (Option Bool)->Tr->Prop
 |fixed,.turned=>w.most<(ff w.elder fixed).length
 |fixed,.cut c=>vg R.n c/\eG w.strict (zm R w.top fixed c) (RG R w.top c.1+RG R w.top c.2)=true
 |fixed,.split k a b=>k<fixed.length/\fixed.getD k none=none/\Tr.Ok R w (fixed.set k (some true)) a/\Tr.Ok R w (fixed.set k (some false)) b
def gN(R:aS)(w:mf)(ws:List Bool):Prop:=(∀t,t<R.n->mP w (bD R (iZ R.asks ws) t)=false)/\(ff w.elder (ws.map some)).length<=w.most
def KI(fixed:List (Option Bool))(ws:List Bool):Prop:=ws.length=fixed.length/\∀i b,fixed.getD i none=some b->ws.getD i false=b
theorem DY{el fixed:List (Option Bool)}{ws:List Bool}(h:KI fixed ws):(ff el fixed).length<=(ff el (ws.map some)).length:=by
 unfold ff;rw[Up,Up];obtain⟨hl,hc⟩:=h
 have:∀(n:Nat)(el fixed:List (Option Bool))(ws:List Bool),ws.length=fixed.length->(∀i b,fixed.getD i none=some b->ws.getD i false=b)->((el.zip fixed).zipIdx n |>.filter λx=>cw x.1).length<=((el.zip (ws.map some)).zipIdx n |>.filter λx=>cw x.1).length:=by
  intro n el
  induction el generalizing n with
  |nil=>intro fixed ws _ _;simp
  | cons e el ih =>
   intro fixed ws hl hc
   match fixed,ws,hl with
   |[],[],_=>simp
   | f::fixed,b::ws,hl =>
    have i1:=ih (n+1) fixed ws (by simpa using hl) λi b' hb=>by have:=hc (i+1) b' (by simpa using hb);simpa using this
    rw[List.map_cons,List.zip_cons_cons,List.zip_cons_cons,List.zipIdx_cons,List.zipIdx_cons,List.filter_cons,List.filter_cons]
    have imp:cw (e,f)=true->cw (e,some b)=true:=λh=>by
     cases f with
     |none=>cases e<;>simp[cw]at h
     | some g =>
      have:=hc 0 g rfl;have:b=g:=by simpa using this
      subst this;exact h
    cases h1:cw (e,f)<;>cases h2:cw (e,some b)
    . simpa[h1,h2]using i1
    . simp[h1,h2];omega
    . rw[imp h1]at h2;cases h2
    . simpa[h1,h2]using i1
 exact this 0 el fixed ws hl hc
theorem J0{R:aS}(hR:R.Ok){q:Rat}{fixed:List (Option Bool)}{ws:List Bool}(hf:fixed.length=R.asks.length)(h:KI fixed ws){c:Nat×Nat}(hc:vg R.n c):zm R q fixed c<=RJ R q ws c.1+RJ R q ws c.2:=by
 unfold RJ zm;rw[h.1,hf,<- AV];refine JY λi hi=>?_;have ha:=qz hR hi;have hz:=GN hR q i hi;have ap:=DJ ha hc;unfold RL
 cases e:fixed.getD i none with
 | none =>
  dsimp only;rw[ap];unfold Ry;cases kx R.n (cK R i) c.1<;>cases kx R.n (cK R i) c.2<;>cases ws.getD i false<;>simp<;>omega
 | some b =>
  dsimp only;rw[h.2 i b e];unfold Ry;cases kx R.n (cK R i) c.1<;>cases kx R.n (cK R i) c.2<;>cases b<;>simp<;>omega
theorem GV{fixed:List (Option Bool)}{ws:List Bool}(h:KI fixed ws){k:Nat}(hk:k<fixed.length):KI (fixed.set k (some (ws.getD k false))) ws:=by
 refine⟨by simpa using h.1,λi b e=>?_⟩;rw[tu,List.getElem?_set]at e;split at e
 . rename_i hki;subst hki;simp[hk]at e;rw[<- e,tu]
 . exact h.2 i b (by rw[tu];exact e)
theorem GW{st:Bool}{x y a b:Int}(h:eG st (x+y) (a+b)=true)(h1:eG st x a=false)(h2:eG st y b=false):False:=by
 unfold eG at h h1 h2;simp only[Bool.or_eq_false_iff,Bool.or_eq_true,decide_eq_false_iff_not,decide_eq_true_eq,Bool.and_eq_true,Bool.and_eq_false_iff]at h h1 h2;cases st
 . simp at h h1 h2;omega
 . simp at h h1 h2;omega
theorem J1{st:Bool}{x y a:Int}(h:eG st x a=true)(hl:x<=y):eG st y a=true:=by
 unfold eG at h ⊢;simp only[Bool.or_eq_true,decide_eq_true_eq,Bool.and_eq_true]at h ⊢;rcases h with h|⟨h1,h2⟩
 . left;omega
 .
  by_cases e:a<y
  . exact .inl e
  . exact .inr ⟨h1,xL⟩
theorem rA{R:aS}(hR:R.Ok){w:mf}:∀(T:Tr)(fixed:List (Option Bool))(ws:List Bool),fixed.length=R.asks.length->T.Ok R w fixed->KI fixed ws->¬gN R w ws
 | .turned,fixed,ws,hf,ht,hc,hk=>by have:=DY (el:=w.elder) hc;have h1:w.most<(ff w.elder fixed).length:=ht;have:=hk.2;omega
 | .cut c,fixed,ws,hf,ht,hc,hk=>by
  obtain⟨ic,hm⟩:=ht;have hw:ws.length=R.asks.length:=by rw[hc.1,hf]
  have h1:=hk.1 c.1 (by have:=ic.1;have:=ic.2;omega);have h2:=hk.1 c.2 ic.2;rw[<- oy hR hw (by have:=ic.1;have:=ic.2;omega)]at h1;rw[<- oy hR hw ic.2]at h2;exact GW (J1 hm (J0 hR hf hc ic)) h1 h2
 | .split k a b,fixed,ws,hf,ht,hc,hk=>by
  obtain⟨h1,h2,h3,h4⟩:=ht;have cs:=GV hc h1;cases e:ws.getD k false
  . rw[e]at cs;exact rA hR b _ ws (by simpa using hf) h4 cs hk
  . rw[e]at cs;exact rA hR a _ ws (by simpa using hf) h3 cs hk
end My
set_option exponentiation.threshold 5000
namespace My
open PySem L2
noncomputable def Tr.kind:Tr->Nat
 |.turned=>0
 |.cut _=>1
 |.split _ _ _=>2
noncomputable def Tr.size:Tr->Nat
 |.turned=>1
 |.cut _=>1
 |.split _ a b=>a.size+b.size+1
theorem Tr.size_pos(T:Tr):0<T.size:=by cases T<;>simp[Tr.size]
noncomputable def iY(n:Nat)(ws:List Bool):List (Option Bool):=ws.map some++List.replicate (n-ws.length) none
theorem vm{n:Nat}{ws:List Bool}(h:ws.length<=n):(iY n ws).length=n:=by simp[iY];omega
theorem vn{n:Nat}{ws:List Bool}{i:Nat}:(iY n ws).getD i none=if h:i<ws.length then some ws[i]else none:=by
 unfold iY;rw[tu];split
 . rename_i h;rw[List.getElem?_append_left (by simpa using h),List.getElem?_map,gV h];rfl
 . rename_i h;rw[List.getElem?_append_right (by simp;omega),List.getElem?_replicate];split<;>rfl
theorem AW{n:Nat}{ws:List Bool}(h:ws.length<n)(b:Bool):(iY n ws).set ws.length (some b)=iY n (ws++[b]):=by
 unfold iY;rw[List.set_append_right _ _ x_,Up,Nat.sub_self,List.map_append,List.append_assoc]
 congr 1
 obtain⟨m,hm⟩:∃m,n-ws.length=m+1:=⟨n-ws.length-1,xL⟩;rw[hm,List.replicate_succ,List.set_cons_zero,List.length_append,List.length_singleton,show n-(ws.length+1)=m by omega];rfl
theorem DZ(el:List (Option Bool))(n:Nat)(ws:List Bool):(ff el (iY n ws)).length=(ff el (ws.map some)).length:=by
 unfold ff iY;rw[Up,Up];generalize n-ws.length=m;clear n
 have:∀(j:Nat)(el:List (Option Bool))(ws:List Bool),((el.zip (ws.map some++List.replicate m none)).zipIdx j |>.filter λx=>cw x.1).length=((el.zip (ws.map some)).zipIdx j |>.filter λx=>cw x.1).length:=by
  intro j el
  induction el generalizing j with
  |nil=>intro ws;simp
  | cons e el ih =>
   intro ws
   cases ws with
   | nil =>
    rw[List.map_nil,List.nil_append,List.zip_nil_right]
    have z:∀(j m:Nat)(el:List (Option Bool)),((el.zip (List.replicate m none)).zipIdx j |>.filter λx=>cw x.1)=[]:=by
     intro j m el;refine List.filter_eq_nil_iff.mpr λx hx=>?_;have h1:=(List.mem_zipIdx hx).2.2;have h2:x.1∈el.zip (List.replicate m none):=by rw[h1];exact List.getElem_mem _
     obtain⟨_,h3⟩:=List.of_mem_zip (a:=x.1.1) (b:=x.1.2) h2;have h4:=List.eq_of_mem_replicate h3;unfold cw;rw[h4];cases x.1.1<;>simp
    rw[z];rfl
   | cons b ws =>
    rw[List.map_cons,List.cons_append,List.zip_cons_cons,List.zip_cons_cons,List.zipIdx_cons,List.zipIdx_cons,List.filter_cons,List.filter_cons];have i1:=ih (j+1) ws;cases cw (e,some b)
    . simpa using i1
    . simpa using i1
 exact this 0 el ws
noncomputable def gA(R:aS)(q:Rat)(c:Nat×Nat)(i:Nat):Int:=if apart c (cK R i).one (cK R i).other then wI R q i else 0
noncomputable def vo(R:aS)(q:Rat)(k:Nat)(c:Nat×Nat):Int:=RG R q c.1+RG R q c.2-(gI R.asks.length (gA R q c)-gI k (gA R q c))
theorem GX{R:aS}{q:Rat}{k:Nat}(c:Nat×Nat):vo R q (k+1) c-gA R q c k=vo R q k c:=by unfold vo;rw[gI];omega
theorem D0{R:aS}{q:Rat}{ws:List Bool}(hw:ws.length<=R.asks.length)(c:Nat×Nat):zm R q (iY R.asks.length ws) c=RJ R q ws c.1+RJ R q ws c.2+(gI R.asks.length (gA R q c)-gI ws.length (gA R q c)):=by
 unfold zm RJ;rw[xD hw,<- AV]
 have e1:gI ws.length (λi=>wI R q i*RL R (iY R.asks.length ws) c i)=gI ws.length λi=>(if Ry R i c.1 == ws.getD i false then wI R q i else 0)+if Ry R i c.2 == ws.getD i false then wI R q i else 0:=j5 λi hi=>by
  have e2:ws.getD i false=ws[i]:=by rw[tu,gV hi];rfl
  unfold RL;rw[vn,dif_pos hi,e2];dsimp only;cases Ry R i c.1<;>cases Ry R i c.2<;>cases ws[i]<;>simp<;>omega
 have e3:=xD hw (gA R q c)
 have e4:gI R.asks.length (λi=>if i<ws.length then 0 else wI R q i*RL R (iY R.asks.length ws) c i)=gI R.asks.length λi=>if i<ws.length then 0 else gA R q c i:=j5 λi hi=>by
  by_cases h:i<ws.length
  . rw[if_pos h,if_pos h]
  . rw[if_neg h,if_neg h];unfold RL gA;rw[vn,dif_neg h];dsimp only;split<;>simp
 rw[e1,e4];omega
theorem BF(st:Bool)(x y d:Int):eG st x (y-d)=eG st (x+d) y:=by
 unfold eG;have e1:decide (y-d<x)=decide (y<x+d):=by rw[decide_eq_decide];omega
 have e2:decide (x=y-d)=decide (x+d=y):=by rw[decide_eq_decide];omega
 rw[e1,e2]
theorem D1{R:aS}{w:mf}{ws:List Bool}(hw:ws.length<=R.asks.length)(c:Nat×Nat):eG w.strict (RJ R w.top ws c.1+RJ R w.top ws c.2) (vo R w.top ws.length c)=eG w.strict (zm R w.top (iY R.asks.length ws) c) (RG R w.top c.1+RG R w.top c.2):=by rw[D0 hw];unfold vo;exact BF _ _ _ _
noncomputable def BG(R:aS)(q:Rat)(k:Nat):D:=.lst ((p9 R.n).map λc=>D.tup [je c,.int (vo R q k c)])
noncomputable def vp(R:aS)(q:Rat):List D:=(List.range (R.asks.length+1)).map λj=>BG R q (R.asks.length-j)
def Mz(R:aS)(w:mf)(ws:List Bool):Prop:=(∀c,vg R.n c->eG w.strict (RJ R w.top ws c.1+RJ R w.top ws c.2) (vo R w.top ws.length c)=false)/\(ff w.elder (ws.map some)).length<=w.most
theorem BH{R:aS}(hR:R.Ok){w:mf}{ws:List Bool}(hw:ws.length=R.asks.length)(h:Mz R w ws):gN R w ws:=by
 refine⟨λt ht=>?_,h.2⟩;rw[<- oy hR hw ht];have h1:=h.1 (t,t) ⟨Uu _,ht⟩;unfold vo at h1;rw[hw,Int.sub_self,Int.sub_zero]at h1;unfold eG at h1 ⊢;simp only[Bool.or_eq_false_iff,decide_eq_false_iff_not,Bool.and_eq_false_iff]at h1 ⊢;refine⟨xL,?_⟩;rcases h1.2 with h2|h2
 . exact .inl h2
 . exact .inr xL
theorem AN{n:Nat}(h:n<=12):(p9 n).length<=144:=by
 unfold p9;rw[List.length_flatMap]
 have:∀(l:List Nat),(l.map λg=>((List.range (n-g)).map λi=>(g,g+i)).length).sum<=l.length*12:=by
  intro l
  induction l with
  |nil=>simp
  | cons a l ih =>
   rw[List.map_cons,List.sum_cons,List.length_cons,Nat.succ_mul];simp only[Up,List.length_range]at ih ⊢;omega
 have h1:=this (List.range n);rw[List.length_range]at h1;omega
end My
set_option exponentiation.threshold 5000
namespace My
open PySem L2
noncomputable def B4(n:Nat)(f:Nat->Rat):Rat:=(List.range n).foldl (λb t=>if b<f t then f t else b) 0
theorem rC(n:Nat)(f:Nat->Rat):B4 (n+1) f=if B4 n f<f n then f n else B4 n f:=by unfold B4;rw[List.range_succ,List.foldl_append];rfl
theorem D2{f:Nat->Rat}:∀{n t:Nat},t<n->f t<=B4 n f
 | n+1,t,h=>by
  rw[rC];rcases Nat.lt_or_ge t n with g|g
  . have:=D2 (f:=f) g;split<;>grind
  .
   have:t=n:=by omega
   subst this;split<;>grind
theorem D3{f:Nat->Rat}:∀{n:Nat},B4 n f=0∨∃t,t<n/\B4 n f=f t
 |0=>.inl rfl
 | n+1=>by
  rw[rC];split
  . exact .inr ⟨n,xL,rfl⟩
  .
   rcases D3 (f:=f) (n:=n)with h|⟨t,ht,h⟩
   . exact .inl h
   . exact .inr ⟨t,xL,h⟩
theorem GY{n:Nat}(hn:0<n){f:Nat->Rat}(h0:∀t,t<n->0<=f t):B4 n f=f (Fd n f):=by
 obtain⟨i1,i2⟩:=zb hn f;have h1:=D2 (f:=f) i1
 have h2:B4 n f<=f (Fd n f):=by
  rcases D3 (f:=f) (n:=n)with h|⟨t,ht,h⟩
  . rw[h];exact h0 _ i1
  . rw[h];exact i2 t ht
 exact Rat.le_antisymm h2 h1
theorem BI{a b c d:Int}(hb:0<b)(hd:0<d):Rat.divInt a b<Rat.divInt c d↔a*d<c*b:=by
 rw[mO hb];obtain⟨m,hm,e1,e2⟩:=pk c hd;generalize Rat.divInt c d=p at e1 e2;rw[e1,e2];have q1:a*((p.den:Int)*m)=a*(p.den:Int)*m:=by rw[Int.mul_assoc]
 have q2:p.num*m*b=p.num*b*m:=by rw[Int.mul_assoc,Int.mul_comm m,<- Int.mul_assoc]
 rw[q1,q2];constructor
 . exact λh=>Int.mul_lt_mul_of_pos_right h hm
 . exact λh=>Int.lt_of_mul_lt_mul_right h (Int.le_of_lt hm)
theorem zp{r:Rat}(hr:0<r):0<r.num:=by have h1:=Rat.num_nonneg.mpr (Rat.le_of_lt hr);have h2:=xk (q:=r) (by grind);omega
theorem zq{f:Int}{b:Nat}{r:Rat}(hb:0<b)(hr:0<r):(f:Rat) / (b:Rat) / r=Rat.divInt (f*(r.den:Int)) ((b:Int)*r.num):=by
 rw[Rat.divInt_eq_div,Rat.intCast_mul,Rat.intCast_mul,xl r];have h1:((b:Nat):Rat)≠0:=λz=>by have:=Rat.natCast_pos.mpr hb;grind
 have h2:((r.den:Nat):Rat)≠0:=λz=>by have:=Rat.natCast_pos.mpr r.den_pos;grind
 have e1:(((r.den:Nat):Int):Rat)=((r.den:Nat):Rat):=rfl;have e2:(((b:Nat):Int):Rat)=((b:Nat):Rat):=rfl;rw[e1,e2];have h3:r≠0:=by grind
 grind
noncomputable def RM(R:aS):List Rat:=R.asks.map (·.size)
noncomputable def Fe(R:aS):List Int:=(RM R).map (eF (RE (RM R)))
noncomputable def B5(R:aS):D:=.lst (R.asks.map λa=>D.lst ((Rw R.n a.one a.other).map λ(t:Nat)=>D.int (t:Int)))
noncomputable def xE(R:aS):D:=.tup [.lst ((Fe R).map .int),.int (RE (RM R):Int)]
theorem D4{R:aS}(hR:R.Ok)(hT:∀a∈R.asks,RB 60 a.size):0<RE (RM R)/\RE (RM R)<=2^1200 :=
 mQ (by unfold RM;rw[Up];exact hR.few) λq hq=>by obtain⟨a,ha,rfl⟩:=List.mem_map.mp hq;exact hT a ha
theorem D5(n t:Nat):∀(as:List Ru)(zs:List Int)(ws:List Bool),(∀z∈zs,0<=z)->0<=ig n as zs ws t
 |[],zs,ws,h=>by simp[ig]
 |a::as,[],ws,h=>by simp[ig]
 |a::as,z::zs,[],h=>by simp[ig]
 | a::as,z::zs,w::ws,h=>by have h1:=D5 n t as zs ws λy hy=>h y (k5 _ hy);have h2:=h z tv;unfold ig at h1 ⊢;rw[List.zip_cons_cons,List.zip_cons_cons,List.map_cons,List.sum_cons];dsimp only;split<;>omega
theorem MA{R:aS}(hR:R.Ok):∀z∈Fe R,0<=z:=λz hz=>by obtain⟨q,hq,rfl⟩:=List.mem_map.mp hz;obtain⟨a,ha,rfl⟩:=List.mem_map.mp hq;have h0:=Rat.num_nonneg.mpr (hR.ask a ha).size;unfold eF;exact Int.mul_nonneg h0 (Int.natCast_nonneg _)
noncomputable abbrev wq(R:aS)(ws:List Bool):Nat->Rat:=bD R (iZ R.asks ws)
theorem rD{R:aS}(hR:R.Ok)(hT:∀a∈R.asks,RB 60 a.size){ws:List Bool}(hl:ws.length=R.asks.length)(t:Nat):wq R ws t=((ig R.n R.asks (Fe R) ws t:Int):Rat) / ((RE (RM R):Nat):Rat) / R.room t:=GU hR hT hl t
theorem J2{R:aS}(hR:R.Ok)(hT:∀a∈R.asks,RB 60 a.size){ws:List Bool}(hl:ws.length=R.asks.length){t:Nat}(ht:t<R.n):0<=wq R ws t:=by obtain⟨c0,c1⟩:=D4 hR hT;obtain⟨r1,r2⟩:=ib hR ht;rw[rD hR hT hl,zq c0 r1];exact Rat.divInt_nonneg (Int.mul_nonneg (D5 _ _ _ _ _ (MA hR)) xL) (Int.mul_nonneg xL (Int.le_of_lt (zp r1)))
theorem J3{R:aS}(hR:R.Ok)(hT:∀a∈R.asks,RB 60 a.size){ws:List Bool}(hl:ws.length=R.asks.length){t:Nat}(ht:t<R.n):RB 1325 (wq R ws t):=by
 obtain⟨c0,c1⟩:=D4 hR hT;obtain⟨r1,r2⟩:=ib hR ht;rw[rD hR hT hl,zq c0 r1];have n1:=zp r1;refine RB.of_divInt (by have:=Int.mul_pos (show(0:Int)<(RE (RM R):Int) by omega) n1;omega) ?_ ?_
 .
  rw[Int.natAbs_mul];have d1:((R.room t).den:Int).natAbs<2^60:=by simpa using r2.2
  exact ba (m:=1265) (n:=60) (mR hR hT ws t) d1
 . rw[Int.natAbs_mul,Int.natAbs_natCast];refine so (ba (m:=1201) (n:=60) (Uv c1 (Nat.pow_lt_pow_right xp xp)) r2.1) (Us xp xp)
noncomputable def eB(R:aS)(ws:List Bool):Rat:=wq R ws (Fd R.n (wq R ws))
theorem J4{R:aS}(hR:R.Ok)(ws:List Bool){t:Nat}(ht:t<R.n):wq R ws t<=eB R ws:=(zb (by have:=hR.lo;omega) (wq R ws)).2 t ht
theorem zr{R:aS}(hR:R.Ok)(ws:List Bool):Fd R.n (wq R ws)<R.n:=(zb (by have:=hR.lo;omega) (wq R ws)).1
theorem oz{R:aS}(hR:R.Ok)(hT:∀a∈R.asks,RB 60 a.size){ws:List Bool}(hl:ws.length=R.asks.length):RB 1325 (eB R ws):=J3 hR hT hl (zr hR ws)
theorem HR{R:aS}(hR:R.Ok)(hT:∀a∈R.asks,RB 60 a.size){ws:List Bool}(hl:ws.length=R.asks.length):B4 R.n (wq R ws)=eB R ws:=GY (by have:=hR.lo;omega) λt ht=>J2 hR hT hl ht
theorem rE{w:mf}(h:w.strict=true){x:Rat}:mP w x=false↔x<w.top:=by
 unfold mP;rw[h];simp only[Bool.true_and,Bool.or_eq_false_iff,decide_eq_false_iff_not];constructor<;>intro g
 . grind
 . constructor<;>grind
theorem BJ{R:aS}(hR:R.Ok){w:mf}(h:w.strict=true){ws:List Bool}(hk:gN R w ws):eB R ws<w.top:=(rE h).mp (hk.1 _ (zr hR ws))
theorem BK{R:aS}(hR:R.Ok){w:mf}(h:w.strict=true){ws:List Bool}(hk:eB R ws<w.top)(hm:(ff w.elder (ws.map some)).length<=w.most):gN R w ws :=
 ⟨λt ht=>(rE h).mpr (by have h1:=J4 hR ws ht;have e:wq R ws t=bD R (iZ R.asks ws) t:=rfl;rw[e]at h1;grind),hm⟩
noncomputable def qa:Nat->List (List Bool)
 |0=>[[]]
 |n+1=>(qa n).map (·++[true])++(qa n).map (·++[false])
theorem ij(n:Nat):(qa n).length=2^n:=by
 induction n with
 |zero=>rfl
 |succ n ih=>rw[qa,List.length_append,Up,Up,ih,Nat.pow_succ];omega
theorem di{n:Nat}{ws:List Bool}:ws∈qa n↔ws.length=n:=by
 induction n generalizing ws with
 |zero=>simp[qa]
 | succ n ih =>
  rw[qa,List.mem_append,List.mem_map,List.mem_map];constructor
  . rintro (⟨v,hv,rfl⟩|⟨v,hv,rfl⟩)<;>simp[ih.mp hv]
  .
   intro h;have hn:ws≠[]:=λz=>by rw[z]at h;simp at h
   have e:=List.dropLast_concat_getLast hn;have hd:ws.dropLast∈qa n:=ih.mpr (by rw[List.length_dropLast,h];rfl);cases eb:ws.getLast hn
   . exact .inr ⟨_,hd,by rw[eb]at e;exact e⟩
   . exact .inl ⟨_,hd,by rw[eb]at e;exact e⟩
end My
set_option exponentiation.threshold 5000
namespace My
open PySem L2
def RN(R:aS):Prop:=∀a∈R.asks,RB 61 a.size
theorem D6{as:List Ru}{ws:List Bool}{x:Ru×Rat}(h:x∈as.zip (iZ as ws)):x.1∈as/\(x.2=x.1.size∨x.2=0):=by
 obtain⟨k,hk,rfl⟩:=List.mem_iff_getElem.mp h;have h1:k<as.length:=by simp at hk;omega
 refine⟨x_,?_⟩;simp only[List.getElem_zip,iZ,List.getElem_map];split
 . exact .inl rfl
 . exact .inr rfl
theorem vq{n:Nat}{x:Ru×Rat}{b:Nat}(hs:RB b x.1.size)(hx:x.2=x.1.size∨x.2=0)(hb:1<=b)(t:Nat):RB b (yv n x.1 x.2 t):=by
 have z:RB b (0:Rat):=RB.zero.mono hb;unfold yv;rcases hx with h|h<;>rw[h]<;>split
 . exact hs
 . rw[Rat.sub_self];exact z
 . exact z
 . rw[show x.1.size-0=x.1.size by grind];exact hs
theorem GZ(as:List Ru)(ws:List Bool)(k:Nat):(iZ as ws).take k=iZ (as.take k) (ws.take k):=by unfold iZ;rw[<- List.map_take,List.zip,List.take_zipWith]
theorem AX{n:Nat}{as:List Ru}(ha:∀a∈as,RB 61 a.size)(hl:as.length<=20)(ws:List Bool)(t:Nat):RB 1241 (fQ n as (iZ as ws) t):=by
 refine(RB.sum (b:=61) _ λq hq=>?_).mono ?_
 . obtain⟨x,hx,rfl⟩:=List.mem_map.mp hq;obtain⟨h1,h2⟩:=D6 hx;exact vq (ha _ h1) h2 xp t
 .
  rw[Up,List.length_zip];have:min as.length (iZ as ws).length<=20:=by omega
  omega
theorem LB.ways{R:aS}(hR:R.Ok)(hT:RN R)(ws:List Bool):LB R (iZ R.asks ws):=by
 have few:=hR.few;refine⟨λp hp=>?_,λk t=>?_,λk h1 h2 t=>?_,λt=>.inl ?_⟩
 .
  obtain⟨x,hx,rfl⟩:=List.mem_map.mp hp;obtain⟨h1,_⟩:=List.of_mem_zip (a:=x.1) (b:=x.2) hx;split
  . exact(hT _ h1).mono xp
  . exact RB.zero.mono xp
 . rw[GZ];exact(AX (λa ha=>hT a (List.mem_of_mem_take ha)) (by rw[List.length_take];omega) _ t).mono xp
 . have hm:(R.asks[k],(iZ R.asks ws)[k])∈R.asks.zip (iZ R.asks ws):=List.mem_iff_getElem.mpr ⟨k,by rw[List.length_zip];omega,by rw[List.getElem_zip]⟩;obtain⟨g1,g2⟩:=D6 hm;exact(vq (x:=(R.asks[k],(iZ R.asks ws)[k])) (hT _ g1) g2 xp t).mono xp
 .
  refine Uv (za (b:=61) _ λq hq=>?_) (Nat.pow_lt_pow_right xp ?_)
  . obtain⟨x,hx,rfl⟩:=List.mem_map.mp hq;obtain⟨h1,h2⟩:=D6 hx;exact vq (hT _ h1) h2 xp t
  .
   rw[Up,List.length_zip];have:min R.asks.length (iZ R.asks ws).length<=20:=by omega
   omega
theorem J5{R:aS}(hR:R.Ok)(hT:RN R)(ws:List Bool):RB 1301 (eB R ws):=by have ht:=zr hR ws;obtain⟨r1,r2⟩:=ib hR ht;unfold eB wq bD;exact((AX hT hR.few ws _).div r2 (by grind)).mono xp
theorem G0{as:List Ru}{ws:List Bool}(h:ws.length=as.length):(iZ as ws).length=as.length:=by simp[iZ,h]
theorem rF{α:Type}{p q:α->Bool}:∀{l:List α},(∀a,p a=true->q a=true)->(∃a∈l,q a=true/\p a=false)->(l.filter p).length<(l.filter q).length
 |[],_,h=>by obtain⟨a,ha,_⟩:=h;cases ha
 | x::l,hpq,h=>by
  have le:(l.filter p).length<=(l.filter q).length:=by
   clear h
   induction l with
   |nil=>simp
   | cons y l ih =>
    rw[List.filter_cons,List.filter_cons];cases ep:p y
    .
     cases q y
     . simpa using ih
     . simp;omega
    . rw[hpq y ep];simpa using ih
  rw[List.filter_cons,List.filter_cons];cases ep:p x
  .
   cases eq:q x
   .
    have:=rF (l:=l) hpq (by
     obtain⟨a,ha,h1,h2⟩:=h;rcases Uq.mp ha with rfl|ha
     . rw[eq]at h1;cases h1
     .
      exact⟨a,ha,h1,h2⟩)
    simpa using this
   . simp;omega
  .
   rw[hpq x ep]
   have:=rF (l:=l) hpq (by
     obtain⟨a,ha,h1,h2⟩:=h;rcases Uq.mp ha with rfl|ha
     . rw[ep]at h2;cases h2
     .
      exact⟨a,ha,h1,h2⟩)
   simpa using this
noncomputable def J6(R:aS)(ws:List Bool):Nat:=((qa R.asks.length).filter λvs=>decide (eB R vs<eB R ws)).length
theorem J7{R:aS}{ws vs:List Bool}(hv:vs.length=R.asks.length)(h:eB R vs<eB R ws):J6 R vs<J6 R ws :=
 rF (λus h1=>by have:=of_decide_eq_true h1;exact decide_eq_true (by grind)) ⟨vs,di.mpr hv,decide_eq_true h,decide_eq_false (by grind)⟩
theorem D7(n:Nat)(ws:List (Option Bool)):(ff (List.replicate n none) ws).length=0:=by
 unfold ff;rw[Up,List.length_eq_zero_iff];refine List.filter_eq_nil_iff.mpr λx hx=>?_;have h1:=(List.mem_zipIdx hx).2.2;have h2:x.1∈(List.replicate n none).zip ws:=by rw[h1];exact List.getElem_mem _
 obtain⟨h3,_⟩:=List.of_mem_zip (a:=x.1.1) (b:=x.1.2) h2;have h4:=List.eq_of_mem_replicate h3;unfold cw;rw[h4];simp
noncomputable def j6(R:aS)(q:Rat):mf:=⟨q,true,List.replicate R.asks.length none,0⟩
def N3(R:aS)(ws:List Bool):Prop:=ws.length=R.asks.length/\∀vs:List Bool,vs.length=R.asks.length->eB R ws<=eB R vs
end My
set_option exponentiation.threshold 5000
namespace My
open PySem L2
noncomputable def Nj:Nat->Str
 |0=>"turned"
 |1=>"cut"
 |_=>"split"
noncomputable def Nk:Nat->Nat
 |0=>1
 |1=>3
 |_=>4
noncomputable def J8(R:aS)(o:Option Bool)(c:Nat×Nat)(i:Nat):Int:=match o with
 |none=>if apart c (cK R i).one (cK R i).other then 1 else 0
 |some b=>(if Ry R i c.1 == b then 1 else 0)+if Ry R i c.2 == b then 1 else 0
theorem MB(R:aS)(fixed:List (Option Bool))(c:Nat×Nat)(i:Nat):RL R fixed c i=J8 R (fixed.getD i none) c i:=rfl
theorem G1(R:aS)(o:Option Bool)(c:Nat×Nat)(i:Nat):(J8 R o c i).natAbs<2^60:=by
 unfold J8;split
 . split<;>decide
 . split<;>split<;>decide
theorem D8(n:Nat)(f:Nat->Int):((List.range n).map f).sum=gI n f:=by
 induction n with
 |zero=>rfl
 |succ n ih=>rw[List.range_succ,List.map_append,List.sum_append,ih,gI];simp
theorem MC{el:List (Option Bool)}{k:Nat}(h:k<el.length):Qp (el.map kA) (k:Int)=some (kA (el.getD k none)):=by
 rw[b7 h]
 congr 2
 rw[tu,gV h];rfl
structure KJ where
 tr:Tr
 fixed:List (Option Bool)
 ways:List Bool
noncomputable def vt(x:KJ):D:=.tup [RK x.tr,RI x.fixed,d9 x.ways]
noncomputable def qc(xs:List KJ):Nat:=(xs.map λx=>x.tr.size).sum
theorem D9(n:Nat)(f:Nat->Int):i9 (cF n f)=(List.range n).map λ(t:Nat)=>D.tup [.int (t:Int),.int (f t)]:=by unfold i9 cF;refine List.ext_getElem x_ λj h1 h2=>?_;simp
end My
set_option exponentiation.threshold 5000
namespace My
open PySem L2
noncomputable def KL(n:Nat):D->Bool
 |.tup [.int i,.int j]=>decide (0<=i/\i<=j/\j<(n:Int))
 |_=>false
theorem J9{n:Nat}{d:D}(h:∀i j,d≠.tup [.int i,.int j]):KL n d=false:=by
 unfold KL;split
 . exact absurd rfl (h _ _)
 . rfl
end My
set_option exponentiation.threshold 5000
namespace My
open PySem L2
structure N4 where
 k:Nat
 kw:Bool
 l:Nat
 lw:Bool
 am:Rat
noncomputable def RO(R:aS)(ps:List Rat)(k:Nat)(w:Bool):Rat:=if w then R.sz k-ps.getD k 0 else ps.getD k 0
noncomputable def RP(R:aS)(ps:List Rat)(k:Nat)(kw:Bool)(l:Nat)(lw:Bool):Rat:=if RO R ps l lw<RO R ps k kw then RO R ps l lw else RO R ps k kw
noncomputable def N5(n:Nat)(a:Ru)(aw:Bool)(b:Ru)(bw:Bool):Bool:=!((Ni n a aw).any λt=>decide (t∈Ni n b bw))
structure Py (R:aS) (ps:List Rat):Prop where
 ok:R.Ok
 len:ps.length=R.asks.length
 lo:∀k,k<ps.length->0<=ps.getD k 0/\ps.getD k 0<=R.sz k
 cd:∃D:Nat,0<D/\D<2^1500/\(∀a∈R.asks,a.size.den∣D)/\∀p∈ps,p.den∣D
end My
set_option exponentiation.threshold 5000
namespace My
open PySem L2
end My
set_option exponentiation.threshold 5000
namespace My
open PySem L2
noncomputable def QY(R:aS)(ps:List Rat)(s:N4):Bool:=!decide (s.k=s.l) && (N5 R.n (cK R s.k) s.kw (cK R s.l) s.lw && (decide (0<s.am) && !decide (RP R ps s.k s.kw s.l s.lw<s.am)))
end My
set_option exponentiation.threshold 5000
namespace My
open PySem L2
end My
set_option exponentiation.threshold 5000
namespace My
open PySem L2
noncomputable def OE:D->Bool
 |.str z=>decide (z=Str.ofString "on") ||decide (z=Str.ofString "back")
 |_=>false
theorem Ka(z:Str):Qz (.str z) [.str (Str.ofString "on"),.str (Str.ofString "back")]=OE (.str z):=by
 have e1:(Str.ofString "on" == z)=decide (z=Str.ofString "on"):=by rw[Bool.eq_iff_iff,beq_iff_eq,decide_eq_true_iff]; exact eq_comm
 have e2:(Str.ofString "back" == z)=decide (z=Str.ofString "back"):=by rw[Bool.eq_iff_iff,beq_iff_eq,decide_eq_true_iff]; exact eq_comm
 show(Str.ofString "on" == z ||(Str.ofString "back" == z ||false))=_;rw[e1,e2,Bool.or_false];rfl
theorem G2(w:Bool):OE (.str (fP w))=true:=by cases w<;>decide +kernel
structure Pt (n:Nat) (d:D):Prop where
 dep:sW d<=n
 wid:sX d<=99
 same:De (20+n) d=true
theorem Pt.int(i:Int):Pt 0 (.int i):=⟨by simp[sW],by simp[sX],by simp[De]⟩
end My
set_option exponentiation.threshold 5000
namespace My
open PySem L2
noncomputable def Pk:D->Option Nat
 |.int i=>if 0<=i then some i.toNat else none
 |_=>none
noncomputable def G3(d:D)(n:Int):Bool:=match d with
 |.int i=>decide (0<=i/\i<n)
 |_=>false
noncomputable def RQ:D->Bool
 |.tup _=>false
 |.lst _=>false
 |_=>true
mutual
noncomputable def Ff:D->Bool
 |.lst xs=>gH xs
 |.tup xs=>vv xs
 |_=>true
noncomputable def vv:List D->Bool
 |[]=>true
 |x::xs=>Ff x && vv xs
end
mutual
inductive Cp:L->D->Prop where
 |d {x:D} (h:RQ x=true):Cp (.d x) x
 |tup {ls:List L} {ds:List D} (h:RR ls ds):Cp (.bx none ls) (.tup ds)
 |lst {a:Addr} {xs:List D} (h:gH xs=true):Cp (.own a xs) (.lst xs)
inductive RR:List L->List D->Prop where
 |nil:RR [] []
 |cons {l:L} {d:D} {ls:List L} {ds:List D} (h:Cp l d) (t:RR ls ds):RR (l::ls) (d::ds)
end
mutual
theorem AY:∀{l:L}{x:D},Cp l x->∀{k:D->Prop},k x->QF l k
 |_,_,.d _,_,h=>h
 | _,_,.tup t,_,h=>by
  show Be none _ _
  rw[HE]
  exact Ea t h
 |_,_,.lst _,_,h=>h
theorem Ea:∀{ls:List L}{xs:List D},RR ls xs->∀{k:List D->Prop},k xs->EW ls k
 |_,_,.nil,_,h=>by rw[Aj];exact h
 | _,_,.cons c t,_,h=>by
  rw[wL]
  exact AY c (Ea t h)
end
theorem AZ{caps:Ev}{te:W L}{k:List L->Ev->Prop}:∀(xs:List D)(acc:List L)(l:L),
  (∀x∈xs,∀Q:Ev->L->Prop,(∀l,Cp l x->Q (.d x::caps) l)->te (.d x::caps) λr Z3=>Q Z3 r) ->
  (∀l' ls,RR ls xs->k (acc++ls) (l'::caps))->mH (aQ 0) bZ te xs (l::caps) acc k
 | [],acc,l,_,PZ=>by have:=PZ l [] .nil;rw[List.append_nil]at this;exact this
 | x::xs,acc,l,step,PZ=>by unfold mH;show te (.d x::caps) _;refine step x tv (λZ r=>mH (aQ 0) bZ te xs Z (acc++[r]) k) λl1 c1=>?_;refine AZ xs (acc++[l1]) _ (λy hy=>step y (k5 _ hy)) λl' ls cs=>?_;rw[List.append_assoc];exact PZ l' (l1::ls) (.cons c1 cs)
mutual
theorem Eb:∀d:D,noL d=true->Ff d=true
 |.lst xs,h=>by simp[noL]at h
 | .tup xs,h=>by
  simp only[Ff]
  exact A0 xs (by simpa only[noL]using h)
 |.non,_=>rfl
 |.bl _,_=>rfl
 |.int _,_=>rfl
 |.str _,_=>rfl
 |.dct _,_=>rfl
 |.exc _ _ _,_=>rfl
 |.fn _ _,_=>rfl
theorem A0:∀ds:List D,gH ds=true->vv ds=true
 |[],_=>rfl
 | d::ds,h=>by
  simp only[gH,Bool.and_eq_true]at h
  simp only[vv,Eb d h.1,A0 ds h.2,Bool.and_self]
end
theorem xF{x:D}:∀{xs:List D},vv xs=true->x∈xs->Ff x=true
 | _::_,h,hm=>by
  simp only[vv,Bool.and_eq_true]at h;rcases Uq.mp hm with rfl|hm
  . exact h.1
  . exact xF h.2 hm
theorem xG{x:D}:∀{xs:List D},gH xs=true->x∈xs->noL x=true
 | _::_,h,hm=>by
  simp only[gH,Bool.and_eq_true]at h;rcases Uq.mp hm with rfl|hm
  . exact h.1
  . exact xG h.2 hm
noncomputable def Nl(tag:Str):D->Bool
 |.str x=>QS (.str x) (.str tag)
 |_=>false
noncomputable def Ec(d:D)(tag:Str)(n:Nat):Bool:=match d with
 |.tup (x::r)=>decide ((x::r).length=n) && Nl tag x
 |_=>false
theorem Ed(xs:List D)(tag:Str)(n:Nat):Ec (.tup xs) tag n=(decide (xs.length=n) && (match xs with|x::_=>Nl tag x | []=>false)):=by
 cases xs with
 |nil=>simp[Ec]
 |cons x r=>rfl
def MD(d:D):Prop:=∀xs x,d=.tup xs->xs[0]?=some (.str x)->PyData.strOk x=true
structure HS (R:aS):Prop where
 ok:R.Ok
 hi:R.n<=12
 few:R.asks.length<=20
 nms:(∀a∈R.asks,Fc a.nm)/\(R.asks.map (·.nm)).Nodup
 tt:∀a∈R.asks,RB 60 a.size
theorem HS.all{R:aS}(h:HS R):∀a∈R.asks,rg R.rooms.length a/\Fc a.nm/\RB 60 a.size:=λa ha=>⟨h.ok.ask a ha,h.nms.1 a ha,h.tt a ha⟩
def RS(xs:List D):Prop:=∀x∈xs,x=.non∨∃w,x=.str (fP w)
theorem RS.ok{xs:List D}(h:RS xs):Q3 1 (.lst xs)=true:=by
 simp only[Q3]
 have:=mJ (f:=id) (n:=0) xs λx hx=>by
  rcases h x hx with rfl|⟨w,rfl⟩
  . rfl
  . cases w<;>decide +kernel
 rwa [List.map_id]at this
end My
set_option exponentiation.threshold 1000
namespace Hd
open PySem PySem.W PyProof.Rows
noncomputable abbrev pr:Program:=PySem.Challenge.pw_ringloads_k48_ways_for_a_wish
noncomputable def top(i:Nat):Stmt:=pr.main.body.getD i (.Pass ⟨0,0,0,0⟩)
noncomputable def G4(st:Stmt)(j:Nat):Stmt:=match st with
 |.ClassDef _ _ _ b ..=>b.getD j (.Pass ⟨0,0,0,0⟩)
 |_=>.Pass ⟨0,0,0,0⟩
noncomputable def Ee(s:Stmt):Str:=match s with
 |.FunctionDef n ..=>n
 |_=>""
noncomputable def ME(s:Stmt):Arguments:=match s with
 |.FunctionDef _ a _ _ _ _ _ _ _ _=>a
 |_=>{posonlyargs:=[],args:=[],vararg:=none,kwonlyargs:=[],kw_defaults:=[],kwarg:=none,defaults:=[] }
noncomputable def N6(s:Stmt):List Stmt:=match s with
 |.FunctionDef _ _ b _ _ _ _ _ _ _=>b
 |_=>[]
noncomputable def MF(s:Stmt):Scope:=match s with
 |.FunctionDef _ _ _ _ _ _ sc _ _ _=>sc
 |_=>{kind:=.function,names:=[],isGenerator:=false,isCoroutine:=false}
noncomputable def OF(s:Stmt):Pos:=match s with
 |.FunctionDef _ _ _ _ _ _ _ _ _ p=>p
 |_=>⟨0,0,0,0⟩
noncomputable def KM (st:Stmt) (q:Str) (g:Addr) (md cd:Value):FuncData:={ name:=Ee st,qualname:=q,params:=ME st,body:=.stmts (N6 st),scope:=MF st,globals:=g,closure:=[],defaults:=.none,kwdefaults:=.none,doc:=.none,pyModule:=md,annotations:=none,code:=cd,closureTuple:=.none,builtins:=0 }
noncomputable def kh(P:Params)(x:Str):Int:=PySem.PyData.keyHash P x
noncomputable def MG(vs:List Value):Obj:=⟨.type "tuple",none,.seq vs.toArray 0,#[]⟩
noncomputable def A1(vs:List Value):Obj:=⟨.none,none,.fields vs.toArray,#[]⟩
noncomputable def OG:Nat->List Str->List Value
 |_,[]=>[]
 |t,x::r=>.str x t::OG (t+1) r
noncomputable def MH(st:Stmt)(a t:Nat)(v1 v2:Value)(tm u:Nat):Obj:=⟨.type "code",none,.fields #[.str (Ee st) t,.str (Ee st) (t+1),.str "/claim/cut.py" (t+2),.int (OF st).line 0,.int (ME st).args.length 0,.int 0 0,.int 0 0,.int 3 0,.ref a,.bool true,.int 181 0,.ref (a+1),.none,v1,v2,.ref tm,.int u 0,.int (OF st).line 0,.str "/claim/cut.py" (u+1)],#[]⟩
noncomputable def RT(st:Stmt)(md:Value)(cd:Nat):Obj:=⟨.type "function",none,.func (KM st (Ee st) 3 md (.ref cd)),#[]⟩
noncomputable def RU(st:Stmt):Obj:=⟨.none,none,.func (KM st (Ee st) 0 .none .none),#[]⟩
noncomputable def bQ(st:Stmt)(a t:Nat)(vs:List Str)(md:Value):List Obj:=[MG [],A1 [],MG (OG (t+3) vs),MG [],RU st,MH st a t (.ref (a+2)) (.ref (a+3)) (a+4) (t+3+vs.length),RT st md (a+5)]
noncomputable def eH(st:Stmt)(a t:Nat)(md:Value):List Obj:=[MG [],A1 [],RU st,MH st a t .none .none (a+2) (t+3),RT st md (a+3)]
noncomputable def tF (P:Params) (nm:Value) (es:List DictEntry) (n:Nat):Obj:=⟨.type "dict",none,.dict (([⟨kh P "__name__",.str "__name__" 165,nm⟩,⟨kh P "__doc__",.str "__doc__" 166,.none⟩,⟨kh P "__package__",.str "__package__" 167,.none⟩,⟨kh P "__loader__",.str "__loader__" 168,.builtin "__main__.__loader__#opaque"⟩,⟨kh P "__spec__",.str "__spec__" 169,.none⟩,⟨kh P "__annotations__",.str "__annotations__" 170,.ref 6⟩,⟨kh P "__builtins__",.str "__builtins__" 171,.ref 4⟩,⟨kh P "__file__",.str "__file__" 173,.str "/claim/cut.py" 172⟩,⟨kh P "__cached__",.str "__cached__" 174,.none⟩]:List DictEntry)++es).toArray n,#[]⟩
noncomputable def Pl:Obj:=⟨.type "code",none,.fields #[.str "<module>" 182,.str "<module>" 183,.str "/claim/cut.py" 184,.int 1 0,.int 0 0,.int 0 0,.int 0 0,.int 0 0,.ref 11,.bool false,.int 181 0,.ref 12,.none,.none,.none,.none,.int 185 0,.int 1 0,.str "/claim/cut.py" 186],#[]⟩
noncomputable def Pn:Obj:=⟨.type "frame",none,.plain,#[some (.ref 13),some (.ref 3),some (.ref 3),none,some (.str "__main__" 164),none,some (.ref 0)]⟩
noncomputable def Kb(P:Params):List Obj:=[boot_o_0 P,boot_o_1 P,boot_o_2 P,boot_o_3 P,boot_o_4 P,boot_o_5 P,boot_o_6 P,boot_o_7 P,boot_o_8 P,boot_o_9 P,boot_o_10 P,MG [],A1 [],Pl,Pn]
noncomputable def mS:Life:=⟨[],[],[],0,[],[],false,#[],[],0,false,false,false,0,[2000,10,10],false,0,true,[],[],0,false⟩
noncomputable def N7(l:List (Nat×Obj))(b:Nat):Option Obj:=@List.rec (Nat×Obj) (λ_=>Option Obj) none (λx _ ih=>bif Nat.beq x.1 b then some x.2 else ih) l
noncomputable def MI(P:Params)(ob:Params->Nat->Obj)(b:Nat):Obj:=bif b.blt 15 then(Kb P).getD b default else ob P b
noncomputable def Po(l:List Nat)(b:Nat):Bool:=@List.rec Nat (λ_=>Bool) false (λx _ ih=>@Bool.rec (λ_=>Bool) ih true (Nat.beq x b)) l
noncomputable def Ef(ks:List Nat)(P:Params)(ov:List (Nat×Obj))(ob:Params->Nat->Obj)(b j:Nat):Obj:=@Bool.rec (λ_=>Obj) (MI P ob b) ((N7 ov b).getD default) (Po ks b)
noncomputable def L0(n:Nat)(f:Nat->Obj)(a b j:Nat):BT:=.nil
noncomputable def L1(n:Nat)(f:Nat->Obj)(a b j:Nat):BT:=@Bool.rec (λ_=>BT) .nil (.node (f b) (L0 n f (2*a) (a+b) j) (L0 n f (2*a) (2*a+b) j)) (b.blt n)
noncomputable def L2(n:Nat)(f:Nat->Obj)(a b j:Nat):BT:=@Bool.rec (λ_=>BT) .nil (.node (f b) (L1 n f (2*a) (a+b) j) (L1 n f (2*a) (2*a+b) j)) (b.blt n)
noncomputable def L3(n:Nat)(f:Nat->Obj)(a b j:Nat):BT:=@Bool.rec (λ_=>BT) .nil (.node (f b) (L2 n f (2*a) (a+b) j) (L2 n f (2*a) (2*a+b) j)) (b.blt n)
noncomputable def L4(n:Nat)(f:Nat->Obj)(a b j:Nat):BT:=@Bool.rec (λ_=>BT) .nil (.node (f b) (L3 n f (2*a) (a+b) j) (L3 n f (2*a) (2*a+b) j)) (b.blt n)
noncomputable def L5(n:Nat)(f:Nat->Obj)(a b j:Nat):BT:=@Bool.rec (λ_=>BT) .nil (.node (f b) (L4 n f (2*a) (a+b) j) (L4 n f (2*a) (2*a+b) j)) (b.blt n)
noncomputable def L6(n:Nat)(f:Nat->Obj)(a b j:Nat):BT:=@Bool.rec (λ_=>BT) .nil (.node (f b) (L5 n f (2*a) (a+b) j) (L5 n f (2*a) (2*a+b) j)) (b.blt n)
noncomputable def L7(n:Nat)(f:Nat->Obj)(a b j:Nat):BT:=@Bool.rec (λ_=>BT) .nil (.node (f b) (L6 n f (2*a) (a+b) j) (L6 n f (2*a) (2*a+b) j)) (b.blt n)
noncomputable def L8(n:Nat)(f:Nat->Obj)(a b j:Nat):BT:=@Bool.rec (λ_=>BT) .nil (.node (f b) (L7 n f (2*a) (a+b) j) (L7 n f (2*a) (2*a+b) j)) (b.blt n)
noncomputable def L9(n:Nat)(f:Nat->Obj)(a b j:Nat):BT:=@Bool.rec (λ_=>BT) .nil (.node (f b) (L8 n f (2*a) (a+b) j) (L8 n f (2*a) (2*a+b) j)) (b.blt n)
noncomputable def RV(n:Nat)(f:Nat->Obj)(a b j:Nat):BT:=@Bool.rec (λ_=>BT) .nil (.node (f b) (L9 n f (2*a) (a+b) j) (L9 n f (2*a) (2*a+b) j)) (b.blt n)
noncomputable def RW(n:Nat)(f:Nat->Obj)(a b j:Nat):BT:=@Bool.rec (λ_=>BT) .nil (.node (f b) (RV n f (2*a) (a+b) j) (RV n f (2*a) (2*a+b) j)) (b.blt n)
noncomputable def RX(n:Nat)(f:Nat->Obj)(a b j:Nat):BT:=@Bool.rec (λ_=>BT) .nil (.node (f b) (RW n f (2*a) (a+b) j) (RW n f (2*a) (2*a+b) j)) (b.blt n)
theorem kB{p:Program}{w:World}{m:Nat}{ann:Option Value}{b n:Nat}{s:SharedT}{t:Thread}{r:Option (Flow×SharedT×Code×Pos)}(h:Fast.tw10110043849684766642 Fast.tw14364793385576792824 p w m ann b n s t=r):segRunT treeTable p w m ann b n s t=r:=by rw[Fast.te10110043849684766642,Fast.te14364793385576792824];exact h
theorem MJ{p:Program}{w:World}{m:Nat}{ann:Option Value}{n:Nat}{s:Shared}{t:Thread}{r:Option Shared}(h:Fast.tw14082659384304107361 Fast.tw14364793385576792824 p w m ann n s t=r):topRun treeTable p w m ann n s t=r:=by rw[Fast.te14082659384304107361,Fast.te14364793385576792824];exact h
theorem MK:denote treeTable=Fast.tw11892475500146522536 Fast.tw14364793385576792824:=by rw[<- Fast.te11892475500146522536,<- Fast.te14364793385576792824]
theorem N8{p:Program}{w:World}{m:Nat}{ann:Option Value}{n:Nat}{s:Shared}{t:Thread}{r:Option (Shared×Thread)}(h:Fast.tw15667345088766844465 Fast.tw14364793385576792824 p w m ann n s t=r):topGo treeTable p w m ann n s t=r:=by rw[Fast.te15667345088766844465,Fast.te14364793385576792824];exact h
theorem Kc{b b':List Stmt}(e:b=b'){tb:String->Option Builtin}{p:Program}{w:World}{m:Nat}{ann:Option Value}{n:Nat}{s:Shared}{env:Env}{c:Code}{ps:Pos}{B:List Frame}{r:Option Shared}(h:topRun tb p w m ann n s (restOf b' env c ps B)=r):topRun tb p w m ann n s (restOf b env c ps B)=r:=by rw[e];exact h
noncomputable def f1(P:Params):List Obj:=bQ (top 1) 15 189 ["one","other","rest"] (.str "ringloads.divisors" 187)
noncomputable def f2(P:Params):List Obj:=bQ (top 2) 22 198 ["one","other"] (.str "ringloads.divisors" 187)
noncomputable def f4(P:Params):List Obj:=bQ (top 4) 29 208 ["thing"] (.str "ringloads.names" 206)
noncomputable def f5(P:Params):List Obj:=bQ (top 5) 36 215 ["thing","many"] (.str "ringloads.names" 206)
noncomputable def f6(P:Params):List Obj:=bQ (top 6) 43 223 ["thing"] (.str "ringloads.names" 206)
noncomputable def f7(P:Params):List Obj:=bQ (top 7) 50 230 ["thing","word","length"] (.str "ringloads.names" 206)
noncomputable def f9(P:Params):List Obj:=[(Obj.mk (.type "tuple") none (.seq #[(.type "ValueError")] 0) #[]),
 (Obj.mk (.type "builtin_function_or_method") none (.fields #[(.builtin "type.__prepare__"),(.type "type")]) #[]),
 (Obj.mk (.type "dict") none (.dict #[(DictEntry.mk (kh P "__module__") (.str "__module__" 248) (.str "ringloads.errors" 239)),(DictEntry.mk (kh P "__qualname__") (.str "__qualname__" 250) (.str "LoadError" 249)),(DictEntry.mk (kh P "__firstlineno__") (.str "__firstlineno__" 252) (.int 22 251)),(DictEntry.mk (kh P "__init__") (.str "__init__" 260) (.ref 70)),(DictEntry.mk (kh P "__static_attributes__") (.str "__static_attributes__" 261) (.ref 71))] 5) #[]),
 (Obj.mk (.type "tuple") none (.seq #[] 0) #[]),
 (Obj.mk .none none (.fields #[(.int 24 0),(.int 4 0),(.ref 69)]) #[]),
 (Obj.mk (.type "code") none (.fields #[(.str "LoadError" 243),(.str "LoadError" 244),(.str "/claim/cut.py" 245),(.int 22 0),(.int 0 0),(.int 0 0),(.int 0 0),(.int 0 0),(.ref 60),(.bool false),(.int 181 0),(.ref 61),.none,.none,.none,.none,(.int 246 0),(.int 22 0),(.str "/claim/cut.py" 247)]) #[]),
 (Obj.mk (.type "frame") none .plain #[(some (.ref 62)),(some (.ref 3)),(some (.ref 59)),none,(some (.str "ringloads.errors" 239)),none,(some (.ref 0))]),
 (Obj.mk (.type "tuple") none (.seq #[] 0) #[]),
 (Obj.mk .none none (.fields #[]) #[]),
 (Obj.mk (.type "tuple") none (.seq #[(.str "self" 256),(.str "text" 257)] 0) #[]),
 (Obj.mk (.type "tuple") none (.seq #[] 0) #[]),
 (Obj.mk .none none (.func (KM (G4 (top 9) 0) "LoadError.__init__" 0 .none .none)) #[]),
 (Obj.mk (.type "code") none (.fields #[(.str "__init__" 253),(.str "LoadError.__init__" 254),(.str "/claim/cut.py" 255),(.int 24 0),(.int 2 0),(.int 0 0),(.int 0 0),(.int 3 0),(.ref 64),(.bool true),(.int 181 0),(.ref 65),.none,(.ref 66),(.ref 67),(.ref 68),(.int 258 0),(.int 24 0),(.str "/claim/cut.py" 259)]) #[]),
 (Obj.mk (.type "function") none (.func (KM (G4 (top 9) 0) "LoadError.__init__" 3 (.str "ringloads.errors" 239) (.ref 69))) #[]),
 (Obj.mk (.type "tuple") none (.seq #[] 0) #[]),
 (Obj.mk (.type "dict") none (.dict #[(DictEntry.mk (kh P "__module__") (.str "__module__" 248) (.str "ringloads.errors" 239)),(DictEntry.mk (kh P "__firstlineno__") (.str "__firstlineno__" 252) (.int 22 251)),(DictEntry.mk (kh P "__init__") (.str "__init__" 260) (.ref 70)),(DictEntry.mk (kh P "__static_attributes__") (.str "__static_attributes__" 261) (.ref 71)),(DictEntry.mk (kh P "__weakref__") (.str "__weakref__" 263) (.ref 74)),(DictEntry.mk (kh P "__doc__") (.str "__doc__" 264) .none)] 3) #[]),
 (Obj.mk (.type "type") none (.cls (PySem.ClassData.mk "LoadError" [(.type "ValueError")] [(.ref 73),(.type "ValueError"),(.type "Exception"),(.type "BaseException"),(.type "object")] 72 "LoadError" true [] [(.ref 86),(.ref 105),(.ref 117)] false none false)) #[(some (.ref 57)),none,(some (.str "LoadError" 241)),(some (.str "LoadError" 249)),(some (.builtin "ValueError.__new__")),(some (.bool true))]),
 (Obj.mk (.type "getset_descriptor") none (.fields #[(.str "__weakref__" 262),(.ref 73),(.builtin "ExceptionGroup.__weakref__"),.none]) #[]),
 (Obj.mk (.type "super") none (.fields #[(.ref 73),(.ref 73),(.ref 73)]) #[]),
 (Obj.mk (.type "builtin_function_or_method") none (.fields #[(.builtin "object.__init_subclass__"),(.ref 73)]) #[])]
noncomputable def RY(P:Params):List Obj:=[(Obj.mk (.type "tuple") none (.seq #[(.ref 73)] 0) #[]),
 (Obj.mk (.type "builtin_function_or_method") none (.fields #[(.builtin "type.__prepare__"),(.type "type")]) #[]),
 (Obj.mk (.type "dict") none (.dict #[(DictEntry.mk (kh P "__module__") (.str "__module__" 274) (.str "ringloads.errors" 239)),(DictEntry.mk (kh P "__qualname__") (.str "__qualname__" 276) (.str "NoNumber" 275)),(DictEntry.mk (kh P "__firstlineno__") (.str "__firstlineno__" 278) (.int 26 277)),(DictEntry.mk (kh P "__static_attributes__") (.str "__static_attributes__" 279) (.ref 84))] 4) #[]),
 (Obj.mk (.type "tuple") none (.seq #[] 0) #[]),
 (Obj.mk .none none (.fields #[]) #[]),
 (Obj.mk (.type "code") none (.fields #[(.str "NoNumber" 269),(.str "NoNumber" 270),(.str "/claim/cut.py" 271),(.int 26 0),(.int 0 0),(.int 0 0),(.int 0 0),(.int 0 0),(.ref 80),(.bool false),(.int 181 0),(.ref 81),.none,.none,.none,.none,(.int 272 0),(.int 26 0),(.str "/claim/cut.py" 273)]) #[]),
 (Obj.mk (.type "frame") none .plain #[(some (.ref 82)),(some (.ref 3)),(some (.ref 79)),none,(some (.str "ringloads.errors" 239)),none,(some (.ref 0))]),
 (Obj.mk (.type "tuple") none (.seq #[] 0) #[]),
 (Obj.mk (.type "dict") none (.dict #[(DictEntry.mk (kh P "__module__") (.str "__module__" 274) (.str "ringloads.errors" 239)),(DictEntry.mk (kh P "__firstlineno__") (.str "__firstlineno__" 278) (.int 26 277)),(DictEntry.mk (kh P "__static_attributes__") (.str "__static_attributes__" 279) (.ref 84)),(DictEntry.mk (kh P "__doc__") (.str "__doc__" 280) .none)] 2) #[]),
 (Obj.mk (.type "type") none (.cls (PySem.ClassData.mk "NoNumber" [(.ref 73)] [(.ref 86),(.ref 73),(.type "ValueError"),(.type "Exception"),(.type "BaseException"),(.type "object")] 85 "NoNumber" true [] [] false none false)) #[(some (.ref 77)),none,(some (.str "NoNumber" 267)),(some (.str "NoNumber" 275)),(some (.builtin "ValueError.__new__")),(some (.bool true))]),
 (Obj.mk (.type "super") none (.fields #[(.ref 86),(.ref 86),(.ref 86)]) #[]),
 (Obj.mk (.type "builtin_function_or_method") none (.fields #[(.builtin "object.__init_subclass__"),(.ref 86)]) #[])]
noncomputable def RZ(P:Params):List Obj:=[(Obj.mk (.type "tuple") none (.seq #[(.ref 73)] 0) #[]),
 (Obj.mk (.type "builtin_function_or_method") none (.fields #[(.builtin "type.__prepare__"),(.type "type")]) #[]),
 (Obj.mk (.type "dict") none (.dict #[(DictEntry.mk (kh P "__module__") (.str "__module__" 290) (.str "ringloads.errors" 239)),(DictEntry.mk (kh P "__qualname__") (.str "__qualname__" 292) (.str "NoTree" 291)),(DictEntry.mk (kh P "__firstlineno__") (.str "__firstlineno__" 294) (.int 28 293)),(DictEntry.mk (kh P "__init__") (.str "__init__" 302) (.ref 102)),(DictEntry.mk (kh P "__static_attributes__") (.str "__static_attributes__" 304) (.ref 103))] 5) #[]),
 (Obj.mk (.type "tuple") none (.seq #[] 0) #[]),
 (Obj.mk .none none (.fields #[(.int 30 0),(.int 4 0),(.ref 101)]) #[]),
 (Obj.mk (.type "code") none (.fields #[(.str "NoTree" 285),(.str "NoTree" 286),(.str "/claim/cut.py" 287),(.int 28 0),(.int 0 0),(.int 0 0),(.int 0 0),(.int 0 0),(.ref 92),(.bool false),(.int 181 0),(.ref 93),.none,.none,.none,.none,(.int 288 0),(.int 28 0),(.str "/claim/cut.py" 289)]) #[]),
 (Obj.mk (.type "frame") none .plain #[(some (.ref 94)),(some (.ref 3)),(some (.ref 91)),none,(some (.str "ringloads.errors" 239)),none,(some (.ref 0))]),
 (Obj.mk (.type "tuple") none (.seq #[] 0) #[]),
 (Obj.mk .none none (.fields #[]) #[]),
 (Obj.mk (.type "tuple") none (.seq #[(.str "self" 298),(.str "way" 299)] 0) #[]),
 (Obj.mk (.type "tuple") none (.seq #[] 0) #[]),
 (Obj.mk .none none (.func (KM (G4 (top 11) 0) "NoTree.__init__" 0 .none .none)) #[]),
 (Obj.mk (.type "code") none (.fields #[(.str "__init__" 295),(.str "NoTree.__init__" 296),(.str "/claim/cut.py" 297),(.int 30 0),(.int 2 0),(.int 0 0),(.int 0 0),(.int 3 0),(.ref 96),(.bool true),(.int 181 0),(.ref 97),.none,(.ref 98),(.ref 99),(.ref 100),(.int 300 0),(.int 30 0),(.str "/claim/cut.py" 301)]) #[]),
 (Obj.mk (.type "function") none (.func (KM (G4 (top 11) 0) "NoTree.__init__" 3 (.str "ringloads.errors" 239) (.ref 101))) #[]),
 (Obj.mk (.type "tuple") none (.seq #[(.str "way" 303)] 0) #[]),
 (Obj.mk (.type "dict") none (.dict #[(DictEntry.mk (kh P "__module__") (.str "__module__" 290) (.str "ringloads.errors" 239)),(DictEntry.mk (kh P "__firstlineno__") (.str "__firstlineno__" 294) (.int 28 293)),(DictEntry.mk (kh P "__init__") (.str "__init__" 302) (.ref 102)),(DictEntry.mk (kh P "__static_attributes__") (.str "__static_attributes__" 304) (.ref 103)),(DictEntry.mk (kh P "__doc__") (.str "__doc__" 305) .none)] 2) #[]),
 (Obj.mk (.type "type") none (.cls (PySem.ClassData.mk "NoTree" [(.ref 73)] [(.ref 105),(.ref 73),(.type "ValueError"),(.type "Exception"),(.type "BaseException"),(.type "object")] 104 "NoTree" true [] [] false none false)) #[(some (.ref 89)),none,(some (.str "NoTree" 283)),(some (.str "NoTree" 291)),(some (.builtin "ValueError.__new__")),(some (.bool true))]),
 (Obj.mk (.type "super") none (.fields #[(.ref 105),(.ref 105),(.ref 105)]) #[]),
 (Obj.mk (.type "builtin_function_or_method") none (.fields #[(.builtin "object.__init_subclass__"),(.ref 105)]) #[])]
noncomputable def R0(P:Params):List Obj:=[(Obj.mk (.type "tuple") none (.seq #[(.ref 73)] 0) #[]),
 (Obj.mk (.type "builtin_function_or_method") none (.fields #[(.builtin "type.__prepare__"),(.type "type")]) #[]),
 (Obj.mk (.type "dict") none (.dict #[(DictEntry.mk (kh P "__module__") (.str "__module__" 315) (.str "ringloads.errors" 239)),(DictEntry.mk (kh P "__qualname__") (.str "__qualname__" 317) (.str "TooMany" 316)),(DictEntry.mk (kh P "__firstlineno__") (.str "__firstlineno__" 319) (.int 33 318)),(DictEntry.mk (kh P "__static_attributes__") (.str "__static_attributes__" 320) (.ref 115))] 4) #[]),
 (Obj.mk (.type "tuple") none (.seq #[] 0) #[]),
 (Obj.mk .none none (.fields #[]) #[]),
 (Obj.mk (.type "code") none (.fields #[(.str "TooMany" 310),(.str "TooMany" 311),(.str "/claim/cut.py" 312),(.int 33 0),(.int 0 0),(.int 0 0),(.int 0 0),(.int 0 0),(.ref 111),(.bool false),(.int 181 0),(.ref 112),.none,.none,.none,.none,(.int 313 0),(.int 33 0),(.str "/claim/cut.py" 314)]) #[]),
 (Obj.mk (.type "frame") none .plain #[(some (.ref 113)),(some (.ref 3)),(some (.ref 110)),none,(some (.str "ringloads.errors" 239)),none,(some (.ref 0))]),
 (Obj.mk (.type "tuple") none (.seq #[] 0) #[]),
 (Obj.mk (.type "dict") none (.dict #[(DictEntry.mk (kh P "__module__") (.str "__module__" 315) (.str "ringloads.errors" 239)),(DictEntry.mk (kh P "__firstlineno__") (.str "__firstlineno__" 319) (.int 33 318)),(DictEntry.mk (kh P "__static_attributes__") (.str "__static_attributes__" 320) (.ref 115)),(DictEntry.mk (kh P "__doc__") (.str "__doc__" 321) .none)] 2) #[]),
 (Obj.mk (.type "type") none (.cls (PySem.ClassData.mk "TooMany" [(.ref 73)] [(.ref 117),(.ref 73),(.type "ValueError"),(.type "Exception"),(.type "BaseException"),(.type "object")] 116 "TooMany" true [] [] false none false)) #[(some (.ref 108)),none,(some (.str "TooMany" 308)),(some (.str "TooMany" 316)),(some (.builtin "ValueError.__new__")),(some (.bool true))]),
 (Obj.mk (.type "super") none (.fields #[(.ref 117),(.ref 117),(.ref 117)]) #[]),
 (Obj.mk (.type "builtin_function_or_method") none (.fields #[(.builtin "object.__init_subclass__"),(.ref 117)]) #[])]
noncomputable def R1(P:Params):List Obj:=[(Obj.mk (.type "tuple") none (.seq #[(.int 0 326),(.int 1 327)] 0) #[])]
noncomputable def R3(P:Params):List Obj:=bQ (top 15) 121 329 ["top","bottom","shared"] (.str "ringloads.ratios" 324)
noncomputable def R4(P:Params):List Obj:=bQ (top 16) 128 338 ["one","other"] (.str "ringloads.ratios" 324)
noncomputable def R5(P:Params):List Obj:=bQ (top 17) 135 346 ["one","other"] (.str "ringloads.ratios" 324)
noncomputable def R6(P:Params):List Obj:=bQ (top 18) 142 354 ["one","other"] (.str "ringloads.ratios" 324)
noncomputable def R7(P:Params):List Obj:=bQ (top 19) 149 362 ["one","other"] (.str "ringloads.ratios" 324)
noncomputable def R8(P:Params):List Obj:=bQ (top 20) 156 370 ["one","other"] (.str "ringloads.ratios" 324)
noncomputable def R9(P:Params):List Obj:=bQ (top 21) 163 378 ["some","whole","one"] (.str "ringloads.ratios" 324)
noncomputable def Sb(P:Params):List Obj:=bQ (top 23) 170 389 ["ring","thing"] (.str "ringloads.cuts" 387)
noncomputable def Sd(P:Params):List Obj:=bQ (top 24) 177 397 ["cut","place"] (.str "ringloads.cuts" 387)
noncomputable def Se(P:Params):List Obj:=bQ (top 25) 184 405 ["cut","one","other"] (.str "ringloads.cuts" 387)
noncomputable def Sf(P:Params):List Obj:=eH (top 26) 191 414 (.str "ringloads.cuts" 387)
noncomputable def Sg(P:Params):List Obj:=eH (top 28) 196 422 (.str "ringloads.units" 420)
noncomputable def Sh(P:Params):List Obj:=bQ (top 29) 201 428 ["some","bottom","one"] (.str "ringloads.units" 420)
noncomputable def Si(P:Params):List Obj:=eH (top 30) 208 437 (.str "ringloads.units" 420)
noncomputable def Sj(P:Params):List Obj:=bQ (top 34) 213 449 ["way"] (.str "ringloads.ways" 443)
noncomputable def Sl(P:Params):List Obj:=bQ (top 35) 220 456 ["ring","k","way","tie","places","one","other","lies_on"] (.str "ringloads.ways" 443)
noncomputable def Sm(P:Params):List Obj:=bQ (top 37) 227 472 ["ring","sending","k","tie"] (.str "ringloads.loads" 470)
noncomputable def Sn(P:Params):List Obj:=eH (top 38) 234 482 (.str "ringloads.loads" 470)
noncomputable def So(P:Params):List Obj:=eH (top 39) 239 488 (.str "ringloads.loads" 470)
noncomputable def Sr(P:Params):List Obj:=eH (top 40) 244 494 (.str "ringloads.loads" 470)
noncomputable def Ss(P:Params):List Obj:=bQ (top 41) 249 500 ["ring","sending","strains","top","tie","strain"] (.str "ringloads.loads" 470)
noncomputable def Su(P:Params):List Obj:=eH (top 43) 256 514 (.str "ringloads.sendings" 512)
noncomputable def Sv(P:Params):List Obj:=bQ (top 44) 261 520 ["ring","ways"] (.str "ringloads.sendings" 512)
noncomputable def Sw(P:Params):List Obj:=eH (top 46) 268 530 (.str "ringloads.wishes" 528)
noncomputable def Sx(P:Params):List Obj:=bQ (top 47) 273 536 ["wish","load","bound"] (.str "ringloads.wishes" 528)
noncomputable def Sy(P:Params):List Obj:=bQ (top 48) 280 545 ["wish","ways"] (.str "ringloads.wishes" 528)
noncomputable def Sz(P:Params):List Obj:=bQ (top 54) 287 563 ["thing"] (.str "ringloads.trees" 553)
noncomputable def SA(P:Params):List Obj:=eH (top 55) 294 570 (.str "ringloads.trees" 553)
noncomputable def SB(P:Params):List Obj:=bQ (top 56) 299 576 ["here","way","tree","fixed"] (.str "ringloads.trees" 553)
noncomputable def SC(P:Params):List Obj:=bQ (top 57) 306 586 ["ring","wish","scale","fixed","thing"] (.str "ringloads.trees" 553)
noncomputable def SD(P:Params):List Obj:=eH (top 58) 313 597 (.str "ringloads.trees" 553)
noncomputable def SE(P:Params):List Obj:=eH (top 59) 318 603 (.str "ringloads.trees" 553)
noncomputable def SF(P:Params):List Obj:=eH (top 62) 323 613 (.str "ringloads.search" 609)
noncomputable def SG(P:Params):List Obj:=eH (top 63) 328 619 (.str "ringloads.search" 609)
noncomputable def SH(P:Params):List Obj:=eH (top 64) 333 625 (.str "ringloads.search" 609)
noncomputable def SI(P:Params):List Obj:=bQ (top 65) 338 631 ["wish","bounds","fixed","loads","cut","bound"] (.str "ringloads.search" 609)
noncomputable def SJ(P:Params):List Obj:=eH (top 67) 345 645 (.str "ringloads.best" 643)
noncomputable def SK(P:Params):List Obj:=eH (top 68) 350 651 (.str "ringloads.best" 643)
noncomputable def SL(P:Params):List Obj:=bQ (top 70) 355 659 ["_law_script","_law_k","_law_cell"] (.str "law_ringloads_k48_ways_for_a_wish" 657)
noncomputable def SN(P:Params):List Obj:=bQ (top 71) 362 668 ["_law_state","_law_many","_law_digit","_law_drawn","_law_turn"] (.str "law_ringloads_k48_ways_for_a_wish" 657)
noncomputable def SO(P:Params):List Obj:=bQ (top 72) 369 679 ["_law_top_here","_law_bottom","_law_one","_law_share"] (.str "law_ringloads_k48_ways_for_a_wish" 657)
noncomputable def SQ(P:Params):List Obj:=bQ (top 73) 376 689 ["_law_state","_law_least_here","_law_kind","_law_bottom","_law_top_here"] (.str "law_ringloads_k48_ways_for_a_wish" 657)
noncomputable def SR(P:Params):List Obj:=eH (top 74) 383 700 (.str "law_ringloads_k48_ways_for_a_wish" 657)
noncomputable def SS(P:Params):List Obj:=bQ (top 75) 388 706 ["_law_state","_law_ties","_law_kind","_law_alike","_law_one","_law_rooms_here","_law_more"] (.str "law_ringloads_k48_ways_for_a_wish" 657)
noncomputable def SU(P:Params):List Obj:=bQ (top 76) 395 719 ["_law_state","_law_shape","_law_places","_law_k","_law_one","_law_other"] (.str "law_ringloads_k48_ways_for_a_wish" 657)
noncomputable def SV(P:Params):List Obj:=bQ (top 77) 402 731 ["_law_script","_law_at","_law_most","_law_count","_law_state","_law_places","_law_many","_law_kinds","_law_shape","_law_names_here","_law_rooms_here","_law_asks","_law_k","_law_one","_law_other"] (.str "law_ringloads_k48_ways_for_a_wish" 657)
noncomputable def SW(P:Params):List Obj:=eH (top 78) 409 752 (.str "law_ringloads_k48_ways_for_a_wish" 657)
noncomputable def SX(P:Params):List Obj:=bQ (top 79) 414 758 ["_law_ring_here","_law_found","_law_name","_law_one","_law_other","_law_size","_law_ties","_law_place"] (.str "law_ringloads_k48_ways_for_a_wish" 657)
noncomputable def SY(P:Params):List Obj:=eH (top 80) 421 772 (.str "law_ringloads_k48_ways_for_a_wish" 657)
noncomputable def SZ(P:Params):List Obj:=bQ (top 81) 426 778 ["_law_ring_here","_law_loads_here","_law_bottom","_law_top_here","_law_strict","_law_tie","_law_room","_law_load","_law_most"] (.str "law_ringloads_k48_ways_for_a_wish" 657)
noncomputable def Ta(P:Params):List Obj:=bQ (top 82) 433 793 ["_law_ring_here","_law_loads_here","_law_bottom","_law_best","_law_tie","_law_room","_law_strain"] (.str "law_ringloads_k48_ways_for_a_wish" 657)
noncomputable def Tb(P:Params):List Obj:=eH (top 83) 440 806 (.str "law_ringloads_k48_ways_for_a_wish" 657)
noncomputable def Tc(P:Params):List Obj:=eH (top 84) 445 812 (.str "law_ringloads_k48_ways_for_a_wish" 657)
noncomputable def Td(P:Params):List Obj:=eH (top 85) 450 818 (.str "law_ringloads_k48_ways_for_a_wish" 657)
noncomputable def Te(P:Params):List Obj:=bQ (top 86) 455 824 ["_law_ring_here","_law_on_here","_law_wholes_here","_law_wish_here","_law_ways","_law_loads_here"] (.str "law_ringloads_k48_ways_for_a_wish" 657)
noncomputable def Tf(P:Params):List Obj:=bQ (top 87) 462 836 ["_law_ring_here","_law_wish_here","_law_tree"] (.str "law_ringloads_k48_ways_for_a_wish" 657)
noncomputable def Th(P:Params):List Obj:=bQ (top 88) 469 845 ["_law_ring_here","_law_on_here","_law_wholes_here","_law_least_here","_law_ways","_law_top_here"] (.str "law_ringloads_k48_ways_for_a_wish" 657)
noncomputable def Ti(P:Params):List Obj:=eH (top 89) 476 857 (.str "law_ringloads_k48_ways_for_a_wish" 657)
noncomputable def Tj(P:Params):List Obj:=eH (top 90) 481 863 (.str "law_ringloads_k48_ways_for_a_wish" 657)
noncomputable def Tn(P:Params):List Obj:=bQ (top 91) 486 869 ["_law_ring_here","_law_on_here","_law_wholes_here","_law_wish_here","_law_found","_law_keeps"] (.str "law_ringloads_k48_ways_for_a_wish" 657)
noncomputable def To(P:Params):List Obj:=eH (top 92) 493 881 (.str "law_ringloads_k48_ways_for_a_wish" 657)
noncomputable def N9(P:Params)(b:Nat):Obj:=(bif b.blt 43 then(bif b.blt 29 then(bif b.blt 22 then(f1 P).getD (b-15) default else(f2 P).getD (b-22) default)else(bif b.blt 36 then(f4 P).getD (b-29) default else(f5 P).getD (b-36) default))else(bif b.blt 57 then(bif b.blt 50 then(f6 P).getD (b-43) default else(f7 P).getD (b-50) default)else(bif b.blt 77 then(f9 P).getD (b-57) default else(bif b.blt 89 then(RY P).getD (b-77) default else(RZ P).getD (b-89) default))))
noncomputable def Oa(P:Params)(b:Nat):Obj:=(bif b.blt 135 then(bif b.blt 121 then(bif b.blt 120 then(R0 P).getD (b-108) default else(R1 P).getD (b-120) default)else(bif b.blt 128 then(R3 P).getD (b-121) default else(R4 P).getD (b-128) default))else(bif b.blt 149 then(bif b.blt 142 then(R5 P).getD (b-135) default else(R6 P).getD (b-142) default)else(bif b.blt 156 then(R7 P).getD (b-149) default else(bif b.blt 163 then(R8 P).getD (b-156) default else(R9 P).getD (b-163) default))))
noncomputable def Pp(P:Params)(b:Nat):Obj:=bif b.blt 108 then N9 P b else Oa P b
noncomputable def Ob(P:Params)(b:Nat):Obj:=(bif b.blt 196 then(bif b.blt 184 then(bif b.blt 177 then(Sb P).getD (b-170) default else(Sd P).getD (b-177) default)else(bif b.blt 191 then(Se P).getD (b-184) default else(Sf P).getD (b-191) default))else(bif b.blt 208 then(bif b.blt 201 then(Sg P).getD (b-196) default else(Sh P).getD (b-201) default)else(bif b.blt 213 then(Si P).getD (b-208) default else(bif b.blt 220 then(Sj P).getD (b-213) default else(Sl P).getD (b-220) default))))
noncomputable def Oc(P:Params)(b:Nat):Obj:=(bif b.blt 249 then(bif b.blt 239 then(bif b.blt 234 then(Sm P).getD (b-227) default else(Sn P).getD (b-234) default)else(bif b.blt 244 then(So P).getD (b-239) default else(Sr P).getD (b-244) default))else(bif b.blt 261 then(bif b.blt 256 then(Ss P).getD (b-249) default else(Su P).getD (b-256) default)else(bif b.blt 268 then(Sv P).getD (b-261) default else(bif b.blt 273 then(Sw P).getD (b-268) default else(Sx P).getD (b-273) default))))
noncomputable def Pq(P:Params)(b:Nat):Obj:=bif b.blt 227 then Ob P b else Oc P b
noncomputable def Tp(P:Params)(b:Nat):Obj:=bif b.blt 170 then Pp P b else Pq P b
noncomputable def Od(P:Params)(b:Nat):Obj:=(bif b.blt 306 then(bif b.blt 294 then(bif b.blt 287 then(Sy P).getD (b-280) default else(Sz P).getD (b-287) default)else(bif b.blt 299 then(SA P).getD (b-294) default else(SB P).getD (b-299) default))else(bif b.blt 318 then(bif b.blt 313 then(SC P).getD (b-306) default else(SD P).getD (b-313) default)else(bif b.blt 323 then(SE P).getD (b-318) default else(bif b.blt 328 then(SF P).getD (b-323) default else(SG P).getD (b-328) default))))
noncomputable def Oe(P:Params)(b:Nat):Obj:=(bif b.blt 355 then(bif b.blt 345 then(bif b.blt 338 then(SH P).getD (b-333) default else(SI P).getD (b-338) default)else(bif b.blt 350 then(SJ P).getD (b-345) default else(SK P).getD (b-350) default))else(bif b.blt 369 then(bif b.blt 362 then(SL P).getD (b-355) default else(SN P).getD (b-362) default)else(bif b.blt 376 then(SO P).getD (b-369) default else(bif b.blt 383 then(SQ P).getD (b-376) default else(SR P).getD (b-383) default))))
noncomputable def Pu(P:Params)(b:Nat):Obj:=bif b.blt 333 then Od P b else Oe P b
noncomputable def Of(P:Params)(b:Nat):Obj:=(bif b.blt 414 then(bif b.blt 402 then(bif b.blt 395 then(SS P).getD (b-388) default else(SU P).getD (b-395) default)else(bif b.blt 409 then(SV P).getD (b-402) default else(SW P).getD (b-409) default))else(bif b.blt 426 then(bif b.blt 421 then(SX P).getD (b-414) default else(SY P).getD (b-421) default)else(bif b.blt 433 then(SZ P).getD (b-426) default else(bif b.blt 440 then(Ta P).getD (b-433) default else(Tb P).getD (b-440) default))))
noncomputable def Og(P:Params)(b:Nat):Obj:=(bif b.blt 469 then(bif b.blt 455 then(bif b.blt 450 then(Tc P).getD (b-445) default else(Td P).getD (b-450) default)else(bif b.blt 462 then(Te P).getD (b-455) default else(Tf P).getD (b-462) default))else(bif b.blt 481 then(bif b.blt 476 then(Th P).getD (b-469) default else(Ti P).getD (b-476) default)else(bif b.blt 486 then(Tj P).getD (b-481) default else(bif b.blt 493 then(Tn P).getD (b-486) default else(To P).getD (b-493) default))))
noncomputable def Pv(P:Params)(b:Nat):Obj:=bif b.blt 445 then Of P b else Og P b
noncomputable def Tq(P:Params)(b:Nat):Obj:=bif b.blt 388 then Pu P b else Pv P b
noncomputable def ob(P:Params)(b:Nat):Obj:=bif b.blt 280 then Tp P b else Tq P b
noncomputable def Fg(P:Params):List DictEntry:=[(DictEntry.mk (kh P "greatest_shared") (.str "greatest_shared" 197) (.ref 21)),
 (DictEntry.mk (kh P "least_common") (.str "least_common" 205) (.ref 28)),
 (DictEntry.mk (kh P "is_whole") (.str "is_whole" 214) (.ref 35)),
 (DictEntry.mk (kh P "is_number_below") (.str "is_number_below" 222) (.ref 42)),
 (DictEntry.mk (kh P "are_two_wholes") (.str "are_two_wholes" 229) (.ref 49)),
 (DictEntry.mk (kh P "is_told_as") (.str "is_told_as" 238) (.ref 56)),
 (DictEntry.mk (kh P "LoadError") (.str "LoadError" 266) (.ref 73)),
 (DictEntry.mk (kh P "NoNumber") (.str "NoNumber" 282) (.ref 86)),
 (DictEntry.mk (kh P "NoTree") (.str "NoTree" 307) (.ref 105)),
 (DictEntry.mk (kh P "TooMany") (.str "TooMany" 323) (.ref 117)),
 (DictEntry.mk (kh P "NOUGHT") (.str "NOUGHT" 328) (.ref 120)),
 (DictEntry.mk (kh P "lowest") (.str "lowest" 337) (.ref 127)),
 (DictEntry.mk (kh P "plus") (.str "plus" 345) (.ref 134)),
 (DictEntry.mk (kh P "minus") (.str "minus" 353) (.ref 141)),
 (DictEntry.mk (kh P "times") (.str "times" 361) (.ref 148)),
 (DictEntry.mk (kh P "over") (.str "over" 369) (.ref 155)),
 (DictEntry.mk (kh P "under") (.str "under" 377) (.ref 162)),
 (DictEntry.mk (kh P "sum_of") (.str "sum_of" 386) (.ref 169)),
 (DictEntry.mk (kh P "is_cut") (.str "is_cut" 396) (.ref 176)),
 (DictEntry.mk (kh P "is_within") (.str "is_within" 404) (.ref 183)),
 (DictEntry.mk (kh P "parts_places") (.str "parts_places" 413) (.ref 190)),
 (DictEntry.mk (kh P "all_cuts") (.str "all_cuts" 419) (.ref 195)),
 (DictEntry.mk (kh P "weighed") (.str "weighed" 427) (.ref 200)),
 (DictEntry.mk (kh P "common_bottom") (.str "common_bottom" 436) (.ref 207)),
 (DictEntry.mk (kh P "in_units") (.str "in_units" 442) (.ref 212)),
 (DictEntry.mk (kh P "ON") (.str "ON" 446) (.str "on" 445)),
 (DictEntry.mk (kh P "BACK") (.str "BACK" 448) (.str "back" 447)),
 (DictEntry.mk (kh P "other_way") (.str "other_way" 455) (.ref 219)),
 (DictEntry.mk (kh P "is_over") (.str "is_over" 469) (.ref 226)),
 (DictEntry.mk (kh P "sent_over") (.str "sent_over" 481) (.ref 233)),
 (DictEntry.mk (kh P "load_of") (.str "load_of" 487) (.ref 238)),
 (DictEntry.mk (kh P "loads_of") (.str "loads_of" 493) (.ref 243)),
 (DictEntry.mk (kh P "strains_of") (.str "strains_of" 499) (.ref 248)),
 (DictEntry.mk (kh P "top_of") (.str "top_of" 511) (.ref 255)),
 (DictEntry.mk (kh P "sent_by") (.str "sent_by" 519) (.ref 260)),
 (DictEntry.mk (kh P "top_by") (.str "top_by" 527) (.ref 267)),
 (DictEntry.mk (kh P "turned_by") (.str "turned_by" 535) (.ref 272)),
 (DictEntry.mk (kh P "is_too_much") (.str "is_too_much" 544) (.ref 279)),
 (DictEntry.mk (kh P "are_too_many") (.str "are_too_many" 552) (.ref 286)),
 (DictEntry.mk (kh P "CUT") (.str "CUT" 556) (.str "cut" 555)),
 (DictEntry.mk (kh P "TURNED") (.str "TURNED" 558) (.str "turned" 557)),
 (DictEntry.mk (kh P "SPLIT") (.str "SPLIT" 560) (.str "split" 559)),
 (DictEntry.mk (kh P "MOST_WALKED") (.str "MOST_WALKED" 562) (.int 300 561)),
 (DictEntry.mk (kh P "is_split") (.str "is_split" 569) (.ref 293)),
 (DictEntry.mk (kh P "look_at_tree") (.str "look_at_tree" 575) (.ref 298)),
 (DictEntry.mk (kh P "branch_of") (.str "branch_of" 585) (.ref 305)),
 (DictEntry.mk (kh P "can_stand") (.str "can_stand" 596) (.ref 312)),
 (DictEntry.mk (kh P "is_too_full") (.str "is_too_full" 602) (.ref 317)),
 (DictEntry.mk (kh P "times_over") (.str "times_over" 608) (.ref 322)),
 (DictEntry.mk (kh P "MOST_SEARCHED") (.str "MOST_SEARCHED" 612) (.int 7 611)),
 (DictEntry.mk (kh P "ways_for") (.str "ways_for" 618) (.ref 327)),
 (DictEntry.mk (kh P "bounds_of") (.str "bounds_of" 624) (.ref 332)),
 (DictEntry.mk (kh P "searched") (.str "searched" 630) (.ref 337)),
 (DictEntry.mk (kh P "reason_against") (.str "reason_against" 642) (.ref 344)),
 (DictEntry.mk (kh P "wish_for_less") (.str "wish_for_less" 650) (.ref 349)),
 (DictEntry.mk (kh P "best_ways") (.str "best_ways" 656) (.ref 354)),
 (DictEntry.mk (kh P "_law_begun") (.str "_law_begun" 667) (.ref 361)),
 (DictEntry.mk (kh P "_law_take") (.str "_law_take" 678) (.ref 368)),
 (DictEntry.mk (kh P "_law_low") (.str "_law_low" 688) (.ref 375)),
 (DictEntry.mk (kh P "_law_amount") (.str "_law_amount" 699) (.ref 382)),
 (DictEntry.mk (kh P "_law_names") (.str "_law_names" 705) (.ref 387)),
 (DictEntry.mk (kh P "_law_rooms") (.str "_law_rooms" 718) (.ref 394)),
 (DictEntry.mk (kh P "_law_ends") (.str "_law_ends" 730) (.ref 401)),
 (DictEntry.mk (kh P "_law_ring") (.str "_law_ring" 751) (.ref 408)),
 (DictEntry.mk (kh P "_law_wholes") (.str "_law_wholes" 757) (.ref 413)),
 (DictEntry.mk (kh P "_law_on") (.str "_law_on" 771) (.ref 420)),
 (DictEntry.mk (kh P "_law_loads") (.str "_law_loads" 777) (.ref 425)),
 (DictEntry.mk (kh P "_law_strained") (.str "_law_strained" 792) (.ref 432)),
 (DictEntry.mk (kh P "_law_top") (.str "_law_top" 805) (.ref 439)),
 (DictEntry.mk (kh P "_law_turned") (.str "_law_turned" 811) (.ref 444)),
 (DictEntry.mk (kh P "_law_all_ways") (.str "_law_all_ways" 817) (.ref 449)),
 (DictEntry.mk (kh P "_law_wish") (.str "_law_wish" 823) (.ref 454)),
 (DictEntry.mk (kh P "_law_kept") (.str "_law_kept" 835) (.ref 461)),
 (DictEntry.mk (kh P "_law_lets") (.str "_law_lets" 844) (.ref 468)),
 (DictEntry.mk (kh P "_law_least") (.str "_law_least" 856) (.ref 475)),
 (DictEntry.mk (kh P "_law_are_ways") (.str "_law_are_ways" 862) (.ref 480)),
 (DictEntry.mk (kh P "_law_copy") (.str "_law_copy" 868) (.ref 485)),
 (DictEntry.mk (kh P "_law_good") (.str "_law_good" 880) (.ref 492)),
 (DictEntry.mk (kh P "law") (.str "law" 886) (.ref 497))]
noncomputable def Ts:List Value:=[(.int 2 0),(.int 0 0),(.ref 20),(.int 8 0),(.int 0 0),(.ref 27),(.int 11 0),(.int 0 0),(.ref 34),(.int 13 0),(.int 0 0),(.ref 41),(.int 15 0),(.int 0 0),(.ref 48),(.int 17 0),(.int 0 0),(.ref 55),(.int 22 0),(.int 0 0),(.ref 62),(.int 26 0),(.int 0 0),(.ref 82),(.int 28 0),(.int 0 0),(.ref 94),(.int 33 0),(.int 0 0),(.ref 113),(.int 37 0),(.int 0 0),(.ref 126),(.int 42 0),(.int 0 0),(.ref 133),(.int 44 0),(.int 0 0),(.ref 140),(.int 46 0),(.int 0 0),(.ref 147),(.int 48 0),(.int 0 0),(.ref 154),(.int 52 0),(.int 0 0),(.ref 161),(.int 54 0),(.int 0 0),(.ref 168),(.int 60 0),(.int 0 0),(.ref 175),(.int 62 0),(.int 0 0),(.ref 182),(.int 64 0),(.int 0 0),(.ref 189),(.int 66 0),(.int 0 0),(.ref 194),(.int 72 0),(.int 0 0),(.ref 199),(.int 77 0),(.int 0 0),(.ref 206),(.int 82 0),(.int 0 0),(.ref 211),(.int 87 0),(.int 0 0),(.ref 218),(.int 89 0),(.int 0 0),(.ref 225),(.int 96 0),(.int 0 0),(.ref 232),(.int 100 0),(.int 0 0),(.ref 237),(.int 102 0),(.int 0 0),(.ref 242),(.int 104 0),(.int 0 0),(.ref 247),(.int 106 0),(.int 0 0),(.ref 254),(.int 114 0),(.int 0 0),(.ref 259),(.int 116 0),(.int 0 0),(.ref 266),(.int 119 0),(.int 0 0),(.ref 271),(.int 122 0),(.int 0 0),(.ref 278),(.int 124 0),(.int 0 0),(.ref 285),(.int 131 0),(.int 0 0),(.ref 292),(.int 133 0),(.int 0 0),(.ref 297),(.int 145 0),(.int 0 0),(.ref 304),(.int 150 0),(.int 0 0),(.ref 311),(.int 156 0),(.int 0 0),(.ref 316),(.int 160 0),(.int 0 0),(.ref 321),(.int 166 0),(.int 0 0),(.ref 326),(.int 171 0),(.int 0 0),(.ref 331),(.int 177 0),(.int 0 0),(.ref 336),(.int 192 0),(.int 0 0),(.ref 343),(.int 200 0),(.int 0 0),(.ref 348),(.int 202 0),(.int 0 0),(.ref 353),(.int 211 0),(.int 0 0),(.ref 360),(.int 216 0),(.int 0 0),(.ref 367),(.int 227 0),(.int 0 0),(.ref 374),(.int 235 0),(.int 0 0),(.ref 381),(.int 239 0),(.int 0 0),(.ref 386),(.int 245 0),(.int 0 0),(.ref 393),(.int 255 0),(.int 0 0),(.ref 400),(.int 265 0),(.int 0 0),(.ref 407),(.int 279 0),(.int 0 0),(.ref 412),(.int 288 0),(.int 0 0),(.ref 419),(.int 298 0),(.int 0 0),(.ref 424),(.int 305 0),(.int 0 0),(.ref 431),(.int 313 0),(.int 0 0),(.ref 438),(.int 321 0),(.int 0 0),(.ref 443),(.int 323 0),(.int 0 0),(.ref 448),(.int 328 0),(.int 0 0),(.ref 453),(.int 343 0),(.int 0 0),(.ref 460),(.int 348 0),(.int 0 0),(.ref 467),(.int 354 0),(.int 0 0),(.ref 474),(.int 361 0),(.int 0 0),(.ref 479),(.int 365 0),(.int 0 0),(.ref 484),(.int 371 0),(.int 0 0),(.ref 491),(.int 377 0),(.int 0 0),(.ref 496)]
noncomputable def Tt(P:Params):List (Nat×Obj):=[(12,A1 (Ts.take 0))]
noncomputable def T0(P:Params):BT:=RX 15 (λb=>Ef [12] P (Tt P) ob b 0) 1 0 0
noncomputable abbrev S0(w:World)(os:OsState):SharedT:=⟨T0 w.params,15,mS,#[],⟨0,0,0,0⟩,187,os⟩
noncomputable def Tu(P:Params):List (Nat×Obj):=[(3,tF P (.str "ringloads.errors" 239) ((Fg P).take 6) 15),(12,A1 (Ts.take 18))]
noncomputable def T1(P:Params):BT:=RX 57 (λb=>Ef [3,12] P (Tu P) ob b 1) 1 0 1
noncomputable abbrev S1(w:World)(os:OsState):SharedT:=⟨T1 w.params,57,mS,#[],⟨0,0,0,0⟩,241,os⟩
noncomputable def Tv(P:Params):List (Nat×Obj):=[(3,tF P (.str "ringloads.errors" 239) ((Fg P).take 7) 16),(12,A1 (Ts.take 21)),(73,(Obj.mk (.type "type") none (.cls (PySem.ClassData.mk "LoadError" [(.type "ValueError")] [(.ref 73),(.type "ValueError"),(.type "Exception"),(.type "BaseException"),(.type "object")] 72 "LoadError" true [] [] false none false)) #[(some (.ref 57)),none,(some (.str "LoadError" 241)),(some (.str "LoadError" 249)),(some (.builtin "ValueError.__new__")),(some (.bool true))]))]
noncomputable def T2(P:Params):BT:=RX 77 (λb=>Ef [3,12,73] P (Tv P) ob b 2) 1 0 2
noncomputable abbrev S2(w:World)(os:OsState):SharedT:=⟨T2 w.params,77,mS,#[],⟨0,0,0,0⟩,267,os⟩
noncomputable def Tw(P:Params):List (Nat×Obj):=[(3,tF P (.str "ringloads.errors" 239) ((Fg P).take 8) 17),(12,A1 (Ts.take 24)),(73,(Obj.mk (.type "type") none (.cls (PySem.ClassData.mk "LoadError" [(.type "ValueError")] [(.ref 73),(.type "ValueError"),(.type "Exception"),(.type "BaseException"),(.type "object")] 72 "LoadError" true [] [(.ref 86)] false none false)) #[(some (.ref 57)),none,(some (.str "LoadError" 241)),(some (.str "LoadError" 249)),(some (.builtin "ValueError.__new__")),(some (.bool true))]))]
noncomputable def T3(P:Params):BT:=RX 89 (λb=>Ef [3,12,73] P (Tw P) ob b 3) 1 0 3
noncomputable abbrev S3(w:World)(os:OsState):SharedT:=⟨T3 w.params,89,mS,#[],⟨0,0,0,0⟩,283,os⟩
noncomputable def Tz(P:Params):List (Nat×Obj):=[(3,tF P (.str "ringloads.errors" 239) ((Fg P).take 9) 18),(12,A1 (Ts.take 27)),(73,(Obj.mk (.type "type") none (.cls (PySem.ClassData.mk "LoadError" [(.type "ValueError")] [(.ref 73),(.type "ValueError"),(.type "Exception"),(.type "BaseException"),(.type "object")] 72 "LoadError" true [] [(.ref 86),(.ref 105)] false none false)) #[(some (.ref 57)),none,(some (.str "LoadError" 241)),(some (.str "LoadError" 249)),(some (.builtin "ValueError.__new__")),(some (.bool true))]))]
noncomputable def T4(P:Params):BT:=RX 108 (λb=>Ef [3,12,73] P (Tz P) ob b 4) 1 0 4
noncomputable abbrev S4(w:World)(os:OsState):SharedT:=⟨T4 w.params,108,mS,#[],⟨0,0,0,0⟩,308,os⟩
noncomputable def TB(P:Params):List (Nat×Obj):=[(3,tF P (.str "ringloads.ratios" 324) ((Fg P).take 16) 25),(12,A1 (Ts.take 45))]
noncomputable def T5(P:Params):BT:=RX 156 (λb=>Ef [3,12] P (TB P) ob b 5) 1 0 5
noncomputable abbrev S5(w:World)(os:OsState):SharedT:=⟨T5 w.params,156,mS,#[],⟨0,0,0,0⟩,370,os⟩
noncomputable def TC(P:Params):List (Nat×Obj):=[(3,tF P (.str "ringloads.loads" 470) ((Fg P).take 29) 38),(12,A1 (Ts.take 78))]
noncomputable def T6(P:Params):BT:=RX 227 (λb=>Ef [3,12] P (TC P) ob b 6) 1 0 6
noncomputable abbrev S6(w:World)(os:OsState):SharedT:=⟨T6 w.params,227,mS,#[],⟨0,0,0,0⟩,472,os⟩
noncomputable def TF(P:Params):List (Nat×Obj):=[(3,tF P (.str "ringloads.trees" 553) ((Fg P).take 44) 53),(12,A1 (Ts.take 111))]
noncomputable def T7(P:Params):BT:=RX 294 (λb=>Ef [3,12] P (TF P) ob b 7) 1 0 7
noncomputable abbrev S7(w:World)(os:OsState):SharedT:=⟨T7 w.params,294,mS,#[],⟨0,0,0,0⟩,570,os⟩
noncomputable def TH(P:Params):List (Nat×Obj):=[(3,tF P (.str "law_ringloads_k48_ways_for_a_wish" 657) ((Fg P).take 57) 66),(12,A1 (Ts.take 147))]
noncomputable def T8(P:Params):BT:=RX 362 (λb=>Ef [3,12] P (TH P) ob b 8) 1 0 8
noncomputable abbrev S8(w:World)(os:OsState):SharedT:=⟨T8 w.params,362,mS,#[],⟨0,0,0,0⟩,668,os⟩
noncomputable def TJ(P:Params):List (Nat×Obj):=[(3,tF P (.str "law_ringloads_k48_ways_for_a_wish" 657) ((Fg P).take 69) 78),(12,A1 (Ts.take 183))]
noncomputable def T9(P:Params):BT:=RX 440 (λb=>Ef [3,12] P (TJ P) ob b 9) 1 0 9
noncomputable abbrev S9(w:World)(os:OsState):SharedT:=⟨T9 w.params,440,mS,#[],⟨0,0,0,0⟩,806,os⟩
noncomputable def OH(P:Params):List (Nat×Obj):=[(3,tF P (.str "law_ringloads_k48_ways_for_a_wish" 657) ((Fg P).take 79) 88),(12,A1 (Ts.take 213))]
noncomputable def TK(P:Params):BT:=RX 498 (λb=>Ef [3,12] P (OH P) ob b 10) 1 0 10
noncomputable abbrev TL(w:World)(os:OsState):SharedT:=⟨TK w.params,498,mS,#[],⟨0,0,0,0⟩,887,os⟩
noncomputable abbrev env:Env:={scope:=pr.main.scope,locals:=mainNs,globals:=mainNs,cells:=[],code:=.ref 13,frame:=some 14}
noncomputable abbrev cE:Code:=.body (behindTheImports pr) env
noncomputable abbrev B:List Frame:=[topFrame ⟨0,0,0,0⟩]
noncomputable def OI:List Stmt:=(pr.main.body.drop 0).take 9
theorem TM(w:World)(os:OsState):segRunT treeTable pr w 11 (some (.ref 6)) 1 208 (S0 w os) (piecesOf OI env cE ⟨0,0,0,0⟩ B)=some (.next,S1 w os,cE,⟨21,0,21,8⟩):=kB z_
noncomputable def OJ:List Stmt:=(pr.main.body.drop 9).take 1
theorem TN(w:World)(os:OsState):segRunT treeTable pr w 11 (some (.ref 6)) 1 218 (S1 w os) (piecesOf OJ env cE ⟨21,0,21,8⟩ B)=some (.next,S2 w os,cE,⟨22,0,25,39⟩):=kB z_
noncomputable def OK:List Stmt:=(pr.main.body.drop 10).take 1
theorem TQ(w:World)(os:OsState):segRunT treeTable pr w 11 (some (.ref 6)) 1 214 (S2 w os) (piecesOf OK env cE ⟨22,0,25,39⟩ B)=some (.next,S3 w os,cE,⟨26,0,27,8⟩):=kB z_
noncomputable def OL:List Stmt:=(pr.main.body.drop 11).take 1
theorem TR(w:World)(os:OsState):segRunT treeTable pr w 11 (some (.ref 6)) 1 246 (S3 w os) (piecesOf OL env cE ⟨26,0,27,8⟩ B)=some (.next,S4 w os,cE,⟨28,0,32,28⟩):=kB z_
noncomputable def OM:List Stmt:=(pr.main.body.drop 12).take 8
theorem TU(w:World)(os:OsState):segRunT treeTable pr w 11 (some (.ref 6)) 1 386 (S4 w os) (piecesOf OM env cE ⟨28,0,32,28⟩ B)=some (.next,S5 w os,cE,⟨48,0,51,55⟩):=kB z_
noncomputable def OO:List Stmt:=(pr.main.body.drop 20).take 17
theorem TV(w:World)(os:OsState):segRunT treeTable pr w 11 (some (.ref 6)) 1 381 (S5 w os) (piecesOf OO env cE ⟨48,0,51,55⟩ B)=some (.next,S6 w os,cE,⟨95,0,95,8⟩):=kB z_
noncomputable def OP:List Stmt:=(pr.main.body.drop 37).take 18
theorem TX(w:World)(os:OsState):segRunT treeTable pr w 11 (some (.ref 6)) 1 380 (S6 w os) (piecesOf OP env cE ⟨95,0,95,8⟩ B)=some (.next,S7 w os,cE,⟨131,0,132,38⟩):=kB z_
noncomputable def OQ:List Stmt:=(pr.main.body.drop 55).take 16
theorem TY(w:World)(os:OsState):segRunT treeTable pr w 11 (some (.ref 6)) 1 375 (S7 w os) (piecesOf OQ env cE ⟨131,0,132,38⟩ B)=some (.next,S8 w os,cE,⟨211,0,215,115⟩):=kB z_
noncomputable def OR:List Stmt:=(pr.main.body.drop 71).take 12
theorem TZ(w:World)(os:OsState):segRunT treeTable pr w 11 (some (.ref 6)) 1 397 (S8 w os) (piecesOf OR env cE ⟨211,0,215,115⟩ B)=some (.next,S9 w os,cE,⟨313,0,320,47⟩):=kB z_
noncomputable def ML:List Stmt:=(pr.main.body.drop 83).take 10
theorem Pw(w:World)(os:OsState):segRunT treeTable pr w 11 (some (.ref 6)) 1 290 (S9 w os) (piecesOf ML env cE ⟨313,0,320,47⟩ B)=some (.next,TL w os,cE,⟨377,0,398,15⟩):=kB z_
noncomputable abbrev H1(P:Params):Heap:=absHeap (TK P) 498 mS
theorem pre(w:World)(os:OsState):topGo treeTable pr w 11 (some (.ref 6)) 12 ⟨boot_heap w.params,#[],boot_drawn,boot_toks,os⟩ (topStub pr)=some (⟨⟨⟨Kb w.params⟩,mS⟩,#[],⟨0,0,0,0⟩,187,os⟩,⟨denote treeTable cE,cE,⟨0,0,0,0⟩,B⟩):=by rw[MK];exact N8 z_
theorem HY(w:World)(os:OsState):segRun treeTable pr w 11 (some (.ref 6)) 1 1 ⟨⟨⟨Kb w.params⟩,mS⟩,#[],⟨0,0,0,0⟩,187,os⟩ (blockOf (behindTheImports pr) env cE ⟨0,0,0,0⟩ B)=some (.next,(S0 w os).abs,cE,⟨0,0,0,0⟩):=by kernel_rfl
theorem PZ(w:World)(os:OsState):topRun treeTable pr w 11 (some (.ref 6)) 2 (TL w os).abs ⟨doneF .next,cE,⟨377,0,398,15⟩,B⟩=some ⟨H1 w.params,#[],⟨0,0,0,0⟩,887,os⟩:=MJ z_
theorem Kd:behindTheImports pr=(OI++(OJ++(OK++(OL++(OM++(OO++(OP++(OQ++(OR++(ML++[])))))))))):=by kernel_rfl
theorem run(w:World)(os:OsState):topRun treeTable pr w 11 (some (.ref 6)) (12+(1+(208+(218+(214+(246+(386+(381+(380+(375+(397+(290+2)))))))))))) ⟨boot_heap w.params,#[],boot_drawn,boot_toks,os⟩ (topStub pr)=some ⟨H1 w.params,#[],⟨0,0,0,0⟩,887,os⟩ :=
 go_top (pre w os) (piece_block (HY w os) (Kc Kd (piece_app (segRun_of (TM w os)) (piece_app (segRun_of (TN w os)) (piece_app (segRun_of (TQ w os)) (piece_app (segRun_of (TR w os)) (piece_app (segRun_of (TU w os)) (piece_app (segRun_of (TV w os)) (piece_app (segRun_of (TX w os)) (piece_app (segRun_of (TY w os)) (piece_app (segRun_of (TZ w os)) (piece_app (segRun_of (Pw w os)) (piece_nil (PZ w os))))))))))))))
noncomputable abbrev q:Program:=view pr [92]
noncomputable def loose:List Str:=(["greatest_shared","least_common","is_whole","is_number_below","are_two_wholes","is_told_as","LoadError","NoNumber","NoTree","TooMany","NOUGHT","lowest","plus","minus","times","over","under","sum_of","is_cut","is_within","parts_places","all_cuts","weighed","common_bottom","in_units","ON","BACK","other_way","is_over","sent_over","load_of","loads_of","strains_of","top_of","sent_by","top_by","turned_by","is_too_much","are_too_many","CUT","TURNED","SPLIT","MOST_WALKED","is_split","look_at_tree","branch_of","can_stand","is_too_full","times_over","MOST_SEARCHED","ways_for","bounds_of","searched","reason_against","wish_for_less","best_ways","_law_begun","_law_take","_law_low","_law_amount","_law_names","_law_rooms","_law_ends","_law_ring","_law_wholes","_law_on","_law_loads","_law_strained","_law_top","_law_turned","_law_all_ways","_law_wish","_law_kept","_law_lets","_law_least","_law_are_ways","_law_copy","_law_good"]:List String).map Str.ofString
noncomputable def Kf(P:Params):Frag:=(3,((OH P).getD 0 (0,default)).2)::[(20,(f1 P).getD 5 default),(21,(f1 P).getD 6 default),(27,(f2 P).getD 5 default),(28,(f2 P).getD 6 default),(34,(f4 P).getD 5 default),(35,(f4 P).getD 6 default),(41,(f5 P).getD 5 default),(42,(f5 P).getD 6 default),(48,(f6 P).getD 5 default),(49,(f6 P).getD 6 default),(55,(f7 P).getD 5 default),(56,(f7 P).getD 6 default),(57,(f9 P).getD 0 default),(58,(f9 P).getD 1 default),(59,(f9 P).getD 2 default),(60,(f9 P).getD 3 default),(61,(f9 P).getD 4 default),(62,(f9 P).getD 5 default),(63,(f9 P).getD 6 default),(64,(f9 P).getD 7 default),(65,(f9 P).getD 8 default),(66,(f9 P).getD 9 default),(67,(f9 P).getD 10 default),(68,(f9 P).getD 11 default),(69,(f9 P).getD 12 default),(70,(f9 P).getD 13 default),(71,(f9 P).getD 14 default),(72,(f9 P).getD 15 default),(73,(f9 P).getD 16 default),(74,(f9 P).getD 17 default),(75,(f9 P).getD 18 default),(76,(f9 P).getD 19 default),(77,(RY P).getD 0 default),(78,(RY P).getD 1 default),(79,(RY P).getD 2 default),(80,(RY P).getD 3 default),(81,(RY P).getD 4 default),(82,(RY P).getD 5 default),(83,(RY P).getD 6 default),(84,(RY P).getD 7 default),(85,(RY P).getD 8 default),(86,(RY P).getD 9 default),(87,(RY P).getD 10 default),(88,(RY P).getD 11 default),(89,(RZ P).getD 0 default),(90,(RZ P).getD 1 default),(91,(RZ P).getD 2 default),(92,(RZ P).getD 3 default),(93,(RZ P).getD 4 default),(94,(RZ P).getD 5 default),(95,(RZ P).getD 6 default),(96,(RZ P).getD 7 default),(97,(RZ P).getD 8 default),(98,(RZ P).getD 9 default),(99,(RZ P).getD 10 default),(100,(RZ P).getD 11 default),(101,(RZ P).getD 12 default),(102,(RZ P).getD 13 default),(103,(RZ P).getD 14 default),(104,(RZ P).getD 15 default),(105,(RZ P).getD 16 default),(106,(RZ P).getD 17 default),(107,(RZ P).getD 18 default),(108,(R0 P).getD 0 default),(109,(R0 P).getD 1 default),(110,(R0 P).getD 2 default),(111,(R0 P).getD 3 default),(112,(R0 P).getD 4 default),(113,(R0 P).getD 5 default),(114,(R0 P).getD 6 default),(115,(R0 P).getD 7 default),(116,(R0 P).getD 8 default),(117,(R0 P).getD 9 default),(118,(R0 P).getD 10 default),(119,(R0 P).getD 11 default),(120,(R1 P).getD 0 default),(126,(R3 P).getD 5 default),(127,(R3 P).getD 6 default),(133,(R4 P).getD 5 default),(134,(R4 P).getD 6 default),(140,(R5 P).getD 5 default),(141,(R5 P).getD 6 default),(147,(R6 P).getD 5 default),(148,(R6 P).getD 6 default),(154,(R7 P).getD 5 default),(155,(R7 P).getD 6 default),(161,(R8 P).getD 5 default),(162,(R8 P).getD 6 default),(168,(R9 P).getD 5 default),(169,(R9 P).getD 6 default),(175,(Sb P).getD 5 default),(176,(Sb P).getD 6 default),(182,(Sd P).getD 5 default),(183,(Sd P).getD 6 default),(189,(Se P).getD 5 default),(190,(Se P).getD 6 default),(194,(Sf P).getD 3 default),(195,(Sf P).getD 4 default),(199,(Sg P).getD 3 default),(200,(Sg P).getD 4 default),(206,(Sh P).getD 5 default),(207,(Sh P).getD 6 default),(211,(Si P).getD 3 default),(212,(Si P).getD 4 default),(218,(Sj P).getD 5 default),(219,(Sj P).getD 6 default),(225,(Sl P).getD 5 default),(226,(Sl P).getD 6 default),(232,(Sm P).getD 5 default),(233,(Sm P).getD 6 default),(237,(Sn P).getD 3 default),(238,(Sn P).getD 4 default),(242,(So P).getD 3 default),(243,(So P).getD 4 default),(247,(Sr P).getD 3 default),(248,(Sr P).getD 4 default),(254,(Ss P).getD 5 default),(255,(Ss P).getD 6 default),(259,(Su P).getD 3 default),(260,(Su P).getD 4 default),(266,(Sv P).getD 5 default),(267,(Sv P).getD 6 default),(271,(Sw P).getD 3 default),(272,(Sw P).getD 4 default),(278,(Sx P).getD 5 default),(279,(Sx P).getD 6 default),(285,(Sy P).getD 5 default),(286,(Sy P).getD 6 default),(292,(Sz P).getD 5 default),(293,(Sz P).getD 6 default),(297,(SA P).getD 3 default),(298,(SA P).getD 4 default),(304,(SB P).getD 5 default),(305,(SB P).getD 6 default),(311,(SC P).getD 5 default),(312,(SC P).getD 6 default),(316,(SD P).getD 3 default),(317,(SD P).getD 4 default),(321,(SE P).getD 3 default),(322,(SE P).getD 4 default),(326,(SF P).getD 3 default),(327,(SF P).getD 4 default),(331,(SG P).getD 3 default),(332,(SG P).getD 4 default),(336,(SH P).getD 3 default),(337,(SH P).getD 4 default),(343,(SI P).getD 5 default),(344,(SI P).getD 6 default),(348,(SJ P).getD 3 default),(349,(SJ P).getD 4 default),(353,(SK P).getD 3 default),(354,(SK P).getD 4 default),(360,(SL P).getD 5 default),(361,(SL P).getD 6 default),(367,(SN P).getD 5 default),(368,(SN P).getD 6 default),(374,(SO P).getD 5 default),(375,(SO P).getD 6 default),(381,(SQ P).getD 5 default),(382,(SQ P).getD 6 default),(386,(SR P).getD 3 default),(387,(SR P).getD 4 default),(393,(SS P).getD 5 default),(394,(SS P).getD 6 default),(400,(SU P).getD 5 default),(401,(SU P).getD 6 default),(407,(SV P).getD 5 default),(408,(SV P).getD 6 default),(412,(SW P).getD 3 default),(413,(SW P).getD 4 default),(419,(SX P).getD 5 default),(420,(SX P).getD 6 default),(424,(SY P).getD 3 default),(425,(SY P).getD 4 default),(431,(SZ P).getD 5 default),(432,(SZ P).getD 6 default),(438,(Ta P).getD 5 default),(439,(Ta P).getD 6 default),(443,(Tb P).getD 3 default),(444,(Tb P).getD 4 default),(448,(Tc P).getD 3 default),(449,(Tc P).getD 4 default),(453,(Td P).getD 3 default),(454,(Td P).getD 4 default),(460,(Te P).getD 5 default),(461,(Te P).getD 6 default),(467,(Tf P).getD 5 default),(468,(Tf P).getD 6 default),(474,(Th P).getD 5 default),(475,(Th P).getD 6 default),(479,(Ti P).getD 3 default),(480,(Ti P).getD 4 default),(484,(Tj P).getD 3 default),(485,(Tj P).getD 4 default),(491,(Tn P).getD 5 default),(492,(Tn P).getD 6 default),(496,(To P).getD 3 default),(497,(To P).getD 4 default)]
noncomputable abbrev as:List Addr:=[3,20,21,27,28,34,35,41,42,48,49,55,56,57,58,59,60,61,62,63,64,65,66,67,68,69,70,71,72,73,74,75,76,77,78,79,80,81,82,83,84,85,86,87,88,89,90,91,92,93,94,95,96,97,98,99,100,101,102,103,104,105,106,107,108,109,110,111,112,113,114,115,116,117,118,119,120,126,127,133,134,140,141,147,148,154,155,161,162,168,169,175,176,182,183,189,190,194,195,199,200,206,207,211,212,218,219,225,226,232,233,237,238,242,243,247,248,254,255,259,260,266,267,271,272,278,279,285,286,292,293,297,298,304,305,311,312,316,317,321,322,326,327,331,332,336,337,343,344,348,349,353,354,360,361,367,368,374,375,381,382,386,387,393,394,400,401,407,408,412,413,419,420,424,425,431,432,438,439,443,444,448,449,453,454,460,461,467,468,474,475,479,480,484,485,491,492,496,497]
noncomputable abbrev Hk:Hook:=kHook Kf as (λ_=>by kernel_rfl)
noncomputable abbrev Xt:Shared→Bool:=fun s=>xlAt q [] s && recOk (RowW.records PySem.Challenge.rw_ringloads_k48_ways_for_a_wish.row.toRowW) s
theorem size (w:World):((boot_heap w.params).isNs mainGlobals && (#[]:Array GenState).size == 0,(boot_heap w.params).objs.size,(boot_heap w.params).nsMap mainGlobals "__annotations__")=(true,11,some (.ref 6)):=by kernel_rfl
theorem Oh(w:World)(os:OsState):(staticsOk (importedModules pr.main.body) (boot_heap w.params) (H1 w.params) && namesBound pr (H1 w.params) && gensDone ⟨H1 w.params,#[],⟨0,0,0,0⟩,887,os⟩ && laidKept (boot_heap w.params) (H1 w.params))=true:=by kernel_rfl
theorem Oi(w:World)(os:OsState):openSeen q loose (importedModules pr.main.body) Xt true ⟨H1 w.params,#[],⟨0,0,0,0⟩,887,os⟩=openGood q loose:=by rw[Fast.te4187177175401517315];kernel_rfl
theorem Oj(w:World)(os:OsState):Hk.obs ⟨H1 w.params,#[],⟨0,0,0,0⟩,887,os⟩=Hk.val w:=by kernel_rfl
theorem MM:opening pr=plainProg pr.main.scope.names:=by kernel_rfl
theorem left:LeftO pr q loose Xt Hk.obs Hk.val 6870:=LeftO.of_pieces (M:=(12+(1+(208+(218+(214+(246+(386+(381+(380+(375+(397+(290+2))))))))))))) (boot_open MM xp (λs=>by kernel_rfl)) size run y_ (λw=>funext λos=>looks_pair (Oh w os) (looks_pair (Oi w os) (Oj w os)))
end Hd
namespace My
open PySem L2
local macro_rules | `(tactic| walk_at "w")=>do
 let ids:=("Dg Gb Jy Di Gd AD FU CY Ln Fy IE Lp Fz IF FM LD IY Jh JA Gf LO NK Ji LP NL Jk NM Br C5 KG Na HE Lk Aj wL yR LN FT Jf CU Bq FW yS ph aV QM aY av QL ak gK wC bj bH n8 bM aK bJ aX ar ma aF QF KC mv B3 mq ko FD KB QJ kZ M4 IH HF br d8 Bj yN CD EY u5 w4 noL gH dh FV Jg CW List.all_cons List.all_nil Bool.and_true Bool.true_and NI NJ t9 M6 IV tw kg FG me Bp M8 KF Oy LY F6 Jt Jd wY yX yY Bw aQ Dp Dq Gr hU cn k7 a8 mw fN Bh yt FH EX M5 mx yu Bf Gj Gk Gm Gn Gp JD JE JF JG Mh Mi JI JJ NV NW Dw Dx JL LH FP Dm vc Dz Dn AG ui rh Mj Gq List.length_map Do Dr Ds Dt Gs Bx Du yZ y6 y7 xq y9 vd Gu JH Bi CC FJ uS Ao n9 Gv JM Gw Gx Gy Gz By xr xt Dy JN Bl ub CG beq_self_eq_true String.reduceBEq String.reduceEq reduceCtorEq KD Bk cD bF dg aR Bn CN ud qU CM LG List.getElem?_cons_zero List.getElem?_cons_succ List.set_cons_zero List.set_cons_succ List.cons_append List.nil_append List.replicate_succ List.replicate_zero List.map_cons List.map_nil List.drop_succ_cons List.drop_zero Option.getD_some true_and decide_eq_true_eq Bool.not_eq_true' decide_eq_false_iff_not ite_true ite_false Bool.false_eq_true Bool.true_eq_false if_true if_false List.length_cons List.length_nil Nat.reduceAdd Nat.reduceSub xh xi JB Mg NS Pe Pf Pg Option.some.injEq exists_eq_left' exists_eq_left".splitOn " ").toArray.map fun s=>Lean.mkIdent ((s.splitOn ".").foldl Lean.Name.mkStr Lean.Name.anonymous)
 `(tactic| try simp only [$[$ids:ident],*])
local macro_rules | `(tactic| walk_at "o")=>`(tactic| first | exact Or.inl rfl | exact Or.inr rfl)
theorem v6{a b:Prop}(h:a∨b:=by walk_at "o"):a∨b:=h
noncomputable abbrev dO:Stmt:=Hd.top 1
noncomputable abbrev oA:List Str:=["one","other","rest"]
noncomputable abbrev gp:Stmt:=Hd.top 2
noncomputable abbrev tG:List Str:=["one","other"]
noncomputable abbrev oB:Stmt:=Hd.top 4
noncomputable abbrev BL:List Str:=["thing"]
noncomputable abbrev dP:Stmt:=Hd.top 5
noncomputable abbrev oC:List Str:=["thing","many"]
noncomputable abbrev eI:Stmt:=Hd.top 6
noncomputable abbrev qe:List Str:=["thing"]
noncomputable abbrev jf:Stmt:=Hd.top 7
noncomputable abbrev xH:List Str:=["thing","word","length"]
noncomputable abbrev vw:Stmt:=Hd.top 15
noncomputable abbrev G5:List Str:=["top","bottom","shared"]
noncomputable abbrev Eg:Stmt:=Hd.top 16
noncomputable abbrev MN:List Str:=["one","other"]
noncomputable abbrev zt:Stmt:=Hd.top 17
noncomputable abbrev Ke:List Str:=["one","other"]
noncomputable abbrev zu:Stmt:=Hd.top 18
noncomputable abbrev Kg:List Str:=["one","other"]
noncomputable abbrev Eh:Stmt:=Hd.top 19
noncomputable abbrev MO:List Str:=["one","other"]
noncomputable abbrev zw:Stmt:=Hd.top 20
noncomputable abbrev Kh:List Str:=["one","other"]
noncomputable abbrev vx:Stmt:=Hd.top 21
noncomputable abbrev G6:List Str:=["some","whole","one"]
noncomputable abbrev vz:Stmt:=Hd.top 23
noncomputable abbrev G7:List Str:=["ring","thing"]
noncomputable abbrev lj:Stmt:=Hd.top 24
noncomputable abbrev zx:List Str:=["cut","place"]
noncomputable abbrev gq:Stmt:=Hd.top 25
noncomputable abbrev tH:List Str:=["cut","one","other"]
noncomputable abbrev j7:Stmt:=Hd.top 26
noncomputable abbrev uu:List Str:=["ring","cuts","g"]
noncomputable abbrev fg:Stmt:=Hd.top 29
noncomputable abbrev rG:List Str:=["some","bottom","one"]
noncomputable abbrev j8:Stmt:=Hd.top 30
noncomputable abbrev uv:List Str:=["some","units"]
noncomputable abbrev jg:Stmt:=Hd.top 28
noncomputable abbrev rH:List Str:=["ring","top","sizes","most","units"]
noncomputable abbrev lp:Stmt:=Hd.top 34
noncomputable abbrev zy:List Str:=["way"]
noncomputable abbrev rJ:Stmt:=Hd.top 35
noncomputable abbrev Ei:List Str:=["ring","k","way","tie","places","one","other","lies_on"]
noncomputable abbrev lq:Stmt:=Hd.top 37
noncomputable abbrev zz:List Str:=["ring","sending","k","tie"]
noncomputable abbrev mT:Stmt:=Hd.top 38
noncomputable abbrev xI:List Str:=["ring","sending","tie"]
noncomputable abbrev j9:Stmt:=Hd.top 39
noncomputable abbrev uw:List Str:=["ring","sending"]
noncomputable abbrev fW:Stmt:=Hd.top 40
noncomputable abbrev pA:List Str:=["ring","sending"]
noncomputable abbrev vA:Stmt:=Hd.top 41
noncomputable abbrev G8:List Str:=["ring","sending","strains","top","tie","strain"]
noncomputable abbrev mU:Stmt:=Hd.top 43
noncomputable abbrev xJ:List Str:=["ring","ways"]
noncomputable abbrev vB:Stmt:=Hd.top 44
noncomputable abbrev G9:List Str:=["ring","ways"]
noncomputable abbrev ik:Stmt:=Hd.top 46
noncomputable abbrev rK:List Str:=["elder","ways","pairs"]
noncomputable abbrev ip:Stmt:=Hd.top 47
noncomputable abbrev vC:List Str:=["wish","load","bound"]
noncomputable abbrev gu:Stmt:=Hd.top 48
noncomputable abbrev tI:List Str:=["wish","ways"]
noncomputable abbrev oD:Stmt:=Hd.top 54
noncomputable abbrev BM:List Str:=["thing"]
noncomputable abbrev fX:Stmt:=Hd.top 59
noncomputable abbrev pB:List Str:=["ring","k","way","cut"]
noncomputable abbrev eR:Stmt:=Hd.top 58
noncomputable abbrev mV:List Str:=["ring","wish","scale","fixed","cut","most","load"]
noncomputable abbrev lr:Stmt:=Hd.top 57
noncomputable abbrev zB:List Str:=["ring","wish","scale","fixed","thing"]
noncomputable abbrev lu:Stmt:=Hd.top 56
noncomputable abbrev zC:List Str:=["here","way","tree","fixed"]
noncomputable abbrev dY:Stmt:=Hd.top 55
noncomputable abbrev kC:List Str:=["ring","wish","thing","scale","ahead","walked","here"]
noncomputable abbrev eK:Stmt:=Hd.top 65
noncomputable abbrev qf:List Str:=["wish","bounds","fixed","loads","cut","bound"]
noncomputable abbrev ka:Stmt:=Hd.top 64
noncomputable abbrev uy:List Str:=["ring","wish","sizes","bounds","fixed","loads","k","reason","trees","way","fuller","found"]
noncomputable abbrev fh:Stmt:=Hd.top 63
noncomputable abbrev lx:List Str:=["ring","scale","most","bounds","ask","size"]
noncomputable abbrev kc:Stmt:=Hd.top 62
noncomputable abbrev uz:List Str:=["ring","wish","scale"]
noncomputable abbrev dj:Stmt:=Hd.top 67
noncomputable abbrev jh:List Str:=["ring","top"]
noncomputable abbrev iq:Stmt:=Hd.top 68
noncomputable abbrev rL:List Str:=["ring","ways","top","found"]
noncomputable abbrev ji:Stmt:=Hd.top 70
noncomputable abbrev xK:List Str:=["_law_script","_law_k","_law_cell"]
noncomputable abbrev ly:Stmt:=Hd.top 71
noncomputable abbrev zD:List Str:=["_law_state","_law_many","_law_digit","_law_drawn","_law_turn"]
noncomputable abbrev ee:Stmt:=Hd.top 74
noncomputable abbrev jj:List Str:=["_law_state","_law_many","_law_letters","_law_base","_law_at","_law_turn"]
noncomputable abbrev oE:Stmt:=Hd.top 72
noncomputable abbrev BN:List Str:=["_law_top_here","_law_bottom","_law_one","_law_share"]
noncomputable abbrev ir:Stmt:=Hd.top 73
noncomputable abbrev vD:List Str:=["_law_state","_law_least_here","_law_kind","_law_bottom","_law_top_here"]
noncomputable abbrev jk:Stmt:=Hd.top 75
noncomputable abbrev xM:List Str:=["_law_state","_law_ties","_law_kind","_law_alike","_law_one","_law_rooms_here","_law_more"]
noncomputable abbrev lz:Stmt:=Hd.top 76
noncomputable abbrev zE:List Str:=["_law_state","_law_shape","_law_places","_law_k","_law_one","_law_other"]
noncomputable abbrev lA:Stmt:=Hd.top 77
noncomputable abbrev zF:List Str:=["_law_script","_law_at","_law_most","_law_count","_law_state","_law_places","_law_many","_law_kinds","_law_shape","_law_names_here","_law_rooms_here","_law_asks","_law_k","_law_one","_law_other"]
noncomputable abbrev rM:Stmt:=Hd.top 79
noncomputable abbrev Ej:List Str:=["_law_ring_here","_law_found","_law_name","_law_one","_law_other","_law_size","_law_ties","_law_place"]
noncomputable abbrev eS:Stmt:=Hd.top 78
noncomputable abbrev mW:List Str:=["_law_some","_law_bottom","_law_part","_law_one","_law_share"]
noncomputable abbrev oF:Stmt:=Hd.top 82
noncomputable abbrev BO:List Str:=["_law_ring_here","_law_loads_here","_law_bottom","_law_best","_law_tie","_law_room","_law_strain"]
noncomputable abbrev fY:Stmt:=Hd.top 80
noncomputable abbrev pC:List Str:=["_law_ring_here","_law_on_here","_law_sizes","_law_ways","_law_loads_here","_law_k","_law_tie"]
noncomputable abbrev cH:Stmt:=Hd.top 84
noncomputable abbrev fj:List Str:=["_law_many","_law_found","_law_k"]
noncomputable abbrev fk:Stmt:=Hd.top 85
noncomputable abbrev lB:List Str:=["_law_state","_law_ring_here","_law_on_here","_law_wholes_here","_law_many","_law_tops","_law_least_here","_law_top_here","_law_way","_law_strict","_law_elder","_law_most"]
noncomputable abbrev jm:Stmt:=Hd.top 88
noncomputable abbrev xN:List Str:=["_law_ring_here","_law_on_here","_law_wholes_here","_law_least_here","_law_ways","_law_top_here"]
noncomputable abbrev fm:Stmt:=Hd.top 90
noncomputable abbrev lC:List Str:=["_law_thing"]
noncomputable abbrev fo:Stmt:=Hd.top 81
noncomputable abbrev rN:List Str:=["_law_ring_here","_law_loads_here","_law_bottom","_law_top_here","_law_strict","_law_tie","_law_room","_law_load","_law_most"]
noncomputable abbrev eT:Stmt:=Hd.top 83
noncomputable abbrev mX:List Str:=["_law_elder","_law_ways"]
noncomputable abbrev lD:Stmt:=Hd.top 86
noncomputable abbrev zG:List Str:=["_law_ring_here","_law_on_here","_law_wholes_here","_law_wish_here","_law_ways","_law_loads_here"]
noncomputable abbrev lE:Stmt:=Hd.top 87
noncomputable abbrev zH:List Str:=["_law_ring_here","_law_wish_here","_law_tree"]
noncomputable abbrev dk:Stmt:=Hd.top 89
noncomputable abbrev jo:List Str:=["_law_thing","_law_many"]
noncomputable abbrev lF:Stmt:=Hd.top 91
noncomputable abbrev zJ:List Str:=["_law_ring_here","_law_on_here","_law_wholes_here","_law_wish_here","_law_found","_law_keeps"]
noncomputable abbrev BP:Stmt:=Hd.top 92
noncomputable abbrev Ki:List Str:=["_law_script","_law_state","_law_wide","_law_ring_here","_law_on_here","_law_wholes_here","_law_k","_law_wish_here","_law_keeps","_law_handed","_law_found"]
def cx:FS:=λls kz=>∃a b:Int,ls=[.d (.int a),.d (.int b)]/\kz (.d (.int (Int.gcd a b))) ls
def lG:W Fl:=(aV (bj 2 (av fN (ak 0) (ak 1)))
  (aV (bj 0 (ak 1))
  (bj 1 (ak 2))))
def dQ:W Fl:=(aV (kq (aY (av yu (ak 1) (wC (.int 0)))) lG)
  (bH (aX Bi (ar (ak 0) aF))))
theorem lH:∀ls kz,ls.length=2->cx ls kz->dQ (ls++List.replicate 1 .un) (aW ls kz):=by
 rintro ls kz - ⟨a,b,rfl,h⟩;unfold dQ;walk_at "w";refine⟨λn Z=>∃x y r,Z=[.d (.int x),.d (.int y),r]/\Int.gcd x y=Int.gcd a b/\n=y.natAbs,⟨_,a,b,_,rfl,rfl,rfl⟩,?_⟩;rintro n Z ⟨x,y,r,rfl,hg,rfl⟩;walk_at "w";split
 .
  rename_i hy;have hy:y≠0:=by simpa using hy
  exact⟨hy,_,gm x hy,y,x.fmod y,_,rfl,by rw[uY];exact hg,rfl⟩
 .
  rename_i hy;have hy:y=0:=by simpa using hy
  subst hy;refine⟨_,aj (aj aM),?_⟩
  have e:(if x<0 then -x else x)=((Int.gcd a b:Nat):Int):=by rw[<- hg,Int.gcd_zero_right];split<;>omega
  rw[e];exact h
def ft:FS:=λls kz=>∃a b:Nat,ls=[.d (.int a),.d (.int b)]/\0<b/\a<2^4400/\b<2^4400/\kz (.d (.int (Nat.lcm a b))) ls
def gv:W Fl:=(bH (av a8 (av mw (ak 0) (aK cx (ar (ak 0) (ar (ak 1) aF)))) (ak 1)))
theorem qg:∀ls kz,ls.length=2->ft ls kz->gv (ls++List.replicate 0 .un) (aW ls kz):=by
 rintro ls kz - ⟨a,b,rfl,hb,ha,hb2,h⟩;unfold gv;walk_at "w";refine⟨_,_,rfl,?_⟩;walk_at "w";have g0:0<Int.gcd (a:Int) (b:Int):=Nat.gcd_pos_of_pos_right _ hb;have g1:Int.gcd (a:Int) (b:Int)<=b:=Nat.gcd_le_right _ hb;have e1:((a:Int).fdiv (Int.gcd (a:Int) (b:Int):Int)).natAbs<=a:=by rw[Int.fdiv_eq_ediv_of_nonneg _ xL];show(((a:Int) / ((Nat.gcd a b:Nat):Int))).natAbs<=a;rw[<- Int.natCast_ediv,Int.natAbs_natCast];exact Nat.div_le_self _ _
 refine⟨xL,?_,?_,?_,?_⟩
 . rw[Int.natAbs_natCast];exact Uv g1 (so hb2 (Us xp xp))
 . exact aP (Uv e1 ha) xp
 . exact aP (n:=4400) (by rw[Int.natAbs_natCast];exact hb2) xp
 . rw[DN hb];exact⟨_,aj (aj aM),h⟩
def fu:FS:=λls kz=>(∃i:Int,ls=[.d (.int i)]/\kz (.d (.bl true)) ls)∨∃d:D,ls=[.d d]/\(∀i,d≠.int i)/\kz (.d (.bl false)) ls
def kd:W Fl:=(bH (kZ (QL (n9 "int") (ak 0)) (IH (aY (QL (n9 "bool") (ak 0))))))
theorem xO:∀ls kz,ls.length=1->fu ls kz->kd (ls++List.replicate 0 .un) (aW ls kz):=by
 rintro ls kz-(⟨i,rfl,h⟩|⟨d,rfl,hd,h⟩)
 . unfold kd;walk_at "w";exact⟨_,aj aM,h⟩
 .
  unfold kd
  cases d with
  |int i=>exact absurd rfl (hd i)
  |_=>walk_at "w"; exact⟨_,aj aM,h⟩
def dm:FS:=λls kz=>∃(d:D)(n:Int),ls=[.d d,.d (.int n)]/\kz (.d (.bl (G3 d n))) ls
def dR:W Fl:=(bH (kZ (aK fu (ar (ak 0) aF)) (wY FH yt (wC (.int 0)) (ak 0) (ak 1))))
theorem lI:∀ls kz,ls.length=2->dm ls kz->dR (ls++List.replicate 0 .un) (aW ls kz):=by
 rintro ls kz - ⟨d,n,rfl,h⟩;unfold dR;by_cases hd:∃i,d=.int i
 .
  obtain⟨i,rfl⟩:=hd;have h:kz (.d (.bl (decide (0<=i/\i<n)))) [.d (.int i),.d (.int n)]:=h;walk_at "w";refine .inl ⟨i,rfl,?_⟩;walk_at "w";by_cases c:0<=i
  .
   rw[if_pos c];have e:decide (0<=i/\i<n)=decide (i<n):=by rw[decide_eq_decide];omega
   rw[e]at h;exact⟨_,aj (aj aM),h⟩
  . rw[if_neg c];have e:decide (0<=i/\i<n)=false:=decide_eq_false xL;rw[e]at h;exact⟨_,aj (aj aM),h⟩
 .
  have e:G3 d n=false:=by
   unfold G3;split
   . exact absurd ⟨_,rfl⟩ hd
   . rfl
  rw[e]at h;walk_at "w";refine .inr ⟨d,rfl,λi e=>hd ⟨i,e⟩,?_⟩;walk_at "w";exact⟨_,aj (aj aM),h⟩
noncomputable def Ol:D->Bool
 |.tup [.int _,.int _]=>true
 |_=>false
theorem Kj{d:D}(h:Ol d=true):∃i j,d=.tup [.int i,.int j]:=by
 unfold Ol at h;split at h
 . exact⟨_,_,rfl⟩
 . cases h
theorem Ek(d:D):(∃i j,d=.tup [.int i,.int j])∨(∀i j,d≠.tup [.int i,.int j]):=by
 cases h:Ol d with
 |true=>exact .inl (Kj h)
 |false=>exact .inr λi j e=>by subst e;cases h
def dS:FS:=λls kz=>(∃i j:Int,ls=[.d (.tup [.int i,.int j])]/\kz (.d (.bl true)) ls)∨∃d:D,ls=[.d d]/\(∀i j,d≠.tup [.int i,.int j])/\kz (.d (.bl false)) ls
def cV:W Fl:=(bH (kZ (QL (n9 "tuple") (ak 0)) (kZ (av mx (aX bN (ar (ak 0) aF)) (wC (.int 2))) (kZ (aK fu (ar (av aG (ak 0) (wC (.int 0))) aF)) (aK fu (ar (av aG (ak 0) (wC (.int 1))) aF))))))
theorem mY:∀ls kz,ls.length=1->dS ls kz->cV (ls++List.replicate 0 .un) (aW ls kz):=by
 rintro ls kz-(⟨i,j,rfl,h⟩|⟨d,rfl,hd,h⟩)
 . unfold cV;walk_at "w";refine .inl ⟨_,rfl,?_⟩;walk_at "w";refine .inl ⟨_,rfl,?_⟩;walk_at "w";exact⟨_,aj aM,h⟩
 .
  unfold cV;have PZ:aW [.d d] kz (.rt (.d (.bl false))) [.d d]:=⟨_,aj aM,h⟩;by_cases ht:∃xs,d=.tup xs
  .
   obtain⟨xs,rfl⟩:=ht;by_cases hl:xs.length=2
   .
    obtain⟨x,y,rfl⟩:∃x y,xs=[x,y]:=by rcases xs with _|⟨x,_|⟨y,_|⟨z,r⟩⟩⟩<;>simp at hl;exact⟨_,_,rfl⟩
    have wh:∀z:D,(∃i,z=.int i)∨(∀i,z≠.int i):=λz=>by cases z<;>simp
    walk_at "w";rcases wh x with⟨i,rfl⟩|hx
    .
     refine .inl ⟨_,rfl,?_⟩;rcases wh y with⟨j,rfl⟩|hy
     . exact absurd rfl (hd i j)
     . walk_at "w";refine .inr ⟨_,rfl,hy,?_⟩;walk_at "w";exact PZ
    . refine .inr ⟨_,rfl,hx,?_⟩;walk_at "w";exact PZ
   .
    walk_at "w";have e:¬((xs.length:Int)=2):=by omega
    simp only[e,decide_false];exact PZ
  .
   have ei:nZ "tuple" d=false:=by
    cases d<;>first
     |exact absurd ⟨_,rfl⟩ ht
     |rfl
   walk_at "w";rw[ei];walk_at "w";exact PZ
def cL:FS:=λls kz=>∃(d:D)(tag:Str)(n:Nat),ls=[.d d,.d (.str tag),.d (.int (n:Int))]/\1<=n/\PyData.strOk tag=true/\MD d/\kz (.d (.bl (Ec d tag n))) ls
def kD:W Fl:=(bH (kZ (QL (n9 "str") (av aG (ak 0) (wC (.int 0)))) (av mx (av aG (ak 0) (wC (.int 0))) (ak 1))))
def jq:W Fl:=(aV (QM (QJ (FD (aY (QL (n9 "tuple") (ak 0)))) (aY (av yu (aX bN (ar (ak 0) aF)) (ak 2)))) (bH (wC (.bl false))) bM)
  kD)
theorem tJ:∀ls kz,ls.length=3->cL ls kz->jq (ls++List.replicate 0 .un) (aW ls kz):=by
 rintro ls kz - ⟨d,tag,n,rfl,hn,ht,hd,h⟩;unfold jq;by_cases hu:∃xs,d=.tup xs
 .
  obtain⟨xs,rfl⟩:=hu;rw[Ed]at h;walk_at "w";by_cases e:xs.length=n
  .
   rw[if_neg (by omega)];rw[decide_eq_true e,Bool.true_and]at h
   match xs,e,hd,h with
   |[],e,_,_=>rw[List.length_nil]at e;omega
   | x::r,e,hd,h =>
    unfold kD;by_cases hx:∃z,x=.str z
    . obtain⟨z,rfl⟩:=hx;have hz:=hd _ z rfl rfl;walk_at "w";exact⟨bR (n:=0) (by simpa[Q3]using hz) xp,bR (n:=0) (by simpa[Q3]using ht) xp,_,aj (aj (aj aM)),h⟩
    .
     have ei:nZ "str" x=false:=by
      cases x<;>first
       |exact absurd ⟨_,rfl⟩ hx
       |rfl
     have et:Nl tag x=false:=by
      cases x<;>first
       |exact absurd ⟨_,rfl⟩ hx
       |rfl
     have h:kz (.d (.bl (Nl tag x))) [.d (.tup (x::r)),.d (.str tag),.d (.int (n:Int))]:=h;rw[et]at h;walk_at "w";rw[ei];walk_at "w";exact⟨_,aj (aj (aj aM)),h⟩
  . rw[if_pos (by omega)];rw[decide_eq_false e,Bool.false_and]at h;exact⟨_,aj (aj (aj aM)),h⟩
 .
  have ei:nZ "tuple" d=false:=by
   cases d<;>first
    |exact absurd ⟨_,rfl⟩ hu
    |rfl
  have et:Ec d tag n=false:=by
   cases d<;>first
    |exact absurd ⟨_,rfl⟩ hu
    |rfl
  rw[et]at h;walk_at "w";rw[ei];walk_at "w";exact⟨_,aj (aj (aj aM)),h⟩
def gO:FS:=λls kz=>∃t b:Int,ls=[.d (.int t),.d (.int b)]/\b≠0/\b.natAbs<2^9000/\kz (.d (Q2 (Rat.divInt t b))) ls
def vE:W Fl:=(aV (bj 2 (br (aK cx (ar (ak 0) (ar (ak 1) aF)))))
  (aV (QM (aY (av yt (ak 1) (wC (.int 0)))) (bj 2 (QL Bf (ak 2))) bM)
  (bH (mq (ar (av mw (ak 0) (ak 2)) (ar (av mw (ak 1) (ak 2)) aF))))))
theorem BQ:∀ls kz,ls.length=2->gO ls kz->vE (ls++List.replicate 1 .un) (aW ls kz):=by
 rintro ls kz - ⟨t,b,rfl,hb,hz,h⟩;unfold vE;walk_at "w";refine⟨t,b,rfl,?_⟩;walk_at "w";have h1:=Ar (t:=t) hb;have h2:=Uv (As (t:=t) hb) hz
 have PZ:∀{g:Int}{Z:Ev},g=cQ t b->g≠0/\g.natAbs<2^9000/\g≠0/\g.natAbs<2^9000/\2<=sizeLine/\aW [.d (.int t),.d (.int b)] kz (.rt (.d (.tup [.int (t.fdiv g),.int (b.fdiv g)]))) Z:=λ{g Z} e=>by
  have e1:g≠0:=by rw[e];exact h1
  have e2:g.natAbs<2^9000:=by rw[e];exact h2
  refine⟨e1,e2,e1,e2,xp,_,aj (aj aM),?_⟩;rw[AF hb e];exact h
 split
 . rename_i hlt;exact PZ (by simp[cQ,hlt])
 . rename_i hlt;exact PZ (by simp[cQ,hlt])
def zK:FS:=λls kz=>∃p q:Rat,ls=[.d (Q2 p),.d (Q2 q)]/\RB 400000 p/\RB 400000 q/\p.den*q.den<2^9000/\kz (.d (Q2 (p+q))) ls
def El:W Fl:=(bH (aK gO (ar (br (av cn (av a8 (av aG (ak 0) (wC (.int 0))) (av aG (ak 1) (wC (.int 1)))) (av a8 (av aG (ak 1) (wC (.int 0))) (av aG (ak 0) (wC (.int 1)))))) (ar (br (av a8 (av aG (ak 0) (wC (.int 1))) (av aG (ak 1) (wC (.int 1))))) aF))))
theorem Ha:∀ls kz,ls.length=2->zK ls kz->El (ls++List.replicate 0 .un) (aW ls kz):=by rintro ls kz - ⟨p,q,rfl,hp,hq,hz,h⟩;unfold El;simp only[Q2];walk_at "w";refine⟨hp.bn xp,hq.bd xp,hq.bn xp,hp.bd xp,hp.bd xp,hq.bd xp,_,_,rfl,vb p q,by rw[qy];exact hz,_,aj (aj aM),?_⟩;rw[Au];exact h
def qD:FS:=λls kz=>∃p q:Rat,ls=[.d (Q2 p),.d (Q2 q)]/\RB 400000 p/\RB 400000 q/\p.den*q.den<2^9000/\kz (.d (Q2 (p-q))) ls
def zL:W Fl:=(bH (aK gO (ar (av k7 (av a8 (av aG (ak 0) (wC (.int 0))) (av aG (ak 1) (wC (.int 1)))) (av a8 (av aG (ak 1) (wC (.int 0))) (av aG (ak 0) (wC (.int 1))))) (ar (br (av a8 (av aG (ak 0) (wC (.int 1))) (av aG (ak 1) (wC (.int 1))))) aF))))
theorem Em:∀ls kz,ls.length=2->qD ls kz->zL (ls++List.replicate 0 .un) (aW ls kz):=by rintro ls kz - ⟨p,q,rfl,hp,hq,hz,h⟩;unfold zL;simp only[Q2];walk_at "w";refine⟨hp.bn xp,hq.bd xp,hq.bn xp,hp.bd xp,hp.bd xp,hq.bd xp,_,_,rfl,vb p q,by rw[qy];exact hz,_,aj (aj aM),?_⟩;rw[LF];exact h
theorem En{p q:Rat}{kz:L->List L->Prop}(hp:RB 4400 p)(hq:RB 4400 q)(h:kz (.d (Q2 (p-q))) [.d (Q2 p),.d (Q2 q)]):qD [.d (Q2 p),.d (Q2 q)] kz :=
 ⟨p,q,rfl,hp.mono xp,hq.mono xp,so (ba hp.2 hq.2) (Us xp xp),h⟩
def vF:FS:=λls kz=>∃p q:Rat,ls=[.d (Q2 p),.d (Q2 q)]/\RB 4400 p/\RB 4400 q/\kz (.d (Q2 (p*q))) ls
def zM:W Fl:=(bH (aK gO (ar (br (av a8 (av aG (ak 0) (wC (.int 0))) (av aG (ak 1) (wC (.int 0))))) (ar (br (av a8 (av aG (ak 0) (wC (.int 1))) (av aG (ak 1) (wC (.int 1))))) aF))))
theorem Eo:∀ls kz,ls.length=2->vF ls kz->zM (ls++List.replicate 0 .un) (aW ls kz):=by
 rintro ls kz - ⟨p,q,rfl,hp,hq,h⟩;unfold zM;walk_at "w";refine⟨hp.bn xp,hq.bn xp,hp.bd xp,hq.bd xp,_,_,rfl,vb p q,?_,_,aj (aj aM),?_⟩
 . rw[qy];exact so (ba hp.2 hq.2) (Us xp xp)
 . rw[HN];exact h
def zN:FS:=λls kz=>∃p q:Rat,ls=[.d (Q2 p),.d (Q2 q)]/\RB 4400 p/\RB 4400 q/\q≠0/\kz (.d (Q2 (p / q))) ls
def Ep:W Fl:=(aV (QM (aY (av mx (av aG (ak 1) (wC (.int 0))) (wC (.int 0)))) Ak bM)
  (bH (aK gO (ar (br (av a8 (av aG (ak 0) (wC (.int 0))) (av aG (ak 1) (wC (.int 1))))) (ar (br (av a8 (av aG (ak 0) (wC (.int 1))) (av aG (ak 1) (wC (.int 0))))) aF)))))
theorem Hb:∀ls kz,ls.length=2->zN ls kz->Ep (ls++List.replicate 0 .un) (aW ls kz):=by
 rintro ls kz - ⟨p,q,rfl,hp,hq,h0,h⟩;unfold Ep;walk_at "w";rw[if_neg (xk h0)];walk_at "w";refine⟨hp.bn xp,hq.bd xp,hp.bd xp,hq.bn xp,_,_,rfl,Int.mul_ne_zero (lh p) (xk h0),?_,_,aj (aj aM),?_⟩
 . rw[Int.natAbs_mul,Int.natAbs_natCast];exact so (ba hp.2 hq.1) (Us xp xp)
 . rw[HP p h0];exact h
def vG:FS:=λls kz=>∃p q:Rat,ls=[.d (Q2 p),.d (Q2 q)]/\RB 400000 p/\RB 400000 q/\kz (.d (.bl (decide (p<q)))) ls
def zP:W Fl:=(bH (av yt (av a8 (av aG (ak 0) (wC (.int 0))) (av aG (ak 1) (wC (.int 1)))) (av a8 (av aG (ak 1) (wC (.int 0))) (av aG (ak 0) (wC (.int 1))))))
theorem Er:∀ls kz,ls.length=2->vG ls kz->zP (ls++List.replicate 0 .un) (aW ls kz):=by rintro ls kz - ⟨p,q,rfl,hp,hq,h⟩;unfold zP;walk_at "w";refine⟨hp.bn xp,hq.bd xp,hq.bn xp,hp.bd xp,_,aj (aj aM),?_⟩;rw[NU];exact h
def rO:FS:=λls kz=>∃(qs:List Rat)(x:D),ls=[.d x]/\(x=.lst (qs.map Q2)∨x=.tup (qs.map Q2))/\qs.length<=63/\(∀q∈qs,RB 4400 q)/\Mo qs/\kz (.d (Q2 (xn qs))) ls
def gQ:W Fl:=(bj 1 (aK zK (ar (ak 1) (ar (ak 2) aF))))
def vH:W Fl:=(aV (bj 1 (wC (.tup [(.int 0),(.int 1)])))
  (aV (tw (me (ak 0)) (aQ 2) gQ)
  (bH (gK 1))))
theorem vI{x:D}{kz:Fl->Ev->Prop}:∀(qs:List Rat)(acc:Rat)(n:Nat)(r:L),qs.length<=63->n+4401*qs.length<=400000->RB n acc->(∀q∈qs,RB 4400 q)->acc.den*wo qs<2^9000->(∀r',kz .nx [.d x,.d (Q2 (qs.foldl (·+·) acc)),r']) ->
  eZ (aQ 2) gQ (qs.map Q2) [.d x,.d (Q2 acc),r] kz
 |[],acc,n,r,_,_,_,_,_,h=>h r
 | q::qs,acc,n,r,hl,hn,ha,hq,hd,h=>by have hd':acc.den*(q.den*wo qs)<2^9000:=hd;have hq1:=hq q tv;have hlc:(q::qs).length=qs.length+1:=rfl;have dpos:0<wo qs:=mK qs;have hz:acc.den*q.den<2^9000:=Uv (by rw[<- Nat.mul_assoc];exact Nat.le_mul_of_pos_right _ dpos) hd';show eZ _ _ (Q2 q::qs.map Q2) _ _;unfold eZ gQ;walk_at "w";refine⟨acc,q,rfl,ha.mono xL,hq1.mono xp,hz,?_⟩;refine vI qs (acc+q) (n+4400+1) _ xL xL (ha.add hq1) (λz hz=>hq z (k5 _ hz)) (Uv ?_ hd') h;rw[<- Nat.mul_assoc];exact Nat.mul_le_mul_right _ (Bm acc q)
theorem rP{x:D}{E:Nat}(e0:0<E)(e1:E<2^4400){kz:Fl->Ev->Prop}:∀(qs:List Rat)(acc:Rat)(n:Nat)(r:L),qs.length<=63->n+4401*qs.length<=400000->RB n acc->(∀q∈qs,RB 4400 q)->acc.den∣E->(∀q∈qs,q.den∣E)->(∀r',kz .nx [.d x,.d (Q2 (qs.foldl (·+·) acc)),r']) ->
  eZ (aQ 2) gQ (qs.map Q2) [.d x,.d (Q2 acc),r] kz
 |[],acc,n,r,_,_,_,_,_,_,h=>h r
 | q::qs,acc,n,r,hl,hn,ha,hq,hd,hds,h=>by have hq1:=hq q tv;have hq2:=hds q tv;have hlc:(q::qs).length=qs.length+1:=rfl;have hz:acc.den*q.den<2^9000:=so (ba (m:=4400) (n:=4400) (Uv (Nat.le_of_dvd e0 hd) e1) (Uv (Nat.le_of_dvd e0 hq2) e1)) (Us xp xp);show eZ _ _ (Q2 q::qs.map Q2) _ _;unfold eZ gQ;walk_at "w";refine⟨acc,q,rfl,ha.mono xL,hq1.mono xp,hz,?_⟩;exact rP e0 e1 qs (acc+q) (n+4400+1) _ xL xL (ha.add hq1) (λz hz=>hq z (k5 _ hz)) (JT e0 hd hq2) (λz hz=>hds z (k5 _ hz)) h
theorem BR:∀ls kz,ls.length=1->rO ls kz->vH (ls++List.replicate 2 .un) (aW ls kz):=by
 rintro ls kz - ⟨qs,x,rfl,hx,hl,hq,hd,h⟩;unfold vH;have PZ:∀r',aW [.d x] kz (.rt (.d (Q2 (xn qs)))) [.d x,.d (Q2 (xn qs)),r']:=λr'=>⟨_,aj aM,h⟩;rcases hx with rfl|rfl
 .
  walk_at "w";rcases hd with hd|⟨E,e0,e1,hd⟩
  . exact vI qs 0 1 .un hl xL ⟨xp,xp⟩ hq (by show 1*_<_;rw[Nat.one_mul];exact hd) λr'=>PZ r'
  . exact rP e0 e1 qs 0 1 .un hl xL ⟨xp,xp⟩ hq (Nat.one_dvd _) hd λr'=>PZ r'
 .
  walk_at "w";rcases hd with hd|⟨E,e0,e1,hd⟩
  . exact vI qs 0 1 .un hl xL ⟨xp,xp⟩ hq (by show 1*_<_;rw[Nat.one_mul];exact hd) λr'=>PZ r'
  . exact rP e0 e1 qs 0 1 .un hl xL ⟨xp,xp⟩ hq (Nat.one_dvd _) hd λr'=>PZ r'
def rQ:FS:=λls kz=>∃(R:aS)(d:D),ls=[.d (a5 R),.d d]/\kz (.d (.bl (KL R.n d))) ls
def vJ:W Fl:=(bH (kZ (aK dS (ar (ak 1) aF)) (yS (wC (.int 0)) [(FH,(av aG (ak 1) (wC (.int 0)))),(FH,(av aG (ak 1) (wC (.int 1)))),(yt,(aX bN (ar (av aG (ak 0) (wC (.int 0))) aF)))])))
theorem BS:∀ls kz,ls.length=2->rQ ls kz->vJ (ls++List.replicate 0 .un) (aW ls kz):=by
 rintro ls kz - ⟨R,d,rfl,h⟩;unfold vJ;walk_at "w";rcases Ek d with⟨i,j,rfl⟩|hd
 .
  refine .inl ⟨i,j,rfl,?_⟩;walk_at "w";have PZ:∀b:Bool,b=KL R.n (.tup [.int i,.int j])->aW [.d (a5 R),.d (.tup [.int i,.int j])] kz (.rt (.d (.bl b))) [.d (a5 R),.d (.tup [.int i,.int j])]:=λb hb=>by subst hb;exact⟨_,aj (aj aM),h⟩
  have ec:KL R.n (.tup [.int i,.int j])=decide (0<=i/\i<=j/\j<(R.n:Int)):=rfl;by_cases c1:0<=i<;>by_cases c2:i<=j<;>by_cases c3:j<(R.n:Int)<;>simp only[c1,c2,c3,if_true,if_false,decide_true,decide_false]<;>refine PZ _ ?_<;>rw[ec]<;>simp only[c1,c2,c3]<;>decide
 . refine .inr ⟨d,rfl,hd,?_⟩;walk_at "w";rw[J9 hd]at h;exact⟨_,aj (aj aM),h⟩
def fZ:FS:=λls kz=>∃(c:Nat×Nat)(p:Nat),ls=[.d (je c),.d (.int p)]/\kz (.d (.bl (kj c p))) ls
def lJ:W Fl:=(bH (wY yt FH (av aG (ak 0) (wC (.int 0))) (ak 1) (av aG (ak 0) (wC (.int 1)))))
theorem vK:∀ls kz,ls.length=2->fZ ls kz->lJ (ls++List.replicate 0 .un) (aW ls kz):=by
 rintro ls kz - ⟨c,p,rfl,h⟩;unfold lJ;walk_at "w";unfold kj at h;split
 .
  rename_i h1;refine⟨_,aj (aj aM),?_⟩;have e:decide ((p:Int)<=(c.2:Int))=decide (c.1<p/\p<=c.2):=by rw[decide_eq_decide];omega
  rw[e];exact h
 . rename_i h1;refine⟨_,aj (aj aM),?_⟩;rw[decide_eq_false (show ¬(c.1<p/\p<=c.2) by omega)]at h;exact h
def dz:FS:=λls kz=>∃(c:Nat×Nat)(i j:Nat),ls=[.d (je c),.d (.int i),.d (.int j)]/\kz (.d (.bl (apart c i j))) ls
def gw:W Fl:=(bH (av yu (aK fZ (ar (ak 0) (ar (ak 1) aF))) (aK fZ (ar (ak 0) (ar (ak 2) aF)))))
theorem qh:∀ls kz,ls.length=3->dz ls kz->gw (ls++List.replicate 0 .un) (aW ls kz):=by
 rintro ls kz - ⟨c,i,j,rfl,h⟩;unfold gw;walk_at "w";refine⟨c,i,rfl,?_⟩;walk_at "w";refine⟨c,j,rfl,?_⟩;walk_at "w";refine⟨_,aj (aj (aj aM)),?_⟩;have e:(!decide (kj c i=kj c j))=apart c i j:=by unfold apart;cases kj c i<;>cases kj c j<;>rfl
 rw[e];exact h
def lK:FS:=λls kz=>∃(R:aS),ls=[.d (a5 R)]/\R.Ok/\∀c,kz (.own c ((p9 R.n).map je)) ls
def pD:W L:=(mq (ar (ak 1) (ar (ak 0) aF)))
def pE:W Fl:=(n8 (NI 1 (cD 1 [2] (FG (ak 2) (aX bN (ar (av aG (ak 0) (wC (.int 0))) aF))) (aQ 0) bZ pD)))
def oG:W Fl:=(aV (bj 1 (ko aF))
  (aV (tw (kg (aX bN (ar (av aG (ak 0) (wC (.int 0))) aF))) (aQ 2) pE)
  (bH (gK 1))))
theorem BU{α:Type}(f:Nat->List α)(k:Nat):(List.range (k+1)).flatMap f=(List.range k).flatMap f++f k:=by rw[List.range_succ,List.flatMap_append];simp
theorem Es{n k:Nat}(hn:n<=12)(hk:k<=n):((List.range k).flatMap λg=>(List.range (n-g)).map λi=>(g,g+i)).length<=144:=by
 have:∀(m:Fin 13)(j:Fin 13),((List.range j.1).flatMap λg=>(List.range (m.1-g)).map λi=>(g,g+i)).length<=144:=by decide
 exact this ⟨n,xL⟩ ⟨k,xL⟩
theorem xP:∀ls kz,ls.length=1->lK ls kz->oG (ls++List.replicate 2 .un) (aW ls kz):=by
 rintro ls kz - ⟨R,rfl,hR,h⟩;have hhi:=hR.hi;unfold oG;walk_at "w";refine⟨xp,λc=>⟨⟨xL,xL⟩,?_⟩⟩;rw[Int.toNat_natCast];refine gM _ (λk Z=>∃x2,Z=[.d (a5 R),.own c (((List.range k).flatMap λg=>(List.range (R.n-g)).map λi=>(g,g+i)).map je),x2]) _ ⟨_,rfl⟩ ?_ ?_
 .
  rintro g Z hg ⟨x2,rfl⟩ Q h1 h2 h3 h4;unfold pE;walk_at "w";refine⟨⟨xL,xL⟩,⟨xL,xL⟩,?_⟩;have e:((R.n:Int)-(g:Int)).toNat=R.n-g:=by omega
  have e2:wm (g:Int) (R.n-g)=(List.range (R.n-g)).map λ(i:Nat)=>D.int ((g:Int)+(i:Int)):=rfl;rw[e,e2];refine⟨by rw[Up,List.length_range];exact Ur (show R.n-g<=12 by omega) xp,?_⟩;refine bt (h:=λi=>je (g,g+i)) _ _ _ (λi hi Q' q=>?_) λl' a=>?_
  .
   unfold pD;walk_at "w";refine⟨xp,?_⟩;have e3:D.tup [.int (g:Int),.int ((g:Int)+(i:Int))]=je (g,g+i):=by unfold je;show _=D.tup [.int (g:Int),.int ((g+i:Nat):Int)];rw[Int.natCast_add]
   rw[e3];exact q
  .
   walk_at "w";have hl:=Es (k:=g) hhi xL;refine⟨?_,h1 _ ⟨.d (.int g),?_⟩⟩
   . rw[List.length_range];exact Ur (show _<=200 by omega) xp
   . rw[BU,List.map_append,List.map_map];rfl
 . rintro Z ⟨x2,rfl⟩;walk_at "w";exact⟨_,aj aM,h c⟩
def eL:FS:=λls kz=>∃(qs:List Rat)(P:Nat),ls=[.d (.lst (qs.map Q2))]/\(∀q∈qs,q.den∣P)/\0<P/\P<2^4400/\kz (.d (.int (RE qs))) ls
def gR:W Fl:=(bj 1 (aK ft (ar (ak 1) (ar (av aG (ak 2) (wC (.int 1))) aF))))
def fv:W Fl:=(aV (bj 1 (wC (.int 1)))
  (aV (tw (me (ak 0)) (aQ 2) gR)
  (bH (gK 1))))
theorem oH:∀ls kz,ls.length=1->eL ls kz->fv (ls++List.replicate 2 .un) (aW ls kz):=by
 rintro ls kz - ⟨qs,P,rfl,hd,hP,hP2,h⟩;unfold fv;walk_at "w";refine fT (enc:=Q2) qs (λpre Z=>∃x2,Z=[.d (.lst (qs.map Q2)),.d (.int (RE pre)),x2]) _ ⟨_,rfl⟩ ?_ ?_
 .
  rintro pre q suf Z hsp ⟨x2,rfl⟩ Q h1 h2 h3 h4;have hq:q.den∣P:=hd q (by rw[hsp];simp);have hc:RE pre∣P:=GJ λp hp=>hd p (by rw[hsp];simp[hp]);have e:RE (pre++[q])=Nat.lcm (RE pre) q.den:=by unfold RE;rw[List.foldl_append];rfl
  rw[e]at h1;unfold gR;walk_at "w";refine⟨RE pre,q.den,rfl,den_pos q,Uv (Nat.le_of_dvd hP hc) hP2,Uv (Nat.le_of_dvd hP hq) hP2,?_⟩;exact h1 _ ⟨_,rfl⟩
 . rintro Z ⟨x2,rfl⟩;walk_at "w";exact⟨_,aj aM,h⟩
def iu:FS:=λls kz=>∃(qs:List Rat)(u:Nat),ls=[.d (.lst (qs.map Q2)),.d (.int u)]/\qs.length<=63/\(∀q∈qs,RB 4400 q)/\u<2^4400/\∀c,kz (.own c (qs.map λq=>D.int (eF u q))) ls
def pF:W L:=(av a8 (av aG (ak 0) (wC (.int 0))) (av mw (ak 1) (av aG (ak 0) (wC (.int 1)))))
def oI:W Fl:=(bH (cD 1 [1] (me (ak 0)) (aQ 0) bZ pF))
theorem xQ:∀ls kz,ls.length=2->iu ls kz->oI (ls++List.replicate 0 .un) (aW ls kz):=by
 rintro ls kz - ⟨qs,u,rfl,hl,hq,hu,h⟩;unfold oI;walk_at "w";refine⟨Ur hl xp,?_⟩;refine bt (h:=λq=>D.int (eF u q)) _ _ _ (λq hm Q hQ=>?_) λl' c=>?_
 .
  unfold pF;walk_at "w";have hb:=hq q hm;have e:(u:Int).fdiv (q.den:Int)=((u / q.den:Nat):Int):=by rw[Int.fdiv_eq_ediv_of_nonneg _ xL,Int.natCast_ediv]
  rw[e];refine⟨lh q,?_,hb.bn xp,?_,hQ⟩
  . rw[Int.natAbs_natCast];exact so hb.2 (Us xp xp)
  . exact aP (n:=4400) (by rw[Int.natAbs_natCast];exact Uv (Nat.div_le_self _ _) hu) xp
 . walk_at "w";exact⟨_,aj (aj aM),h c⟩
def ke:FS:=λls kz=>∃(R:aS)(q:Rat),ls=[.d (a5 R),.d (Q2 q)]/\R.Ok/\RB 1750 q/\kz (.d (.tup [.int (bP R q),.lst (cF R.asks.length (wI R q)),.lst (cF R.n (RG R q))])) ls
def rR:W L:=(aK vF (ar (ak 1) (ar (ak 0) aF)))
def rS:W L:=(av aG (ak 0) (wC (.int 3)))
def rT:W Fl:=(aV (bj 2 (cD 1 [] (me (av aG (ak 0) (wC (.int 1)))) (aQ 0) bZ rS))
  (aV (bj 3 (cD 1 [1] (me (av aG (ak 0) (wC (.int 0)))) (aQ 0) bZ rR))
  (aV (bj 4 (br (av a8 (wC (.int 2)) (aK eL (ar (br (av cn (ak 2) (ak 3))) aF)))))
  (bH (mq (ar (ak 4) (ar (br (aK iu (ar (ak 2) (ar (ak 4) aF)))) (ar (br (aK iu (ar (ak 3) (ar (ak 4) aF)))) aF))))))))
theorem zQ:∀ls kz,ls.length=2->ke ls kz->rT (ls++List.replicate 3 .un) (aW ls kz):=by
 rintro ls kz - ⟨R,q,rfl,hR,hq,h⟩;have hfew:=hR.few;have hhi:=hR.hi;unfold rT;walk_at "w";refine⟨Ur hfew xp,?_⟩;refine bt (h:=λa=>Q2 a.size) _ _ _ (λa hm Q hQ=>?_) λl' c1=>?_
 . unfold rS;walk_at "w";exact hQ
 walk_at "w";refine⟨Ur hhi xp,?_⟩;refine bt (h:=λr=>Q2 (q*r)) _ _ _ (λr hm Q hQ=>?_) λl' c2=>?_
 . unfold rR;walk_at "w";refine⟨_,_,rfl,hq.mono xp,(hR.room r hm).2.mono xp,?_⟩;walk_at "w";exact hQ
 obtain⟨u0,u1⟩:=AR hR hq;have e1:R.asks.map (λa=>Q2 a.size)=(ky R).map Q2:=by unfold ky;rw[List.map_map];rfl
 have e2:R.rooms.map (λr=>Q2 (q*r))=(tE R q).map Q2:=by unfold tE;rw[List.map_map];rfl
 rw[e1,e2];walk_at "w";rw[<- List.map_append];have ls1:(ky R).length<=20:=by unfold ky;rw[Up];exact hfew
 have ls2:(tE R q).length<=12:=by unfold tE;rw[Up];exact hhi
 have c0:=DM R q;have c1':RF R q<2^3750:=Uv (show RF R q<=bP R q by unfold bP;omega) u1;refine⟨Ur (show _<=32 by omega) xp,λ_=>⟨_,RF R q,rfl,λp hp=>AQ hp,c0,so c1' (Us xp xp),?_⟩⟩;walk_at "w";have eu:(2:Int)*((RE (ky R++tE R q):Nat):Int)=((bP R q:Nat):Int):=by show(2:Int)*((RF R q:Nat):Int)=((2*RF R q:Nat):Int);omega
 rw[eu];have u2:bP R q<2^4400:=so u1 (Us xp xp);refine⟨bz xp,aP (n:=3750) (by rw[Int.natAbs_natCast];exact c1') xp,?_⟩;refine⟨ky R,bP R q,rfl,xL,λp hp=>?_,u2,λc3=>?_⟩
 . obtain⟨a,ha,rfl⟩:=List.mem_map.mp hp;exact(hR.rb ha).mono xp
 walk_at "w";refine⟨tE R q,bP R q,rfl,xL,λp hp=>?_,u2,λc4=>?_⟩
 . obtain⟨r,hr,rfl⟩:=List.mem_map.mp hp;exact(hq.mul (hR.room r hr).2).mono xp
 walk_at "w";rw[Mu,Mv];exact⟨xp,_,aj (aj aM),h⟩
def jr:FS:=λls kz=>∃w:Bool,ls=[.d (.str (fP w))]/\kz (.d (.str (fP !w))) ls
def lL:W Fl:=(bH (HF (aY (av mx (ak 0) (wC (.str "on")))) (wC (.str "back")) (wC (.str "on"))))
theorem vL:∀ls kz,ls.length=1->jr ls kz->lL (ls++List.replicate 0 .un) (aW ls kz):=by
 rintro ls kz - ⟨w,rfl,h⟩;unfold lL;walk_at "w";cases w
 . exact⟨_,aj aM,h⟩
 . exact⟨_,aj aM,h⟩
def gS:FS:=λls kz=>∃(R:aS)(k:Nat)(w:Bool)(t:Nat)(hk:k<R.asks.length),ls=[.d (a5 R),.d (.int k),.d (.str (fP w)),.d (.int t)]/\R.Ok/\t<R.n/\kz (.d (.bl (kx R.n R.asks[k] t == w))) ls
def rV:W Fl:=(bH (av mx (ak 7) (av mx (ak 2) (wC (.str "on")))))
def rW:W Fl:=(aV (bj 7 (av yt (av fN (av k7 (ak 3) (ak 5)) (ak 4)) (av fN (av k7 (ak 6) (ak 5)) (ak 4))))
  rV)
def rX:W Fl:=(aV (bj 6 (av aG (av aG (av aG (ak 0) (wC (.int 1))) (ak 1)) (wC (.int 2))))
  rW)
def rY:W Fl:=(aV (bj 5 (av aG (av aG (av aG (ak 0) (wC (.int 1))) (ak 1)) (wC (.int 1))))
  rX)
def rZ:W Fl:=(aV (bj 4 (br (aX bN (ar (av aG (ak 0) (wC (.int 0))) aF))))
  rY)
theorem zR:∀ls kz,ls.length=4->gS ls kz->rZ (ls++List.replicate 4 .un) (aW ls kz):=by
 rintro ls kz - ⟨R,k,w,t,hk,rfl,hR,ht,h⟩;have ha:=hR.ask _ (List.getElem_mem hk);have h1:=ha.one;have h2:=ha.other;unfold rZ;walk_at "w";unfold rY;walk_at "w";refine⟨_,b7 hk,?_⟩;walk_at "w";unfold rX;walk_at "w";refine⟨_,b7 hk,?_⟩;walk_at "w";unfold rW;walk_at "w";rw[DC h1 h2,DC h1 ht];refine⟨xL,xL,?_⟩;unfold rV;walk_at "w";refine⟨_,aj (aj (aj (aj aM))),?_⟩
 have e:decide (decide ((((t+R.n-R.asks[k].one) % R.n:Nat):Int)<(((R.asks[k].other+R.n-R.asks[k].one) % R.n:Nat):Int))=decide (w=true))=(kx R.n R.asks[k] t == w):=by
  have e1:decide ((((t+R.n-R.asks[k].one) % R.n:Nat):Int)<(((R.asks[k].other+R.n-R.asks[k].one) % R.n:Nat):Int))=kx R.n R.asks[k] t:=by unfold kx Rx;rw[decide_eq_decide];omega
  rw[e1];cases kx R.n R.asks[k] t<;>cases w<;>rfl
 rw[e];exact h
def jt:FS:=λls kz=>∃(R:aS)(ps:List Rat)(k t:Nat)(hk:k<R.asks.length)(hp:k<ps.length),ls=[.d (a5 R),.d (.lst (ps.map Q2)),.d (.int k),.d (.int t)]/\R.Ok/\RB 4400 ps[k]/\t<R.n/\kz (.d (Q2 (yv R.n R.asks[k] ps[k] t))) ls
def lM:W Fl:=(aV (QM (aY (aK gS (ar (ak 0) (ar (ak 2) (ar (wC (.str "on")) (ar (ak 3) aF)))))) (bH (av aG (ak 1) (ak 2))) bM)
  (bH (aK qD (ar (av aG (av aG (av aG (ak 0) (wC (.int 1))) (ak 2)) (wC (.int 3))) (ar (av aG (ak 1) (ak 2)) aF)))))
theorem vM:∀ls kz,ls.length=4->jt ls kz->lM (ls++List.replicate 0 .un) (aW ls kz):=by
 rintro ls kz - ⟨R,ps,k,t,hk,hp,rfl,hR,hb,ht,h⟩;have ha:=hR.ask _ (List.getElem_mem hk);unfold lM;walk_at "w";refine⟨R,k,true,t,hk,rfl,hR,ht,?_⟩;walk_at "w";unfold yv at h;cases e:kx R.n R.asks[k] t
 . rw[e]at h;walk_at "w";refine⟨_,b7 hk,?_⟩;walk_at "w";refine⟨_,b7 hp,?_⟩;exact En ((hR.rb (List.getElem_mem hk)).mono xp) (hb.mono xp) ⟨_,aj (aj (aj (aj aM))),h⟩
 . rw[e]at h;walk_at "w";exact⟨_,b7 hp,_,aj (aj (aj (aj aM))),h⟩
def oJ:FS:=λls kz=>∃(R:aS)(ps:List Rat)(t:Nat),ls=[.d (a5 R),.d (.lst (ps.map Q2)),.d (.int t)]/\R.Ok/\ps.length=R.asks.length/\LB R ps/\t<R.n/\kz (.d (Q2 (fQ R.n R.asks ps t))) ls
def r6:W L:=(aK jt (ar (ak 1) (ar (ak 2) (ar (ak 0) (ar (ak 3) aF)))))
def r9:W Fl:=(bH (aK rO (ar (br (cD 1 [0,1,2] (kg (aX bN (ar (av aG (ak 0) (wC (.int 1))) aF))) (aQ 0) bZ r6)) aF)))
theorem zS:∀ls kz,ls.length=3->oJ ls kz->r9 (ls++List.replicate 0 .un) (aW ls kz):=by
 rintro ls kz - ⟨R,ps,t,rfl,hR,hl,hb,ht,h⟩;have hfew:=hR.few;unfold r9;walk_at "w";refine⟨⟨xL,xL⟩,?_⟩;rw[Int.toNat_natCast,hX];refine⟨by rw[Up,List.length_range];exact Ur hfew xp,?_⟩;refine bt (h:=λk=>Q2 (((R.asks.zip ps).map λx=>yv R.n x.1 x.2 t).getD k 0)) _ _ _ (λk hk Q q=>?_) λl' a=>?_
 .
  have hk:=List.mem_range.mp hk;unfold r6;walk_at "w";refine⟨R,ps,k,t,hk,xL,rfl,hR,(hb.p _ (List.getElem_mem _)).mono xp,ht,?_⟩;walk_at "w";have e:(((R.asks.zip ps).map λx=>yv R.n x.1 x.2 t).getD k 0)=yv R.n R.asks[k] (ps[k]'(by omega)) t:=by rw[tu,List.getElem?_map,gV (by rw[List.length_zip];omega),List.getElem_zip];rfl
  rw[e]at q;exact q
 .
  walk_at "w";have e:(List.range R.asks.length).map (λk=>Q2 (((R.asks.zip ps).map λx=>yv R.n x.1 x.2 t).getD k 0))=((R.asks.zip ps).map λx=>yv R.n x.1 x.2 t).map Q2:=by refine DG _ (by rw[Up,List.length_zip];omega) _ λk hk=>?_;rw[tu,gV hk];rfl
  rw[e];refine⟨_,_,rfl,.inl rfl,by rw[Up,List.length_zip];omega,λq hq=>?_,hb.sm t,⟨_,aj (aj (aj aM)),h⟩⟩;obtain⟨x,hx,rfl⟩:=List.mem_map.mp hq;obtain⟨j,hj,e⟩:=List.mem_iff_getElem.mp hx;have hj':j<R.asks.length:=by rw[List.length_zip]at hj;omega
  rw[List.getElem_zip]at e;rw[<- e];exact(hb.st j hj' xL t).mono xp
def lN:FS:=λls kz=>∃(R:aS)(ps:List Rat),ls=[.d (a5 R),.d (.lst (ps.map Q2))]/\R.Ok/\ps.length=R.asks.length/\LB R ps/\∀a,kz (.own a (Rv R.n (fQ R.n R.asks ps))) ls
def pG:W L:=(aK oJ (ar (ak 1) (ar (ak 2) (ar (ak 0) aF))))
def oK:W Fl:=(bH (cD 1 [0,1] (kg (aX bN (ar (av aG (ak 0) (wC (.int 0))) aF))) (aQ 0) bZ pG))
theorem xR:∀ls kz,ls.length=2->lN ls kz->oK (ls++List.replicate 0 .un) (aW ls kz):=by
 rintro ls kz - ⟨R,ps,rfl,hR,hl,hb,h⟩;have hhi:=hR.hi;unfold oK;walk_at "w";refine⟨⟨xL,xL⟩,?_⟩;rw[Int.toNat_natCast,hX];refine⟨by rw[Up,List.length_range];exact Ur hhi xp,?_⟩;refine bt (h:=λt=>Q2 (fQ R.n R.asks ps t)) _ _ _ (λt ht Q q=>?_) λl' a=>?_
 . unfold pG;walk_at "w";refine⟨R,ps,t,rfl,hR,hl,hb,List.mem_range.mp ht,?_⟩;walk_at "w";exact q
 . walk_at "w";exact⟨_,aj (aj aM),h a⟩
def iw:FS:=λls kz=>∃(R:aS)(ps:List Rat),ls=[.d (a5 R),.d (.lst (ps.map Q2))]/\R.Ok/\ps.length=R.asks.length/\LB R ps/\∀a,kz (.own a (Rv R.n (bD R ps))) ls
def kE:W L:=(aK zN (ar (ak 0) (ar (ak 1) aF)))
def ju:W Fl:=(bH (cD 2 [] (M8 (aK lN (ar (ak 0) (ar (ak 1) aF))) (av aG (ak 0) (wC (.int 0)))) (eY [0,1]) bZ kE))
theorem tK:∀ls kz,ls.length=2->iw ls kz->ju (ls++List.replicate 0 .un) (aW ls kz):=by
 rintro ls kz - ⟨R,ps,rfl,hR,hl,hb,h⟩;have hhi:=hR.hi;unfold ju;walk_at "w";refine⟨R,ps,rfl,hR,hl,hb,λ_=>?_⟩;walk_at "w";rw[GG,JV];refine⟨by rw[Up,List.length_range];exact Ur hhi xp,?_⟩;refine jc (h:=λt=>Q2 (bD R ps t)) _ _ _ _ (λt ht Q q=>?_) λl m a=>?_
 . have ht:=List.mem_range.mp ht;obtain⟨r1,r2⟩:=ib hR ht;unfold kE;walk_at "w";exact⟨_,_,rfl,(hb.all hl t).mono xp,r2.mono xp,(by grind),q⟩
 . walk_at "w";exact⟨_,aj (aj aM),h a⟩
noncomputable def OS(R:aS)(ps:List Rat):D:=.tup [Q2 (bD R ps (Fd R.n (bD R ps))),.int (Fd R.n (bD R ps):Nat)]
def sf:FS:=λls kz=>∃(R:aS)(ps:List Rat),ls=[.d (a5 R),.d (.lst (ps.map Q2))]/\R.Ok/\ps.length=R.asks.length/\LB R ps/\kz (.d (OS R ps)) ls
def uA:W Fl:=(QM (aY (aK vG (ar (av aG (ak 2) (ak 3)) (ar (ak 5) aF)))) (bj 3 (ak 4)) bM)
def vN:W Fl:=(aV (bj 2 (br (aK iw (ar (ak 0) (ar (ak 1) aF)))))
  (aV (bj 3 (wC (.int 0)))
  (aV (tw (Bp (ak 2)) (eY [4,5]) uA)
  (bH (mq (ar (av aG (ak 2) (ak 3)) (ar (ak 3) aF)))))))
theorem BV:∀ls kz,ls.length=2->sf ls kz->vN (ls++List.replicate 4 .un) (aW ls kz):=by
 rintro ls kz - ⟨R,ps,rfl,hR,hl,hb,h⟩;have hlo:=hR.lo;have sb:∀t,t<R.n->RB 4400 (bD R ps t):=λt ht=>((hb.all hl t).div (ib hR ht).2 (by have:=(ib hR ht).1;grind)).mono xp;unfold vN;walk_at "w";refine⟨R,ps,rfl,hR,hl,hb,λ_=>?_⟩;walk_at "w";rw[JU]
 refine fT (enc:=λ(t:Nat)=>D.tup [.int (t:Int),Q2 (bD R ps t)]) (List.range R.n) (λpre Z=>∃(b:Nat)(x4 x5:L),Z=[.d (a5 R),.d (.lst (ps.map Q2)),.d (.lst (Rv R.n (bD R ps))),.d (.int b),x4,x5]/\b=pre.foldl (λb t=>if bD R ps b<bD R ps t then t else b) 0/\b<R.n) _ ⟨0,_,_,rfl,rfl,xL⟩ ?_ ?_
 .
  rintro pre t suf Z hsp ⟨b,x4,x5,rfl,hbe,hbn⟩ Q h1 h2 h3 h4;have ht:t<R.n:=List.mem_range.mp (by rw[hsp];simp)
  have ef:(pre++[t]).foldl (λb t=>if bD R ps b<bD R ps t then t else b) 0=if bD R ps b<bD R ps t then t else b:=by rw[List.foldl_append,<- hbe];rfl
  unfold uA;walk_at "w";refine⟨_,HQ hbn,_,_,rfl,(sb _ hbn).mono xp,(sb _ ht).mono xp,?_⟩;walk_at "w";split
  . rename_i hlt;rw[if_pos hlt]at ef;exact h1 _ ⟨t,_,_,rfl,ef.symm,ht⟩
  . rename_i hlt;rw[if_neg hlt]at ef;exact h1 _ ⟨b,_,_,rfl,ef.symm,hbn⟩
 . rintro Z ⟨b,x4,x5,rfl,hbe,hbn⟩;walk_at "w";refine⟨_,HQ hbn,xp,_,aj (aj aM),?_⟩;have e:b=Fd R.n (bD R ps):=hbe;rw[e];exact h
noncomputable def HU(as:List Ru)(ws:List Bool):List Rat:=(as.zip ws).map λx=>if x.2 then x.1.size else 0
def oM:FS:=λls kz=>∃(R:aS)(ws:List Bool),ls=[.d (a5 R),.d (.lst (ws.map λw=>D.str (fP w)))]/\R.asks.length<=20/\ws.length=R.asks.length/\∀c,kz (.own c ((HU R.asks ws).map Q2)) ls
def si:W L:=(HF (aY (av mx (ak 1) (wC (.str "on")))) (av aG (ak 0) (wC (.int 3))) (wC (.tup [(.int 0),(.int 1)])))
def sj:W Fl:=(bH (cD 2 [] (M8 (av aG (ak 0) (wC (.int 1))) (ak 1)) (eY [0,1]) bZ si))
theorem zU:∀ls kz,ls.length=2->oM ls kz->sj (ls++List.replicate 0 .un) (aW ls kz):=by
 rintro ls kz - ⟨R,ws,rfl,hfew,hl,h⟩;unfold sj;walk_at "w";have e:sV (R.asks.map j2) (ws.map λw=>D.str (fP w))=(R.asks.zip ws).map λx=>D.tup [j2 x.1,D.str (fP x.2)]:=by unfold sV;rw[List.zip_map,List.map_map];rfl
 rw[e];refine⟨by rw[Up,List.length_zip];exact Ur (show min R.asks.length ws.length<=20 by omega) xp,?_⟩
 refine jc (h:=λx=>Q2 (if x.2 then x.1.size else 0)) _ _ _ _ (λx hx Q q=>?_) λl m a=>?_
 .
  unfold si;walk_at "w";split
  . rename_i c;rw[if_pos c]at q;exact q
  . rename_i c;rw[if_neg c]at q;exact q
 . walk_at "w";have:=h a;unfold HU at this;rw[List.map_map]at this;exact⟨_,aj (aj aM),this⟩
def sk:FS:=λls kz=>∃(R:aS)(ws:List Bool),ls=[.d (a5 R),.d (d9 ws)]/\R.Ok/\RN R/\ws.length=R.asks.length/\kz (.d (Q2 (eB R ws))) ls
def vO:W Fl:=(bH (av aG (aK sf (ar (ak 0) (ar (br (aK oM (ar (ak 0) (ar (ak 1) aF)))) aF))) (wC (.int 0))))
theorem BW:∀ls kz,ls.length=2->sk ls kz->vO (ls++List.replicate 0 .un) (aW ls kz):=by rintro ls kz - ⟨R,ws,rfl,hR,hT,hw,h⟩;unfold vO;walk_at "w";refine⟨R,ws,rfl,hR.few,hw,λc=>?_⟩;walk_at "w";refine⟨R,iZ R.asks ws,rfl,hR,G0 hw,LB.ways hR hT ws,?_⟩;unfold OS;walk_at "w";exact⟨_,aj (aj aM),h⟩
def jv:FS:=λls kz=>∃(el ws:List (Option Bool)),ls=[.d (RI el),.d (RI ws)]/\ws.length<=99/\∀a,kz (.own a ((ff el ws).map λ(k:Nat)=>D.int (k:Int))) ls
def mZ:W L:=(ak 0)
def lO:W Fl:=(aV (bj 2 (br (F6 (ar (ak 0) (ar (ak 1) aF)))))
  (bH (cD 2 [] (Bp (ak 2)) (eY [0,1]) (KB (aY (av ub (av aG (ak 1) (wC (.int 0))) (wC .non))) (aY (av mx (av aG (ak 1) (wC (.int 1))) (aK jr (ar (av aG (ak 1) (wC (.int 0))) aF))))) mZ)))
theorem Kk(l:List ((Option Bool×Option Bool)×Nat)):(l.filterMap λx=>if cw x.1=true then some (D.int (x.2:Int))else none)=((l.filter λx=>cw x.1).map (·.2)).map λ(k:Nat)=>D.int (k:Int):=by
 induction l with
 |nil=>rfl
 | cons x l ih =>
  rw[List.filterMap_cons,List.filter_cons];cases e:cw x.1
  . simpa[e]using ih
  . simpa[e]using ih
theorem Hc(el ws:List (Option Bool)):i9 (sV (el.map kA) (ws.map kA))=(el.zip ws).zipIdx.map λx=>D.tup [D.int (x.2:Int),D.tup [kA x.1.1,kA x.1.2]]:=by unfold i9 sV;rw[List.zip_map,List.map_map];refine List.ext_getElem x_ λj h1 h2=>?_;simp
theorem vP:∀ls kz,ls.length=2->jv ls kz->lO (ls++List.replicate 1 .un) (aW ls kz):=by
 rintro ls kz - ⟨el,ws,rfl,hl,h⟩;unfold lO RI;walk_at "w";have zl:(sV (el.map kA) (ws.map kA)).length<=99:=by simp[sV];omega
 refine⟨Ur zl xp,λ_=>?_⟩;rw[Hc];refine⟨by rw[Up,List.length_zipIdx,List.length_zip];exact Ur (show min el.length ws.length<=99 by omega) xp,?_⟩
 refine jZ (e1:=λx=>D.int (x.2:Int)) (e2:=λx=>D.tup [kA x.1.1,kA x.1.2]) (h:=λx=>if cw x.1=true then some (D.int (x.2:Int))else none) ((el.zip ws).zipIdx) _ _ _ (λx hx Q hQ=>?_) λl m=>?_
 .
  obtain⟨⟨o,p⟩,k⟩:=x;unfold mZ
  cases o with
  | none =>
   have o1:kA none=.non:=rfl;simp only[o1]at hQ ⊢;walk_at "w";exact hQ
  | some b =>
   have o2:kA (some b)=.str (fP b):=rfl;simp only[o2]at hQ ⊢;walk_at "w";refine⟨b,rfl,?_⟩;walk_at "w";refine⟨uo p,?_⟩;rw[DT];have e:cw (some b,p)=(p == some !b):=rfl;rw[e]at hQ;cases hp:(p == some !b)
   . rw[hp]at hQ;simpa using hQ
   . rw[hp]at hQ;simpa using hQ
 . intro a;rw[List.nil_append,Kk];exact⟨_,aj (aj aM),h a⟩
def dZ:FS:=λls kz=>∃(w:mf)(x y:Int),ls=[.d (cG w),.d (.int x),.d (.int y)]/\kz (.d (.bl (eG w.strict x y))) ls
def iy:W Fl:=(bH (M4 (av EX (ak 1) (ak 2)) (kZ (av aG (ak 0) (wC (.int 1))) (av mx (ak 1) (ak 2)))))
theorem sr:∀ls kz,ls.length=3->dZ ls kz->iy (ls++List.replicate 0 .un) (aW ls kz):=by
 rintro ls kz - ⟨w,x,y,rfl,h⟩;unfold iy;unfold eG at h;simp only[cG]at h ⊢;walk_at "w";by_cases c:y<x
 . rw[if_pos c];rw[decide_eq_true c,Bool.true_or]at h;exact⟨_,aj (aj (aj aM)),h⟩
 .
  rw[if_neg c];rw[decide_eq_false c,Bool.false_or]at h;cases e:w.strict
  . rw[e]at h;simp only[Bool.false_eq_true,if_false];exact⟨_,aj (aj (aj aM)),h⟩
  . rw[e]at h;simp only[if_true];exact⟨_,aj (aj (aj aM)),h⟩
def dA:FS:=λls kz=>∃(w:mf)(ws:List (Option Bool)),ls=[.d (cG w),.d (RI ws)]/\ws.length<=99/\kz (.d (.bl (decide (w.most<(ff w.elder ws).length)))) ls
def gy:W Fl:=(bH (av EX (aX bN (ar (br (aK jv (ar (av aG (ak 0) (wC (.int 2))) (ar (ak 1) aF)))) aF)) (av aG (ak 0) (wC (.int 3)))))
theorem qj:∀ls kz,ls.length=2->dA ls kz->gy (ls++List.replicate 0 .un) (aW ls kz):=by
 rintro ls kz - ⟨w,ws,rfl,hl,h⟩;unfold gy;simp only[cG]at h ⊢;walk_at "w";refine⟨w.elder,ws,rfl,hl,λa=>?_⟩;walk_at "w";refine⟨_,aj (aj aM),?_⟩;have e:decide (((w.most:Nat):Int)<((ff w.elder ws).length:Int))=decide (w.most<(ff w.elder ws).length):=by rw[decide_eq_decide];omega
 rw[e];exact h
def iz:FS:=λls kz=>∃(T:Tr),ls=[.d (RK T)]/\kz (.d (.bl (T.kind == 2))) ls
def oN:W Fl:=(bH (aK cL (ar (ak 0) (ar (wC (.str "split")) (ar (wC (.int 4)) aF)))))
theorem qE(T:Tr)(k:Nat)(hk:k<=2){kz:L->List L->Prop}(h:kz (.d (.bl (T.kind == k))) [.d (RK T),.d (.str (Nj k)),.d (.int (Nk k:Int))]):cL [.d (RK T),.d (.str (Nj k)),.d (.int (Nk k:Int))] kz:=by
 have ht:MD (RK T):=λxs x e e0=>by cases T<;>(unfold RK at e;cases e;cases e0;decide +kernel)
 have e:Ec (RK T) (Nj k) (Nk k)=(T.kind == k):=by
  obtain rfl|rfl|rfl:k=0∨k=1∨k=2:=by omega
  all_goals cases T<;>(unfold RK;rfl)
 refine⟨RK T,Nj k,Nk k,rfl,?_,?_,ht,?_⟩
 .
  obtain rfl|rfl|rfl:k=0∨k=1∨k=2:=by omega
  all_goals decide
 .
  obtain rfl|rfl|rfl:k=0∨k=1∨k=2:=by omega
  all_goals decide +kernel
 . rw[e];exact h
theorem xS:∀ls kz,ls.length=1->iz ls kz->oN (ls++List.replicate 0 .un) (aW ls kz):=by rintro ls kz - ⟨T,rfl,h⟩;unfold oN;walk_at "w";exact qE T 2 xp ⟨_,aj aM,h⟩
def iA:FS:=λls kz=>∃(R:aS)(k:Nat)(o:Option Bool)(c:Nat×Nat),ls=[.d (a5 R),.d (.int (k:Int)),.d (kA o),.d (je c)]/\R.Ok/\k<R.asks.length/\vg R.n c/\kz (.d (.int (J8 R o c k))) ls
def kF:W L:=(ak 0)
def jw:W Fl:=(aV (QM (aY (av Bl (ak 2) (wC .non))) (bH (HF (aY (aK dz (ar (ak 3) (ar (av aG (av aG (av aG (ak 0) (wC (.int 1))) (ak 1)) (wC (.int 1))) (ar (av aG (av aG (av aG (ak 0) (wC (.int 1))) (ak 1)) (wC (.int 2))) aF))))) (wC (.int 1)) (wC (.int 0)))) bM)
  (bH (aX bN (ar (br (cD 1 [0,1,2] (me (ak 3)) (aQ 0) (aY (aK gS (ar (ak 1) (ar (ak 2) (ar (ak 3) (ar (ak 0) aF)))))) kF)) aF))))
theorem tM:∀ls kz,ls.length=4->iA ls kz->jw (ls++List.replicate 0 .un) (aW ls kz):=by
 rintro ls kz - ⟨R,k,o,c,rfl,hR,hk,hc,h⟩;unfold jw
 cases o with
 | none =>
  unfold kA at *;walk_at "w";refine⟨_,b7 hk,?_⟩;walk_at "w";refine⟨_,b7 hk,?_⟩;walk_at "w";refine⟨c,_,_,rfl,?_⟩;unfold J8 at h;rw[fV hk]at h;dsimp only at h;cases e:apart c R.asks[k].one R.asks[k].other
  . rw[e]at h;walk_at "w";exact⟨_,aj (aj (aj (aj aM))),h⟩
  . rw[e]at h;walk_at "w";exact⟨_,aj (aj (aj (aj aM))),h⟩
 | some b =>
  have t1:c.1<R.n:=by have:=hc.1;have:=hc.2;omega
  have t2:c.2<R.n:=hc.2;unfold kA at *;walk_at "w";show((_:List D).length<=sizeLine/\_)
  refine⟨by simp;decide,jb (enc:=λ(t:Nat)=>D.int (t:Int)) (h:=λt=>if(Ry R k t == b)=true then some (D.int (t:Int))else none) [c.1,c.2] _ _ (λt ht Q hQ=>?_) λl a=>?_⟩
  .
   have ht':t<R.n:=by
    rcases Uq.mp ht with rfl|ht
    . exact t1
    . simp at ht;subst ht;exact t2
   walk_at "w";refine⟨R,k,b,t,hk,rfl,hR,ht',?_⟩;have e:Ry R k t=kx R.n R.asks[k] t:=by unfold Ry;rw[fV hk]
   rw[e]at hQ;walk_at "w";cases eb:(kx R.n R.asks[k] t == b)
   . rw[eb]at hQ;exact hQ
   . rw[eb]at hQ;unfold kF;walk_at "w";exact hQ
  .
   walk_at "w"
   have e:(([c.1,c.2].filterMap λt=>if(Ry R k t == b)=true then some (D.int (t:Int))else none).length:Int)=J8 R (some b) c k:=by unfold J8;cases e1:(Ry R k c.1 == b)<;>cases e2:(Ry R k c.2 == b)<;>simp only[List.filterMap_cons,List.filterMap_nil,e1,e2,if_true,Bool.false_eq_true,if_false]<;>rfl
   rw[e];exact⟨_,aj (aj (aj (aj aM))),h⟩
def gz:FS:=λls kz=>∃(R:aS)(w:mf)(u:Int)(fx:List (Option Bool))(c:Nat×Nat),ls=[.d (a5 R),.d (cG w),.d (.tup [.int u,.lst (cF R.asks.length (wI R w.top)),.lst (cF R.n (RG R w.top))]),.d (RI fx),.d (je c)]/\R.Ok/\RB 1750 w.top/\fx.length=R.asks.length/\vg R.n c/\kz (.d (.bl (eG w.strict (zm R w.top fx c) (RG R w.top c.1+RG R w.top c.2)))) ls
def jx:W L:=(av a8 (ak 1) (aK iA (ar (ak 2) (ar (ak 0) (ar (av aG (ak 3) (ak 0)) (ar (ak 4) aF))))))
def iB:W Fl:=(aV (bj 5 (av aG (ak 2) (wC (.int 2))))
  (aV (bj 6 (br (aX LQ (ar (br (cD 2 [0,3,4] (Bp (av aG (ak 2) (wC (.int 1)))) (eY [0,1]) bZ jx)) aF))))
  (bH (aK dZ (ar (ak 1) (ar (ak 6) (ar (br (av cn (av aG (ak 5) (av aG (ak 4) (wC (.int 0)))) (av aG (ak 5) (av aG (ak 4) (wC (.int 1)))))) aF)))))))
theorem sx:∀ls kz,ls.length=5->gz ls kz->iB (ls++List.replicate 2 .un) (aW ls kz):=by
 rintro ls kz - ⟨R,w,u,fx,c,rfl,hR,hq,hf,hc,h⟩;have few:=hR.few;have t1:c.1<R.n:=by have:=hc.1;have:=hc.2;omega
 have t2:c.2<R.n:=hc.2;unfold iB;walk_at "w";rw[D9];refine⟨by rw[Up,List.length_range];exact Ur few xp,jc (e1:=λ(t:Nat)=>D.int (t:Int)) (e2:=λt=>D.int (wI R w.top t)) (h:=λt=>D.int (wI R w.top t*RL R fx c t)) (List.range R.asks.length) _ _ _ (λt ht Q hQ=>?_) λl m c2=>?_⟩
 . have ht:=List.mem_range.mp ht;unfold jx RI;walk_at "w";refine⟨_,MC xL,?_⟩;refine⟨R,t,_,c,rfl,hR,ht,hc,?_⟩;rw[MB]at hQ;walk_at "w";exact⟨aP (N2 hR hq ht) xp,aP (G1 R _ c t) xp,hQ⟩
 rw[List.nil_append];walk_at "w";refine⟨(List.range R.asks.length).map λt=>wI R w.top t*RL R fx c t,by rw[List.map_map];rfl,?_⟩;rw[D8];walk_at "w";refine⟨_,gn t1,_,gn t2,?_⟩;refine⟨w,_,_,rfl,?_⟩;exact⟨_,aj (aj (aj (aj (aj aM)))),h⟩
def jy:FS:=λls kz=>∃(R:aS)(w:mf)(u:Int)(fx:List (Option Bool))(T:Tr),ls=[.d (a5 R),.d (cG w),.d (.tup [.int u,.lst (cF R.asks.length (wI R w.top)),.lst (cF R.n (RG R w.top))]),.d (RI fx),.d (RK T)]/\R.Ok/\RB 1750 w.top/\fx.length=R.asks.length/\T.Ok R w fx/\kz (.d (.bl true)) ls
def lP:W Fl:=(aV (QM (aY (aK cL (ar (ak 4) (ar (wC (.str "turned")) (ar (wC (.int 1)) aF))))) (bH (aK dA (ar (ak 1) (ar (ak 3) aF)))) bM)
  (aV (QM (aY (aK cL (ar (ak 4) (ar (wC (.str "cut")) (ar (wC (.int 3)) aF))))) (bH (kZ (aK rQ (ar (ak 0) (ar (br (KD (ak 4) (some (wC (.int 1))) none)) aF))) (aK gz (ar (ak 0) (ar (ak 1) (ar (ak 2) (ar (ak 3) (ar (br (KD (ak 4) (some (wC (.int 1))) none)) aF)))))))) bM)
  (bH (kZ (aK iz (ar (ak 4) aF)) (kZ (aK dm (ar (av aG (ak 4) (wC (.int 1))) (ar (br (aX bN (ar (ak 3) aF))) aF))) (av Bl (av aG (ak 3) (av aG (ak 4) (wC (.int 1)))) (wC .non)))))))
theorem vQ:∀ls kz,ls.length=5->jy ls kz->lP (ls++List.replicate 0 .un) (aW ls kz):=by
 rintro ls kz - ⟨R,w,u,fx,T,rfl,hR,hq,hf,ht,h⟩;have few:=hR.few;unfold lP;walk_at "w";refine qE T 0 xp ?_
 cases T with
 | turned =>
  have e:decide (w.most<(ff w.elder fx).length)=true:=decide_eq_true ht;walk_at "w";rw[if_pos (show(Tr.turned.kind == 0)=true from rfl)];refine⟨w,fx,rfl,xL,?_⟩;rw[e];exact⟨_,aj (aj (aj (aj (aj aM)))),h⟩
 | cut c =>
  walk_at "w";rw[if_neg (show ¬((Tr.cut c).kind == 0)=true from by simp[Tr.kind])];refine qE (.cut c) 1 xp ?_;walk_at "w";rw[if_pos (show((Tr.cut c).kind == 1)=true from rfl)];have ec:IU [D.str "cut",.int (c.1:Int),.int (c.2:Int)] (some 1) none=[.int (c.1:Int),.int (c.2:Int)]:=rfl;have eb:KL R.n (je c)=true:=decide_eq_true ⟨xL,by have:=ht.1.1;omega,by have:=ht.1.2;omega⟩;have ne:¬(HT.sIx 3 0 (some 1)=0/\HT.sIx 3 3 none=3):=by decide
  unfold RK at h ⊢;walk_at "w";rw[ec];refine⟨ne,R,je c,rfl,?_⟩;rw[eb];walk_at "w";refine⟨ne,R,w,u,fx,c,rfl,hR,hq,hf,ht.1,?_⟩;rw[ht.2];exact⟨_,aj (aj (aj (aj (aj aM)))),h⟩
 | split k a b =>
  have hk:=ht.1;have hn:=ht.2.1;walk_at "w";rw[if_neg (show ¬((Tr.split k a b).kind == 0)=true from by simp[Tr.kind])];refine qE (.split k a b) 1 xp ?_;walk_at "w";rw[if_neg (show ¬((Tr.split k a b).kind == 1)=true from by simp[Tr.kind])];refine⟨.split k a b,rfl,?_⟩;walk_at "w";rw[if_pos (show((Tr.split k a b).kind == 2)=true from rfl)];unfold RK RI at h ⊢;walk_at "w";refine⟨_,_,rfl,?_⟩;rw[show G3 (.int (k:Int)) (fx.length:Int)=true from decide_eq_true (show 0<=(k:Int)/\(k:Int)<(fx.length:Int) by omega)];walk_at "w";refine⟨_,MC hk,?_⟩;rw[hn];exact⟨_,aj (aj (aj (aj (aj aM)))),h⟩
def gb:FS:=λls kz=>∃(k:Nat)(a b:Tr)(fx:List (Option Bool))(ws:List Bool)(d:Bool),ls=[.d (vt ⟨.split k a b,fx,ws⟩),.d (.str (fP d))]/\k<fx.length/\fx.length<=20/\ws.length<=300/\kz (.d (vt ⟨if d then a else b,fx.set k (some d),ws++[d]⟩)) ls
def lQ:W Fl:=(aV (bj 2 (av aG (ak 0) (wC (.int 0))))
  (aV (bj 3 (aX Ao (ar (av aG (ak 0) (wC (.int 1))) aF)))
  (aV (yN 3 (av aG (ak 2) (wC (.int 1))) (ak 1))
  (bH (mq (ar (HF (aY (av mx (ak 1) (wC (.str "on")))) (av aG (ak 2) (wC (.int 2))) (av aG (ak 2) (wC (.int 3)))) (ar (ak 3) (ar (br (av cn (av aG (ak 0) (wC (.int 2))) (ko (ar (ak 1) aF)))) aF))))))))
theorem vR:∀ls kz,ls.length=2->gb ls kz->lQ (ls++List.replicate 2 .un) (aW ls kz):=by
 rintro ls kz - ⟨k,a,b,fx,ws,d,rfl,hk,hx,hw,h⟩;unfold lQ vt RK RI d9;walk_at "w";have ix:Qo fx.length (k:Int)=some k:=by have:=DW (n:=fx.length) (f:=λ_=>0) hk;rwa [ie]at this
 have e1:(fx.map kA).set k (.str (fP d))=(fx.set k (some d)).map kA:=by rw[List.map_set];rfl
 have e2:(ws.map λw=>D.str (fP w))++[.str (fP d)]=(ws++[d]).map λw=>D.str (fP w):=by rw[List.map_append];rfl
 refine λa1=>⟨k,ix,?_⟩;rw[e1,e2];cases d
 all_goals
  simp only[if_true,Bool.false_eq_true,if_false]at h ⊢;exact⟨xp,λa2=>⟨Ur (show ws.length+1<=301 by omega) xp,λa3=>⟨xp,_,aj (aj aM),h⟩⟩⟩
def fw:FS:=λls kz=>∃(R:aS)(w:mf)(T:Tr),ls=[.d (a5 R),.d (cG w),.d (RK T)]/\R.Ok/\RB 1750 w.top/\T.Ok R w (List.replicate R.asks.length none)/\T.size<=300/\kz (.d .non) ls
def fz:W Fl:=(QM (aY (aK iz (ar (av aG (ak 6) (wC (.int 0))) aF))) (aV (n8 (EY 4 (aK gb (ar (ak 6) (ar (wC (.str "back")) aF)))))
  (n8 (EY 4 (aK gb (ar (ak 6) (ar (wC (.str "on")) aF)))))) bM)
def fA:W Fl:=(aV (QM (QJ (aY (av EX (ak 5) (wC (.int 300)))) (FD (aY (aK jy (ar (ak 0) (ar (ak 1) (ar (ak 3) (ar (av aG (ak 6) (wC (.int 1))) (ar (av aG (ak 6) (wC (.int 0))) aF))))))))) Ak bM)
  fz)
def fB:W Fl:=(aV (NO 5 (λi j=>i+j) (wC (.int 1)))
  fA)
def iV:W Fl:=(aV (bj 6 (br (NJ 4)))
  fB)
def iW:W L:=(wC .non)
def gB:W Fl:=(aV (bj 3 (br (aK ke (ar (ak 0) (ar (av aG (ak 1) (wC (.int 0))) aF)))))
  (aV (bj 4 (ko (ar (mq (ar (ak 2) (ar (br (cD 1 [] (me (av aG (ak 0) (wC (.int 1)))) (aQ 0) bZ iW)) (ar (br (ko aF)) aF)))) aF)))
  (aV (bj 5 (wC (.int 0)))
  (kq (NP 4) iV))))
theorem He(as:List Ru):(as.map λ_=>D.non)=(List.replicate as.length none).map kA:=by rw[List.map_replicate];exact List.map_const' ..
theorem gf(xs:List KJ)(x:KJ):qc (xs++[x])=qc xs+x.tr.size:=by simp[qc]
theorem A2:∀xs:List KJ,xs.length<=qc xs
 |[]=>Nat.zero_le _
 | x::xs=>by
  have h1:=A2 xs;have h2:=x.tr.size_pos;have e:qc (x::xs)=x.tr.size+qc xs:=by simp[qc]
  rw[List.length_cons,e];omega
theorem qk:∀ls kz,ls.length=3->fw ls kz->gB (ls++List.replicate 4 .un) (aW ls kz):=by
 rintro ls kz - ⟨R,w,T,rfl,hR,hq,ht,hs,h⟩;have few:=hR.few;unfold gB;rw[show cG w=.tup [Q2 w.top,.bl w.strict,RI w.elder,.int (w.most:Int)]from rfl];walk_at "w";refine⟨R,w.top,rfl,hR,hq,?_⟩;walk_at "w";refine⟨Ur few xp,bt (enc:=j2) (h:=λ_=>D.non) R.asks _ _ (λa ha Q hQ=>?_) λl c=>?_⟩
 . unfold iW;walk_at "w";exact hQ
 rw[List.nil_append,He];walk_at "w";refine⟨xp,λ_=>⟨xp,xp,λa=>?_⟩⟩;refine⟨λn Z=>∃(c:Addr)(xs:List KJ)(m:Nat)(x6:L),Z=[.d (a5 R),.d (cG w),.d (RK T),.d (.tup [.int (bP R w.top),.lst (cF R.asks.length (wI R w.top)),.lst (cF R.n (RG R w.top))]),.own c (xs.map vt),.d (.int (m:Int)),x6]/\(∀x∈xs,x.tr.Ok R w x.fixed/\x.fixed.length=R.asks.length/\x.ways.length<=m)/\m+qc xs<=300/\n=qc xs,⟨_,a,[⟨T,List.replicate R.asks.length none,[]⟩],0,.un,rfl,λx hx=>?_,?_,rfl⟩,?_⟩
 . simp at hx;subst hx;exact⟨ht,x_,x_⟩
 . simp[qc];exact hs
 rintro n Z ⟨c,xs,m,x6,rfl,ok,hm,rfl⟩;unfold NP;walk_at "w";rcases List.eq_nil_or_concat xs with rfl|⟨ys,x,rfl⟩
 . rw[if_neg (by simp)];exact⟨_,aj (aj (aj aM)),h⟩
 simp only[List.concat_eq_append]at ok hm ⊢;rw[gf]at hm;obtain⟨xo,xf,xw⟩:=ok x x_;have oky:∀y∈ys,y.tr.Ok R w y.fixed/\y.fixed.length=R.asks.length/\y.ways.length<=m+1:=λy hy=>by obtain⟨h1,h2,h3⟩:=ok y (List.mem_append_left _ hy);exact⟨h1,h2,xL⟩
 have sp:=x.tr.size_pos;rw[if_pos (by simp)];unfold iV;walk_at "w";refine⟨vt x,x_,?_⟩;rw[show((ys++[x]).map vt).dropLast=ys.map vt by simp];unfold fB NO;walk_at "w";rw[F8];unfold fA;walk_at "w";rw[if_neg (by omega)];rw[show vt x=.tup [RK x.tr,RI x.fixed,d9 x.ways]from rfl];walk_at "w";refine⟨R,w,_,x.fixed,x.tr,rfl,hR,hq,xf,xo,?_⟩;walk_at "w";unfold fz;walk_at "w";refine⟨x.tr,rfl,?_⟩;walk_at "w";have wl:=A2 ys;have big:(600:Nat)<sizeLine:=by decide
 obtain⟨tr,fx,vs⟩:=x
 cases tr with
 | turned =>
  rw[if_neg (by simp[Tr.kind])];exact⟨qc ys,by rw[gf];omega,c,ys,m+1,_,rfl,oky,xL,rfl⟩
 | cut d =>
  rw[if_neg (by simp[Tr.kind])];exact⟨qc ys,by rw[gf];omega,c,ys,m+1,_,rfl,oky,xL,rfl⟩
 | split k p q =>
  have sz:(Tr.split k p q).size=p.size+q.size+1:=rfl;dsimp only at xo xf xw hm sp;obtain⟨kl,kn,po,qo⟩:=xo;rw[if_pos (by rfl)];refine⟨k,p,q,fx,vs,false,rfl,kl,xL,xL,?_⟩;walk_at "w";refine⟨xL,k,p,q,fx,vs,true,rfl,kl,xL,xL,?_⟩;simp only[if_true,Bool.false_eq_true,if_false,List.length_append,Up,List.length_cons,List.length_nil];refine⟨xL,_,?_,c,ys++[⟨q,fx.set k (some false),vs++[false]⟩]++[⟨p,fx.set k (some true),vs++[true]⟩],m+1,.d (vt ⟨.split k p q,fx,vs⟩),?_,λy hy=>?_,?_,rfl⟩
  . rw[gf,gf,gf,sz];dsimp only;omega
  . rw[List.map_append,List.map_append];rfl
  .
   rcases List.mem_append.mp hy with hy|hy
   .
    rcases List.mem_append.mp hy with hy|hy
    . exact oky y hy
    . simp at hy;subst hy;exact⟨qo,by simp;exact xf,by simp;exact xw⟩
   . simp at hy;subst hy;exact⟨po,by simp;exact xf,by simp;exact xw⟩
  . rw[gf,gf];dsimp only;omega
def dU:FS:=λls kz=>∃(R:aS)(w:mf)(ws:List Bool),ls=[.d (cG w),.d (BG R w.top ws.length),.d (d9 ws),.d (.lst (cF R.n (RJ R w.top ws)))]/\R.Ok/\ws.length<=R.asks.length /\
 (∀T:Tr,T.Ok R w (iY R.asks.length ws)->(∃x xs,RK T=.tup (x::xs))->T.size=1->kz (.d (RK T)) ls)/\(Mz R w ws->kz (.d .non) ls)
def gh:W Fl:=(QM (aY (aK dZ (ar (ak 0) (ar (br (av cn (av aG (ak 3) (av aG (ak 4) (wC (.int 0)))) (av aG (ak 3) (av aG (ak 4) (wC (.int 1)))))) (ar (ak 5) aF))))) (bH (mq (ar (wC (.str "cut")) (ar (av aG (ak 4) (wC (.int 0))) (ar (av aG (ak 4) (wC (.int 1))) aF))))) bM)
def eM:W Fl:=(aV (QM (aY (aK dA (ar (ak 0) (ar (ak 2) aF)))) (bH (mq (ar (wC (.str "turned")) aF))) bM)
  (aV (tw (me (ak 1)) (eY [4,5]) gh)
  (bH (wC .non))))
theorem m4:∀ls kz,ls.length=4->dU ls kz->eM (ls++List.replicate 2 .un) (aW ls kz):=by
 rintro ls kz - ⟨R,w,ws,rfl,hR,hw,ht,hf⟩;have few:=hR.few;unfold eM;walk_at "w";refine⟨w,ws.map some,by rw[GS],by rw[Up];omega,?_⟩;walk_at "w";by_cases c:w.most<(ff w.elder (ws.map some)).length
 . simp only[c,if_true];refine⟨xp,_,aj (aj (aj (aj aM))),ht .turned ?_ ⟨_,_,rfl⟩ rfl⟩;show w.most<(ff w.elder (iY R.asks.length ws)).length;rw[DZ];exact c
 .
  simp only[c,if_false];rw[show BG R w.top ws.length=.lst ((p9 R.n).map λc=>D.tup [je c,.int (vo R w.top ws.length c)])from rfl];walk_at "w";refine fT (enc:=λc=>D.tup [je c,.int (vo R w.top ws.length c)]) (p9 R.n) (λpre Z=>∃x4 x5,Z=[.d (cG w),.d (BG R w.top ws.length),.d (d9 ws),.d (.lst (cF R.n (RJ R w.top ws))),x4,x5]/\∀c∈pre,eG w.strict (RJ R w.top ws c.1+RJ R w.top ws c.2) (vo R w.top ws.length c)=false) _ ⟨_,_,rfl,λc hc=>by simp at hc⟩ ?_ ?_
  .
   rintro pre c suf Z hsp ⟨x4,x5,rfl,hpre⟩ Q h1 h2 h3 h4;have hc:vg R.n c:=vh.mp (by rw[hsp];simp);have c1:c.1<R.n:=by have:=hc.1;have:=hc.2;omega
   unfold gh;walk_at "w";refine⟨_,gn c1,_,gn hc.2,?_⟩;walk_at "w";refine⟨w,_,_,rfl,?_⟩;walk_at "w";cases e:eG w.strict (RJ R w.top ws c.1+RJ R w.top ws c.2) (vo R w.top ws.length c)
   .
    simp only[Bool.false_eq_true,if_false];refine h1 _ ⟨_,_,rfl,λd hd=>?_⟩;rcases List.mem_append.mp hd with hd|hd
    . exact hpre d hd
    . rw[List.mem_singleton.mp hd];exact e
   . simp only[if_true];refine⟨xp,h4 _ _ ⟨_,aj (aj (aj (aj aM))),ht (.cut c) ⟨hc,?_⟩ ⟨_,_,rfl⟩ rfl⟩⟩;rw[<- D1 hw];exact e
  . rintro Z ⟨x4,x5,rfl,hpre⟩;walk_at "w";exact⟨_,aj (aj (aj (aj aM))),hf ⟨λc hc=>hpre c (vh.mpr hc),xL⟩⟩
def cI(n:Nat):FS:=λls kz=>∃(R:aS)(w:mf)(ws:List Bool)(a:Addr),ls=[.d (a5 R),.d (cG w),.d (.lst (cF R.asks.length (wI R w.top))),.d (.lst (vp R w.top)),.own a (ws.map λb=>D.str (fP b)),.d (.lst (cF R.n (RJ R w.top ws)))]/\R.Ok/\ws.length<=R.asks.length/\R.asks.length-ws.length<n/\R.asks.length<=7 /\
 (∀(ws':List Bool)(b:Addr),ws'.length=R.asks.length->gN R w ws'->kz (.bx none [.d (.str "ways"),.own b (ws'.map λb=>D.str (fP b))]) [.d (a5 R),.d (cG w),.d (.lst (cF R.asks.length (wI R w.top))),.d (.lst (vp R w.top)),.un,.d (.lst (cF R.n (RJ R w.top ws)))]) /\
 ∀ T:Tr,T.Ok R w (iY R.asks.length ws)->T.size+1<=2^(R.asks.length-ws.length+1)->kz (.bx none [.d (.str "none"),.d (RK T)]) [.d (a5 R),.d (cG w),.d (.lst (cF R.asks.length (wI R w.top))),.d (.lst (vp R w.top)),.un,.d (.lst (cF R.n (RJ R w.top ws)))]
theorem zV(ls:List L)(kz:L->List L->Prop):¬cI 0 ls kz:=by rintro⟨R,w,ws,a,_,_,_,h,_⟩;omega
abbrev sy:FS:=cI 9
def pH(self:FS):W L:=(av cn (ak 1) (HF (aY (aK gS (ar (ak 2) (ar (ak 3) (ar (ak 4) (ar (ak 0) aF)))))) (av aG (ak 5) (ak 3)) (wC (.int 0))))
def jz(self:FS):W Fl:=(aV (bj 10 (cD 2 [0,6,9,2] (Bp (ak 5)) (eY [0,1]) bZ (pH self)))
  (aV (bj 11 (aK self (ar (ak 0) (ar (ak 1) (ar (ak 2) (ar (ak 3) (ar (Jw 4 (ko (ar (ak 9) aF))) (ar (ak 10) aF))))))))
  (aV (QM (w4 11 (aY (av mx (u5 11 (av aG (ak 11) (wC (.int 0)))) (wC (.str "ways"))))) (bH (gK 11)) bM)
  (n8 (EY 8 (u5 11 (av aG (ak 11) (wC (.int 1)))))))))
def pJ(self:FS):W Fl:=(bH (Br (ar (wC (.str "none")) (ar (mq (ar (wC (.str "split")) (ar (ak 6) (ar (d8 8 (Bj 8 (wC (.int 0))) (av aG (ak 8) (wC (.int 0)))) (ar (d8 8 (Bj 8 (wC (.int 1))) (av aG (ak 8) (wC (.int 1)))) aF))))) aF))))
def pK(self:FS):W Fl:=(aV (tw (me (mq (ar (wC (.str "on")) (ar (wC (.str "back")) aF)))) (aQ 9) (jz self))
  (pJ self))
def pL(self:FS):W Fl:=(aV (bj 8 (ko aF))
  (pK self))
def pM(self:FS):W Fl:=(aV (QM (aY (av mx (ak 6) (aX bN (ar (ak 2) aF)))) (bH (Br (ar (wC (.str "ways")) (ar (gK 4) aF)))) bM)
  (pL self))
def jA(self:FS):W Fl:=(aV (QM (aY (av ub (ak 7) (wC .non))) (bH (Br (ar (wC (.str "none")) (ar (gK 7) aF)))) bM)
  (pM self))
def pN(self:FS):W Fl:=(aV (bj 7 (u5 4 (aK dU (ar (ak 1) (ar (av aG (ak 3) (av k7 (aX bN (ar (ak 2) aF)) (ak 6))) (ar (ak 4) (ar (ak 5) aF)))))))
  (jA self))
def oO(self:FS):W Fl:=(aV (bj 6 (br (d8 4 (CD 4) (aX bN (ar (ak 4) aF)))))
  (pN self))
theorem Kl{R:aS}{q:Rat}{k:Nat}(h:k<=R.asks.length):Qp (vp R q) ((R.asks.length:Int)-(k:Int))=some (BG R q k):=by
 have e:((R.asks.length:Int)-(k:Int))=((R.asks.length-k:Nat):Int):=by omega
 rw[e];unfold vp;rw[b7 (by rw[List.length_range];omega),List.getElem_range]
 congr 2
 omega
theorem Hf(n:Nat)(f:Nat->Int):i9 (cF n f)=(List.range n).map λ(t:Nat)=>D.tup [.int (t:Int),.int (f t)]:=by unfold i9 cF;refine List.ext_getElem x_ λj h1 h2=>?_;simp
theorem vS:df (.str "ways"):=bR (n:=0) y_ xp
theorem vT:df (.str "none"):=bR (n:=0) y_ xp
theorem xT:∀t:Tr,noL (RK t)=true
 |.turned=>by simp[RK,noL,gH]
 |.cut c=>by simp[RK,noL,gH]
 |.split k a b=>by simp[RK,noL,gH,xT a,xT b]
theorem xU:∀n ls kz,ls.length=6->cI (n+1) ls kz->oO (cI n) (ls++List.replicate 6 .un) (aW ls kz):=by
 rintro n ls kz - ⟨R,w,ws,a0,rfl,hR,hw,hn,h7,hk,hT⟩;have hi:=hR.hi;have wl:(ws.map λb=>D.str (fP b)).length=ws.length:=by simp
 unfold oO;have nw:gH (ws.map λb=>D.str (fP b))=true:=ia _ λ_ _=>rfl;walk_at "w";unfold pN;walk_at "w";rw[ie];refine⟨_,Kl hw,?_⟩;refine⟨R,w,ws,rfl,hR,hw,λT ht hd hz=>?_,λhf=>?_⟩
 .
  obtain⟨x,xs,ex⟩:=hd;unfold jA;have pw:2^1<=2^(R.asks.length-ws.length+1):=Us xp xL;have e2:=hT T ht (by rw[hz];omega);have nt:=xT T;rw[ex]at e2 nt ⊢;have nt':(noL x && gH xs)=true:=by simpa[noL,gH]using nt
  walk_at "w";exact⟨nt',xp,_,aj (aj (aj (aj (mr (aj aM))))),e2⟩
 .
  unfold jA;walk_at "w";unfold pM;walk_at "w";rw[ie];by_cases ek:ws.length=R.asks.length
  . rw[if_pos (by omega)];exact⟨xp,_,aj (aj (aj (aj (mr (aj aM))))),hk ws _ ek (BH hR ek hf)⟩
  .
   rw[if_neg (by omega)];have lt:ws.length<R.asks.length:=by omega
   unfold pL;walk_at "w";refine⟨xp,λc1=>?_⟩;unfold pK;walk_at "w";refine⟨xp,?_⟩
   have turn:∀(b:Bool)(x9 x10 x11:L)(ts:List D)(Q:Fl->Ev->Prop),ts.length<=1->gH ts=true ->
     (∀r Z',aW [.d (a5 R),.d (cG w),.d (.lst (cF R.asks.length (wI R w.top))),.d (.lst (vp R w.top)),.own a0 (ws.map λb=>D.str (fP b)),.d (.lst (cF R.n (RJ R w.top ws)))] kz (.rt r) Z'->Q (.rt r) Z') ->
     (∀T:Tr,T.Ok R w (iY R.asks.length (ws++[b]))->T.size+1<=2^(R.asks.length-(ws++[b]).length+1)->∀x10 x11,Q .nx [.d (a5 R),.d (cG w),.d (.lst (cF R.asks.length (wI R w.top))),.d (.lst (vp R w.top)),.own a0 (ws.map λb=>D.str (fP b)),.d (.lst (cF R.n (RJ R w.top ws))),.d (.int (ws.length:Int)),.d .non,.own c1 (ts++[RK T]),.d (.str (fP b)),x10,x11]) ->
     jz (cI n) [.d (a5 R),.d (cG w),.d (.lst (cF R.asks.length (wI R w.top))),.d (.lst (vp R w.top)),.own a0 (ws.map λb=>D.str (fP b)),.d (.lst (cF R.n (RJ R w.top ws))),.d (.int (ws.length:Int)),.d .non,.own c1 ts,.d (.str (fP b)),x10,x11] Q:=by
    intro b x9 x10 x11 ts Q htl htn hrt hnx;unfold jz;walk_at "w";rw[Hf];refine⟨by rw[Up,List.length_range];exact Ur hi xp,jc (e1:=λ(t:Nat)=>D.int (t:Int)) (e2:=λt=>D.int (RJ R w.top ws t)) (h:=λt=>D.int (RJ R w.top (ws++[b]) t)) (List.range R.n) _ _ _ (λt ht Q hQ=>?_) λl m c2=>?_⟩
    .
     have ht:=List.mem_range.mp ht;unfold pH;walk_at "w";refine⟨R,ws.length,b,t,lt,rfl,hR,ht,?_⟩;walk_at "w";have la:=Mx R w.top ws b t;unfold Ry at la;rw[fV lt]at la;cases eo:(kx R.n R.asks[ws.length] t == b)
     . rw[eo]at la;simp only[Bool.false_eq_true,if_false]at la ⊢;rw[la]at hQ;exact hQ
     . rw[eo]at la;simp only[if_true]at la ⊢;refine⟨_,gn lt,?_⟩;rw[la]at hQ;walk_at "w";exact hQ
    rw[List.nil_append,show((List.range R.n).map λt=>D.int (RJ R w.top (ws++[b]) t))=cF R.n (RJ R w.top (ws++[b]))from rfl];walk_at "w";unfold Jw;walk_at "w";refine⟨show 1<=sizeLine by decide,λa1=>⟨Ur (show ws.length+1<=8 by omega) xp,λa2=>?_⟩⟩;have nts:gH ts=true:=htn;refine⟨R,w,ws++[b],a2,by rw[List.map_append];rfl,hR,by simp;omega,by simp;omega,h7,λws' b' hl hk'=>?_,λT ht hz=>?_⟩
    . have e2:=hk ws' b' hl hk';walk_at "w";exact⟨by rw[nw,nts];rfl,vS,vS,hrt _ _ ⟨_,aj (aj (aj (aj (mr (aj aM))))),e2⟩⟩
    . have e2:=hnx T ht hz;walk_at "w";refine⟨by rw[nw,nts];rfl,vT,vS,?_⟩;rw[if_neg (by decide)];exact⟨by rw[nw,nts];rfl,xT T,Uv htl xp,e2 _ _⟩
   rw[eZ];refine turn true .un .un .un [] _ xp rfl (λr Z' h=>h) λT1 t1 z1 x10 x11=>?_;dsimp only;rw[eZ];refine turn false .un x10 x11 [RK T1] _ (Uu 1) (by simp[gH,xT]) (λr Z' h=>h) λT2 t2 z2 x10 x11=>?_;dsimp only;rw[eZ];dsimp only;unfold pJ;have pw:2^(R.asks.length-ws.length+1)=2*2^(R.asks.length-(ws.length+1)+1):=by rw[show R.asks.length-ws.length+1=R.asks.length-(ws.length+1)+1+1 by omega,Nat.pow_succ];omega
   rw[List.length_append,List.length_singleton]at z1 z2;have sz:(Tr.split ws.length T1 T2).size=T1.size+T2.size+1:=rfl;have e2:=hT (.split ws.length T1 T2) ⟨by rw[vm hw];exact lt,by rw[vn,dif_neg (Nat.lt_irrefl _)],by rw[AW lt];exact t1,by rw[AW lt];exact t2⟩ (by rw[sz,pw];omega);rw[RK]at e2;walk_at "w";exact⟨xp,xp,_,aj (aj (aj (aj (mr (aj aM))))),e2⟩
def jB:FS:=λls kz=>∃(R:aS)(q:Rat)(u:Int),ls=[.d (a5 R),.d (.tup [.int u,.lst (cF R.asks.length (wI R q)),.lst (cF R.n (RG R q))])]/\R.Ok/\∀c,kz (.own c (vp R q)) ls
def m5:W L:=(mq (ar (ak 0) (ar (av k7 (ak 1) (HF (aY (aK dz (ar (ak 0) (ar (av aG (ak 2) (wC (.int 1))) (ar (av aG (ak 2) (wC (.int 2))) aF))))) (ak 3) (wC (.int 0)))) aF)))
def m6:W Fl:=(n8 (EY 3 (cD 2 [4,5] (me (d8 3 (Bj 3 (QL Bf (wC (.int 1)))) (av aG (ak 3) (QL Bf (wC (.int 1)))))) (eY [0,1]) bZ m5)))
def m7:W L:=(mq (ar (ak 0) (ar (br (av cn (av aG (ak 1) (av aG (ak 0) (wC (.int 0)))) (av aG (ak 1) (av aG (ak 0) (wC (.int 1)))))) aF)))
def lR:W Fl:=(aV (bj 2 (av aG (ak 1) (wC (.int 2))))
  (aV (bj 3 (ko (ar (br (cD 1 [2] (me (aK lK (ar (ak 0) aF))) (aQ 0) bZ m7)) aF)))
  (aV (tw (Jt (F6 (ar (av aG (ak 0) (wC (.int 1))) (ar (av aG (ak 1) (wC (.int 1))) aF)))) (eY [4,5]) m6)
  (bH (gK 3)))))
theorem Et(R:aS)(q:Rat):sV (R.asks.map j2) (cF R.asks.length (wI R q))=(List.range R.asks.length).map λi=>D.tup [j2 (cK R i),.int (wI R q i)]:=by
 unfold sV cF;refine List.ext_getElem x_ λj h1 h2=>?_;have hj:j<R.asks.length:=by simpa using h2
 simp[fV hj]
theorem MP{n:Nat}{pre suf:List Nat}{a:Nat}(h:(List.range n).reverse=pre++a::suf):pre.length<n/\a=n-1-pre.length:=by
 have hl:pre.length<n:=by have:=congrArg List.length h;simp at this;omega
 refine⟨hl,?_⟩;have e:(List.range n).reverse[pre.length]?=some a:=by rw[h];simp
 rw[List.getElem?_reverse (by simpa using hl),List.getElem?_range (by simp;omega)]at e;simp at e;omega
theorem vU:∀ls kz,ls.length=2->jB ls kz->lR (ls++List.replicate 4 .un) (aW ls kz):=by
 rintro ls kz - ⟨R,q,u,rfl,hR,h⟩;have few:=hR.few;have hi:=hR.hi;have cl:=AN hi;unfold lR;walk_at "w";refine⟨R,rfl,hR,λc1=>?_⟩;walk_at "w";refine⟨Ur cl xp,bt (enc:=je) (h:=λc=>D.tup [je c,.int (vo R q R.asks.length c)]) _ _ _ (λc hc Q hQ=>?_) λl c2=>?_⟩
 .
  have ic:=vh.mp hc;have c1':c.1<R.n:=by have:=ic.1;have:=ic.2;omega
  unfold m7;walk_at "w";refine⟨_,gn c1',_,gn ic.2,?_⟩;walk_at "w";have e:vo R q R.asks.length c=RG R q c.1+RG R q c.2:=by unfold vo;omega
  rw[e]at hQ;exact⟨xp,hQ⟩
 rw[List.nil_append];walk_at "w";refine⟨xp,λc3=>?_⟩;rw[Et];refine⟨by rw[Up,List.length_range];exact Ur few xp,λc4=>?_⟩;rw[<- List.map_reverse];refine fT (enc:=λi=>D.tup [j2 (cK R i),.int (wI R q i)]) (List.range R.asks.length).reverse (λpre Z=>∃x4 x5,Z=[.d (a5 R),.d (.tup [.int u,.lst (cF R.asks.length (wI R q)),.lst (cF R.n (RG R q))]),.d (.lst (cF R.n (RG R q))),.own c3 ((List.range (pre.length+1)).map λj=>BG R q (R.asks.length-j)),x4,x5]) _ ⟨_,_,by rfl⟩ ?_ ?_
 .
  rintro pre a suf Z hsp ⟨x4,x5,rfl⟩ Q h1 h2 h3 h4;obtain⟨pl,ea⟩:=MP hsp;have el:((List.range (pre.length+1)).map λj=>BG R q (R.asks.length-j)).length=pre.length+1:=by simp
  have at1:Qp ((List.range (pre.length+1)).map λj=>BG R q (R.asks.length-j)) (-1)=some (BG R q (R.asks.length-pre.length)):=by
   have ix:Qo (pre.length+1) (-1)=some pre.length:=by
    unfold Qo;rw[if_neg (by decide),if_pos (by omega)]
    congr 1
    omega
   unfold Qp;rw[el,ix];show((List.range (pre.length+1)).map λj=>BG R q (R.asks.length-j))[pre.length]?=_;rw[List.getElem?_map,List.getElem?_range xL];rfl
  have ek:R.asks.length-pre.length=a+1:=by omega
  rw[ek]at at1;unfold m6;walk_at "w";refine⟨_,at1,?_⟩;rw[show BG R q (a+1)=.lst ((p9 R.n).map λc=>D.tup [je c,.int (vo R q (a+1) c)])from rfl];walk_at "w";refine⟨Ur cl xp,jc (e1:=je) (e2:=λc=>.int (vo R q (a+1) c)) (h:=λc=>D.tup [je c,.int (vo R q a c)]) _ _ _ _ (λc hc Q hQ=>?_) λl m c5=>?_⟩
  .
   unfold m5;walk_at "w";refine⟨c,(cK R a).one,(cK R a).other,rfl,?_⟩;walk_at "w";have st:=GX (R:=R) (q:=q) (k:=a) c;unfold gA at st;cases ap:apart c (cK R a).one (cK R a).other
   . rw[ap]at st;simp only[Bool.false_eq_true,if_false]at st ⊢;rw[st];exact⟨xp,hQ⟩
   . rw[ap]at st;simp only[if_true]at st ⊢;rw[st];exact⟨xp,hQ⟩
  rw[List.nil_append];walk_at "w";refine⟨by rw[List.length_range];exact so (show pre.length+1<99 by omega) xp,?_⟩
  have er:((List.range (pre.length+1)).map λj=>BG R q (R.asks.length-j))++[D.lst ((p9 R.n).map λc=>D.tup [je c,.int (vo R q a c)])]=(List.range ((pre++[a]).length+1)).map λj=>BG R q (R.asks.length-j):=by
   rw[List.length_append,List.length_singleton,List.range_succ (n:=pre.length+1),List.map_append]
   congr 1
   rw[List.map_singleton,show R.asks.length-(pre.length+1)=a by omega];rfl
  rw[er];exact h1 _ ⟨_,_,rfl⟩
 . rintro Z ⟨x4,x5,rfl⟩;walk_at "w";rw[List.length_reverse,List.length_range];exact⟨_,aj (aj aM),h c3⟩
def fC:FS:=λls kz=>∃(R:aS)(w:mf),ls=[.d (a5 R),.d (cG w)]/\R.Ok/\RB 1750 w.top/\R.asks.length<=7 /\
 (∀ ws:List Bool,ws.length=R.asks.length->gN R w ws->∀ b,kz (.bx none [.d (.str "ways"),.own b (ws.map λb=>D.str (fP b))]) ls)/\∀ T:Tr,T.Ok R w (List.replicate R.asks.length none)->T.size<=255->(∀ ws:List Bool,ws.length=R.asks.length->¬ gN R w ws)->kz (.bx none [.d (.str "none"),.d (RK T)]) ls
def pO:W L:=(wC (.int 0))
def oP:W Fl:=(aV (QM (aY (av EX (aX bN (ar (av aG (ak 0) (wC (.int 1))) aF)) (wC (.int 7)))) Ak bM)
  (aV (bj 2 (br (aK ke (ar (ak 0) (ar (av aG (ak 1) (wC (.int 0))) aF)))))
  (bH (aK sy (ar (ak 0) (ar (ak 1) (ar (av aG (ak 2) (wC (.int 1))) (ar (br (aK jB (ar (ak 0) (ar (ak 2) aF)))) (ar (ko aF) (ar (br (cD 1 [] (me (av aG (ak 0) (wC (.int 0)))) (aQ 0) bZ pO)) aF))))))))))
theorem MQ(R:aS)(q:Rat):(R.rooms.map λ_=>D.int 0)=cF R.n (RJ R q []):=by unfold cF;refine List.ext_getElem (by simp[aS.n]) λj h1 h2=>?_;simp[RJ,gI]
theorem Eu{n:Nat}{ws:List Bool}(h:ws.length=n):KI (iY n []) ws:=by refine⟨by rw[vm (Nat.zero_le _)];exact h,λi b e=>?_⟩;rw[vn,dif_neg (by simp)]at e;cases e
theorem xV:∀ls kz,ls.length=2->fC ls kz->oP (ls++List.replicate 1 .un) (aW ls kz):=by
 rintro ls kz - ⟨R,w,rfl,hR,hq,h7,hk,hT⟩;have hi:=hR.hi;unfold oP;walk_at "w";rw[if_neg (by omega)];unfold cG;walk_at "w";refine⟨R,w.top,rfl,hR,hq,?_⟩;walk_at "w";refine⟨R,w.top,_,rfl,hR,λc1=>?_⟩;walk_at "w";refine⟨xp,λc2=>⟨Ur hi xp,?_⟩⟩;refine bt (h:=λ_=>D.int 0) _ _ _ (λa hm Q hQ=>?_) λl' c3=>?_
 . unfold pO;walk_at "w";exact hQ
 rw[List.nil_append,MQ R w.top];have pw:2^(R.asks.length-([]:List Bool).length+1)<=2^8:=Us xp (by simp;omega);refine⟨R,w,[],c2,rfl,hR,Nat.zero_le _,by simp;omega,h7,λws b hl k=>?_,λT ht hz=>?_⟩
 . exact⟨_,aj (aj aM),hk ws hl k b⟩
 . exact⟨_,aj (aj aM),hT T ht (Nat.le_of_succ_le_succ (Ur hz pw)) λws hl=>rA hR T _ ws (vm (Nat.zero_le _)) ht (Eu hl)⟩
def eN:FS:=λls kz=>∃(R:aS)(q:Rat),ls=[.d (a5 R),.d (Q2 q)]/\R.Ok/\kz (.d (cG (j6 R q))) ls
def gT:W L:=(wC .non)
def fE:W Fl:=(bH (mq (ar (ak 1) (ar (wC (.bl true)) (ar (br (cD 1 [] (me (av aG (ak 0) (wC (.int 1)))) (aQ 0) bZ gT)) (ar (wC (.int 0)) aF))))))
theorem Km(as:List Ru):(as.map λ_=>D.non)=(List.replicate as.length none).map kA:=by rw[List.map_replicate];exact List.map_const' ..
theorem oQ:∀ls kz,ls.length=2->eN ls kz->fE (ls++List.replicate 0 .un) (aW ls kz):=by
 rintro ls kz - ⟨R,q,rfl,hR,h⟩;unfold fE;walk_at "w";refine⟨Ur hR.few xp,bt (enc:=j2) (h:=λ_=>D.non) R.asks _ _ (λa ha Q hQ=>?_) λl c=>?_⟩
 . unfold gT;walk_at "w";exact hQ
 rw[List.nil_append,Km];walk_at "w";exact⟨xp,_,aj (aj aM),h⟩
def jC:FS:=λls kz=>∃(R:aS),ls=[.d (a5 R)]/\R.Ok/\RN R/\R.asks.length<=7/\∀(ws:List Bool)(T:Tr),N3 R ws->T.Ok R (j6 R (eB R ws)) (List.replicate R.asks.length none)->T.size<=255->∀a,kz (.bx none [.d (Q2 (eB R ws)),.own a (ws.map λw=>D.str (fP w)),.d (RK T)]) ls
def m8:W Fl:=(aV (bj 2 (u5 1 (aK sk (ar (ak 0) (ar (ak 1) aF)))))
  (aV (bj 3 (aK fC (ar (ak 0) (ar (br (aK eN (ar (ak 0) (ar (ak 2) aF)))) aF))))
  (aV (QM (w4 3 (aY (av mx (u5 3 (av aG (ak 3) (wC (.int 0)))) (wC (.str "none"))))) (bH (Br (ar (gK 2) (ar (gK 1) (ar (Dg 3 1) aF))))) bM)
  (bj 1 (Dg 3 1)))))
def m9:W L:=(wC (.str "on"))
def lS:W Fl:=(aV (bj 1 (cD 1 [] (me (av aG (ak 0) (wC (.int 1)))) (aQ 0) bZ m9))
  (kq (aY (wC (.bl true))) m8))
theorem MR(as:List Ru):(as.map λ_=>D.str "on")=(List.replicate as.length true).map λw=>D.str (fP w):=by rw[List.map_replicate];exact List.map_const' ..
theorem vV:∀ls kz,ls.length=1->jC ls kz->lS (ls++List.replicate 3 .un) (aW ls kz):=by
 rintro ls kz - ⟨R,rfl,hR,hT,h7,h⟩;unfold lS;walk_at "w";refine⟨Ur hR.few xp,bt (enc:=j2) (h:=λ_=>D.str "on") R.asks _ _ (λa ha Q hQ=>?_) λl c=>?_⟩
 . unfold m9;walk_at "w";exact hQ
 rw[List.nil_append,MR];walk_at "w";refine⟨λn Z=>∃(ws:List Bool)(c:Addr)(x2 x3:L),Z=[.d (a5 R),.own c (ws.map λw=>D.str (fP w)),x2,x3]/\ki x2=true/\ki x3=true/\ws.length=R.asks.length/\n=J6 R ws,⟨_,List.replicate R.asks.length true,_,_,_,rfl,rfl,rfl,x_,rfl⟩,?_⟩;rintro n Z ⟨ws,c2,x2,x3,rfl,hx2,hx3,hw,rfl⟩;walk_at "w";unfold m8;have nw:gH (ws.map λw=>D.str (fP w))=true:=ia _ λ_ _=>rfl;have tb:=(J5 hR hT ws).mono (show 1301<=1750 by decide)
 have none:∀T:Tr,T.Ok R (j6 R (eB R ws)) (List.replicate R.asks.length none)->T.size<=255->(∀vs:List Bool,vs.length=R.asks.length->¬gN R (j6 R (eB R ws)) vs)->∀a,kz (.bx Option.none [.d (Q2 (eB R ws)),.own a (ws.map λw=>D.str (fP w)),.d (RK T)]) [.d (a5 R)]:=λT ht hz hn=>h ws T ⟨hw,λvs hv=>by
  have h1:=hn vs hv;have h2:¬eB R vs<eB R ws:=λz=>h1 (BK hR rfl z (by rw[j6,D7];exact Uu 0))
  grind⟩ ht hz
 walk_at "w";refine⟨by rw[hx2,hx3];rfl,R,ws,rfl,hR,hT,hw,?_⟩;walk_at "w";refine⟨R,eB R ws,rfl,hR,?_⟩;walk_at "w";refine⟨R,j6 R (eB R ws),rfl,hR,tb,h7,λvs hv hk b=>?_,λT ht hz hn=>?_⟩
 . have lt:eB R vs<eB R ws:=BJ hR rfl hk;walk_at "w";refine⟨nw,vS,vT,?_⟩;rw[if_neg (by decide)];exact⟨_,J7 hv lt,vs,b,_,_,rfl,rfl,rfl,hv,rfl⟩
 . have e2:=none T ht hz hn;walk_at "w";exact⟨nw,vT,vT,xp,_,aj aM,e2 _⟩
def cb:FS:=λls kz=>∃(ns:List Int)(k:Int),ls=[.d (.lst (ns.map .int)),.d (.int k)]/\0<=k/\k<=100/\∀a xs,p8 xs->kz (.own a xs) ls
def jD:W Fl:=(aV (bj 2 (wC (.int 0)))
  (aV (QM (aY (av yt (ak 1) (aX bN (ar (ak 0) aF)))) (bj 2 (av aG (ak 0) (ak 1))) bM)
  (bH (ko (ar (ak 2) (ar (av fN (av cn (av cn (av fN (ak 2) (wC (.int 2147483587))) (av a8 (av a8 (wC (.int 48271)) (ak 1)) (ak 1))) (wC (.int 13))) (wC (.int 2147483587))) (ar (av M5 (ak 2) (av Bh (wC (.int 10)) (wC (.int 18)))) aF)))))))
theorem tN:∀ls kz,ls.length=2->cb ls kz->jD (ls++List.replicate 1 .un) (aW ls kz):=by
 rintro ls kz - ⟨ns,k,rfl,h0,h1,h⟩;unfold jD
 have PZ:∀(c:Int)(Z:Ev)(e:Z=[.d (.lst (ns.map .int)),.d (.int k),.d (.int c)]),∀a:Addr,aW [.d (.lst (ns.map .int)),.d (.int k)] kz (.rt (.own a [.int c,.int ((c.fmod 2147483587+48271*k*k+13).fmod 2147483587),.bl (decide ((10:Int)^18<=c))])) Z:=λc Z e a=>by
  refine⟨_,aj (aj aM),h a _ ⟨_,_,_,rfl,?_,?_⟩⟩
  . rw[Int.fmod_eq_emod_of_nonneg _ xp];exact Int.emod_nonneg _ xp
  . rw[Int.fmod_eq_emod_of_nonneg _ xp];have:=Int.emod_lt_of_pos (c.fmod 2147483587+48271*k*k+13) (b:=2147483587) xp;omega
 have hb1:cP 48271:=bz xp;have hb2:cP k:=bz (Uv (show k.natAbs<=100 by omega) xp);have hb3:cP (48271*k):=bz (Uv (show(48271*k).natAbs<=4827100 by omega) xp);walk_at "w"
 try rw[Up]
 split
 .
  rename_i hk;have hk:k<(ns.length:Int):=by simpa using hk
  have hi:k.toNat<ns.length:=by omega
  refine⟨.int ns[k.toNat],HM h0 (by rw[List.getElem?_map,gV hi];rfl),?_⟩;exact⟨xp,hb1,hb2,hb3,hb2,xp,xp,xp,xp,xp,PZ _ _ rfl⟩
 . exact⟨xp,hb1,hb2,hb3,hb2,xp,xp,xp,xp,xp,PZ _ _ rfl⟩
def aH:FS:=λls kz=>∃(a:Addr)(xs:List D)(m:Int),ls=[.own a xs,.d (.int m)]/\p8 xs/\0<m/\m<=10^60/\∀(r:Int)(ys:List D),p8 ys->0<=r->r<m->kz (.d (.int r)) [.own a ys,.d (.int m)]
def iC:W Fl:=(aV (yN 0 (wC (.int 1)) (av fN (av cn (av a8 (d8 0 (Bj 0 (wC (.int 1))) (av aG (ak 0) (wC (.int 1)))) (wC (.int 39373))) (wC (.int 17))) (wC (.int 2147483647))))
  (bj 3 (br (av cn (av a8 (ak 3) (wC (.int 2147483629))) (av fN (av a8 (d8 0 (Bj 0 (wC (.int 1))) (av aG (ak 0) (wC (.int 1)))) (d8 0 (Bj 0 (wC (.int 1))) (av aG (ak 0) (wC (.int 1))))) (wC (.int 2147483629)))))))
def lT:W Fl:=(aV (QM (aY (d8 0 (Bj 0 (wC (.int 2))) (av aG (ak 0) (wC (.int 2))))) (aV (bj 2 (av fN (d8 0 (Bj 0 (wC (.int 0))) (av aG (ak 0) (wC (.int 0)))) (ak 1)))
  (aV (yN 0 (wC (.int 0)) (av mw (d8 0 (Bj 0 (wC (.int 0))) (av aG (ak 0) (wC (.int 0)))) (ak 1)))
  (aV (yN 0 (wC (.int 2)) (av EX (d8 0 (Bj 0 (wC (.int 0))) (av aG (ak 0) (wC (.int 0)))) (wC (.int 0))))
  (bH (gK 2))))) bM)
  (aV (bj 3 (wC (.int 0)))
  (aV (tw (kg (av cn (wC (.int 1)) (av a8 (wC (.int 8)) (aX uS (ar (av EX (ak 1) (av Bh (wC (.int 10)) (wC (.int 6)))) aF))))) (aQ 4) iC)
  (bH (av fN (av mw (ak 3) (wC (.int 64))) (ak 1))))))
theorem xW{a:Addr}{c:Int}{m x2:L}{kz:Fl->Ev->Prop}:∀(items:List D)(sd dr:Int)(j:Nat)(x4:L),j+items.length<=100->0<=sd->sd<2147483647->0<=dr->dr<2^(40*j) ->
  (∀sd' dr' x',0<=sd'->sd' < 2147483647->0<=dr'->kz .nx [.own a [.int c,.int sd',.bl false],m,x2,.d (.int dr'),x']) ->
  eZ (aQ 4) iC items [.own a [.int c,.int sd,.bl false],m,x2,.d (.int dr),x4] kz
 |[],sd,dr,j,x4,_,h0,h1,h2,h3,h=>h sd dr x4 h0 h1 h2
 | y::items,sd,dr,j,x4,hl,h0,h1,h2,h3,h=>by
  unfold eZ iC;walk_at "w";obtain⟨r0,r1⟩:=fU (sd*39373+17) (m:=2147483647) xp;generalize (sd*39373+17).fmod 2147483647=s' at r0 r1 ⊢;obtain⟨q0,q1⟩:=fU (s'*s') (m:=2147483629) xp;generalize (s'*s').fmod 2147483629=t' at q0 q1 ⊢;have hl':j+(items.length+1)<=100:=hl;have b1:cP sd:=yW (n:=40) h0 xL xp;have b2:cP s':=yW (n:=40) r0 xL xp;have b3:cP dr:=yW (n:=40*j) h2 h3 xL;have b4:cP 39373:=bz xp;have b5:cP 2147483629:=bz xp;refine⟨b1,b4,xp,b3,b5,b2,b2,xp,?_⟩;refine xW items s' (dr*2147483629+t') (j+1) _ xL r0 r1 xL ?_ h;have e:(2:Int)^(40*(j+1))=2^(40*j)*1099511627776:=by rw[Nat.mul_succ,Int.pow_add];rfl
  omega
theorem vW:∀ls kz,ls.length=2->aH ls kz->lT (ls++List.replicate 3 .un) (aW ls kz):=by
 rintro ls kz - ⟨a,xs,m,rfl,⟨c,sd,t,rfl,h0,h1⟩,hm,hM,h⟩;unfold lT;have hm0:m≠0:=by omega
 have hmz:=xj xL hM
 cases t with
 | true =>
  walk_at "w";obtain⟨r0,r1⟩:=fU c hm;exact⟨hm0,hm0,hmz,_,fR tv (aj aM),h _ _ ⟨_,_,_,rfl,h0,h1⟩ r0 r1⟩
 | false =>
  walk_at "w";refine⟨xp,xp,xp,bz xp,bz (by split<;>decide),⟨by split<;>decide,by split<;>decide⟩,?_⟩;refine xW (c:=c) _ sd 0 0 _ (by simp only[wm,Up,List.length_range];split<;>decide) h0 h1 xp xp λsd' dr' x' g0 g1 g2=>?_;walk_at "w";obtain⟨r0,r1⟩:=fU (dr'.fdiv 64) hm;exact⟨xp,xp,hm0,_,fR tv (aj aM),h _ _ ⟨_,_,_,rfl,g0,g1⟩ r0 r1⟩
def iD:FS:=λls kz=>∃(a:Addr)(xs:List D)(many:Nat),ls=[.own a xs,.d (.int many)]/\p8 xs/\many<=26 /\
 ∀(zs:List Str)(c:Addr)(ys:List D),p8 ys->zs.length=many->(∀z∈zs,Fc z)->zs.Nodup->kz (.own c (zs.map .str)) [.own a ys,.d (.int many)]
def kG:W L:=(av cn (av cn (KD (ak 1) none (some (ak 2))) (av aG (ak 3) (av fN (av cn (ak 4) (ak 0)) (wC (.int 26))))) (KD (ak 1) (some (av cn (ak 2) (wC (.int 1)))) none))
def kH:W Fl:=(bH (cD 1 [3,4,2,5] (kg (ak 1)) (aQ 0) bZ kG))
def kI:W Fl:=(aV (bj 5 (br (bJ aH 0 0 (ma 0 (ar (wC (.int 26)) aF)))))
  kH)
def kJ:W L:=(av aG (ak 1) (bJ aH 0 2 (ma 2 (ar (wC (.int 26)) aF))))
def kK:W Fl:=(aV (bj 4 (br (bJ aH 0 0 (ma 0 (ar (br (aX bN (ar (ak 3) aF))) aF)))))
  kI)
def kL:W Fl:=(aV (bj 3 (br (Jd "" (cD 1 [2,0] (kg (av cn (wC (.int 1)) (bJ aH 0 0 (ma 0 (ar (wC (.int 8)) aF))))) (aQ 0) bZ kJ))))
  kK)
def jE:W Fl:=(aV (bj 2 (wC (.str "abcdefghijklmnopqrstuvwxyz")))
  kL)
theorem tO:∀ls kz,ls.length=2->iD ls kz->jE (ls++List.replicate 4 .un) (aW ls kz):=by
 rintro ls kz - ⟨a,xs,many,rfl,hx,hm,h⟩;unfold jE;walk_at "w";unfold kL;walk_at "w";refine⟨a,xs,8,rfl,hx,xp,xp,λr ys hy r0 r1=>⟨ys,rfl,?_⟩⟩;walk_at "w";refine⟨⟨xL,xL⟩,?_⟩;rw[hX];refine⟨by rw[Up,List.length_range];exact Ur (show(1+r).toNat<=8 by omega) xp,?_⟩;refine va _ (λj Z acc=>∃(l:L)(ys:List D)(cs:List Nat),Z=[l,.d (.str ve),.own a ys]/\p8 ys/\acc=cs.map (λc=>D.str ⟨#[c]⟩)/\cs.length=j/\∀c∈cs,rj c) _ _ ⟨_,ys,[],rfl,hy,rfl,rfl,λc hc=>by simp at hc⟩ ?_ ?_
 .
  rintro j x Z acc hx ⟨l,ys,cs,rfl,hy,rfl,hl,hc⟩ Q hQ;unfold bZ kJ;walk_at "w";refine⟨a,ys,26,rfl,hy,xp,xp,λq ws hw q0 q1=>⟨ws,rfl,xp,_,uj q0 q1,?_⟩⟩;refine hQ _ _ ⟨_,ws,cs++[q.toNat+97],rfl,hw,x_,by simp[hl],λc hm=>?_⟩;rcases List.mem_append.mp hm with hm|hm
  . exact hc c hm
  . rw[List.mem_singleton.mp hm];unfold rj;omega
 .
  rintro Z acc ⟨l,ys,cs,rfl,hy,rfl,hl,hc⟩;rw[Up,List.length_range]at hl;walk_at "w";intro aa;refine⟨cs.map λc=>⟨#[c]⟩,x_,by rw[AH,Up];show cs.length+cs.length*0<=_;omega,?_⟩
  have hb:Fc (Txt.join "" (cs.map λc=>(⟨#[c]⟩:Str))):=by
   refine⟨?_,?_,?_⟩
   . rw[oo];omega
   . rw[oo];omega
   . rw[oo];exact hc
  generalize Txt.join "" (cs.map λc=>(⟨#[c]⟩:Str))=base at hb ⊢;have hbl:=j3 base;have hb1:=hb.lo;have hb2:=hb.hi;unfold kK;walk_at "w";refine⟨Ur (show base.length<=8 by omega) xp,a,ys,base.length,rfl,hy,xL,xL,λp ws hw p0 p1=>⟨ws,rfl,?_⟩⟩;unfold kI;walk_at "w";refine⟨a,ws,26,rfl,hw,xp,xp,λt vs hv t0 t1=>⟨vs,rfl,?_⟩⟩;unfold kH;walk_at "w";refine⟨⟨xL,xL⟩,?_⟩;rw[hX];refine⟨by rw[Up,List.length_range];exact Ur (show((many:Int)).toNat<=26 by omega) xp,?_⟩;refine bt (h:=λk=>D.str (nameAt base p.toNat t.toNat k)) _ _ _ (λk hk Q q=>?_) λl'=>?_
  .
   have hk:k<many:=by have:=List.mem_range.mp hk;omega
   unfold kG;walk_at "w";refine⟨Ur (show base.length<=8 by omega) xp,xp,xp,_,uj (i:=(t+(k:Int)).fmod 26) (fU _ xp).1 (fU _ xp).2,?_⟩;have e1:=GA (x:=base) p0 xL;have e2:=Bz (x:=base) (i:=p+1) xL xL;have l1:(Txt.slice base none (some p)).length<=8:=by rw[j3,e1,List.length_take];omega
   have l2:(Txt.slice base (some (p+1)) none).length<=8:=by rw[j3,e2,List.length_drop];omega
   have e3:((t+(k:Int)).fmod 26).toNat=(t.toNat+k) % 26:=by rw[Int.fmod_eq_emod_of_nonneg _ xp];omega
   have e4:Txt.slice base none (some p)++(⟨#[((t+(k:Int)).fmod 26).toNat+97]⟩:Str)++Txt.slice base (some (p+1)) none=nameAt base p.toNat t.toNat k:=by
    apply JO;rw[mL,mL,e1,e2,e3];have:(p+1).toNat=p.toNat+1:=by omega
    simp[L2.nameAt,this]
   have one:∀c:Nat,(⟨#[c]⟩:Str).length=1:=λ_=>rfl;have lc:(Txt.slice base none (some p)++(⟨#[((t+(k:Int)).fmod 26).toNat+97]⟩:Str)).length<=9:=by rw[j3,mL,List.length_append,<- j3,<- j3,one];omega
   refine⟨Ur (show _<=9 by rw[one];omega) xp,Ur (show base.length<=8 by omega) xp,Ur (Nat.add_le_add lc l2) xp,?_⟩;rw[e4];exact q
  .
   walk_at "w";intro c;refine⟨_,fR (ys:=vs) x_ (aj aM),?_⟩;have e:List.map (λk=>D.str (nameAt base p.toNat t.toNat k)) (List.range ((many:Int)).toNat)=((List.range many).map λk=>nameAt base p.toNat t.toNat k).map D.str:=by rw[List.map_map,Int.toNat_natCast];rfl
   rw[e];refine h _ c vs hv x_ (λz hz=>?_) (xx List.nodup_range λx hx y hy=>?_)
   . obtain⟨k,_,rfl⟩:=List.mem_map.mp hz;exact DA hb xL
   . exact BA xL (by have:=List.mem_range.mp hx;omega) (by have:=List.mem_range.mp hy;omega)
def fF:FS:=λls kz=>∃t b:Int,ls=[.d (.int t),.d (.int b)]/\b≠0/\b.natAbs<2^9000/\kz (.d (Q2 (Rat.divInt t b))) ls
def pP:W Fl:=(M6 2 3 (av fN (ak 3) (ak 2)) (ak 2))
def oR:W Fl:=(aV (bj 2 (br (aX Bi (ar (ak 0) aF))))
  (aV (bj 3 (br (aX Bi (ar (ak 1) aF))))
  (aV (kq (aY (av yu (ak 2) (wC (.int 0)))) pP)
  (aV (QM (aY (av yt (ak 1) (wC (.int 0)))) (bj 3 (av k7 (wC (.int 0)) (ak 3))) bM)
  (bH (mq (ar (av mw (ak 0) (ak 3)) (ar (av mw (ak 1) (ak 3)) aF))))))))
theorem xX:∀ls kz,ls.length=2->fF ls kz->oR (ls++List.replicate 2 .un) (aW ls kz):=by
 rintro ls kz - ⟨t,b,rfl,hb,hz,h⟩;unfold oR;walk_at "w";have h1:=Ar (t:=t) hb;have h2:=Uv (As (t:=t) hb) hz
 have PZ:∀{g:Int}{Z:Ev},g=cQ t b->g≠0/\g.natAbs<2^9000/\g≠0/\g.natAbs<2^9000/\2<=sizeLine/\aW [.d (.int t),.d (.int b)] kz (.rt (.d (.tup [.int (t.fdiv g),.int (b.fdiv g)]))) Z:=λ{g Z} e=>by
  have e1:g≠0:=by rw[e];exact h1
  have e2:g.natAbs<2^9000:=by rw[e];exact h2
  refine⟨e1,e2,e1,e2,xp,_,aj (aj aM),?_⟩;rw[AF hb e];exact h
 refine⟨λn Z=>∃x y:Int,Z=[.d (.int t),.d (.int b),.d (.int x),.d (.int y)]/\0<=x/\0<=y/\Int.gcd x y=Int.gcd t b/\n=x.natAbs,⟨_,_,_,rfl,by split<;>omega,by split<;>omega,?_,rfl⟩,?_⟩
 .
  have e1:(if t<0 then -t else t)=(t.natAbs:Int):=by split<;>omega
  have e2:(if b<0 then -b else b)=(b.natAbs:Int):=by split<;>omega
  rw[e1,e2];simp[Int.gcd]
 .
  rintro n Z ⟨x,y,rfl,x0,y0,hg,rfl⟩;unfold pP;walk_at "w";split
  .
   rename_i hx;have hx:x≠0:=by simpa using hx
   refine⟨hx,_,gm y hx,_,_,rfl,(fU y xL).1,x0,?_,rfl⟩;rw[Int.gcd_comm,uY,Int.gcd_comm];exact hg
  .
   rename_i hx;have hx:x=0:=by simpa using hx
   subst hx;have hy:y=(Int.gcd t b:Int):=by rw[<- hg,Int.gcd_zero_left];omega
   split
   . rename_i hlt;exact PZ (by simp[cQ,hlt,hy])
   . rename_i hlt;exact PZ (by simp[cQ,hlt,hy])
def cm:FS:=λls kz=>∃(a:Addr)(xs:List D)(least kind:Int),ls=[.own a xs,.d (.int least),.d (.int kind)]/\p8 xs/\0<=least/\least<=1/\0<=kind/\kind<5 /\
 ∀(q:Rat)(ys:List D),p8 ys->0<=q->(least=1->0<q)->RB 60 q->kz (.d (Q2 q)) [.own a ys,.d (.int least),.d (.int kind)]
def jF:W Fl:=(bH (aK fF (ar (ak 4) (ar (ak 3) aF))))
def jG:W Fl:=(aV (bj 4 (br (av cn (ak 1) (bJ aH 0 0 (ma 0 (ar (av aG (ko (ar (wC (.int 3)) (ar (wC (.int 10)) (ar (wC (.int 10)) (ar (wC (.int 40)) (ar (av Bh (wC (.int 10)) (wC (.int 12))) aF)))))) (ak 2)) aF))))))
  jF)
def iE:W Fl:=(aV (bj 3 (br (av cn (wC (.int 1)) (bJ aH 0 0 (ma 0 (ar (av aG (ko (ar (wC (.int 1)) (ar (wC (.int 1)) (ar (wC (.int 4)) (ar (wC (.int 12)) (ar (wC (.int 12)) aF)))))) (ak 2)) aF))))))
  jG)
theorem Ew{t b:Int}(h0:0<=t)(h1:t<2^59)(h2:0<b)(h3:b<2^59):0<=Rat.divInt t b/\(0<t->0<Rat.divInt t b)/\RB 60 (Rat.divInt t b):=by
 have e:=Rat.divInt_nonneg (a:=t) (b:=b) h0 xL;refine⟨e,λht=>?_,RB.of_divInt xL ?_ ?_⟩
 .
  refine Rat.lt_of_le_of_ne e λz=>?_;have:Rat.divInt 0 1=Rat.divInt t b:=by rw[<- z];rfl
  rw[Rat.divInt_eq_divInt_iff xp xL]at this;omega
 .
  have:(2:Int)^59=((2^59:Nat):Int):=by decide
  have:(2:Nat)^59<2^60:=by decide
  omega
 .
  have:(2:Int)^59=((2^59:Nat):Int):=by decide
  have:(2:Nat)^59<2^60:=by decide
  omega
theorem Om{k:Int}(h0:0<=k)(h1:k<5):∃m:Int,Qp [D.int 1,.int 1,.int 4,.int 12,.int 12] k=some (.int m)/\1<=m/\m<=12:=by
 obtain rfl|rfl|rfl|rfl|rfl:k=0∨k=1∨k=2∨k=3∨k=4:=by omega
 all_goals exact⟨_,rfl,xp,xp⟩
theorem On{k:Int}(h0:0<=k)(h1:k<5):∃m:Int,Qp [D.int 3,.int 10,.int 10,.int 40,.int (10^12)] k=some (.int m)/\1<=m/\m<=10^12:=by
 obtain rfl|rfl|rfl|rfl|rfl:k=0∨k=1∨k=2∨k=3∨k=4:=by omega
 all_goals exact⟨_,rfl,xp,xp⟩
theorem sD:∀ls kz,ls.length=3->cm ls kz->iE (ls++List.replicate 2 .un) (aW ls kz):=by rintro ls kz - ⟨a,xs,least,kind,rfl,hx,l0,l1,k0,k1,h⟩;obtain⟨m1,e1,m10,m11⟩:=Om k0 k1;obtain⟨m2,e2,m20,m21⟩:=On k0 k1;unfold iE;walk_at "w";refine⟨xp,λ_=>⟨_,e1,a,xs,m1,rfl,hx,xL,xL,λr ys hy r0 r1=>⟨ys,rfl,?_⟩⟩⟩;unfold jG;walk_at "w";refine⟨xp,xp,xp,xp,λ_=>⟨_,e2,a,ys,m2,rfl,hy,xL,xL,λs zs hz s0 s1=>⟨zs,rfl,?_⟩⟩⟩;unfold jF;walk_at "w";obtain⟨a1,a2,a3⟩:=Ew (t:=least+s) (b:=1+r) xL xL xL xL;exact⟨_,_,rfl,xL,xj xL xL,_,fR x_ (aj (aj aM)),h _ zs hz a1 (λe=>a2 xL) a3⟩
def iF:FS:=λls kz=>∃(a:Addr)(xs:List D)(n:Nat)(kind:Int),ls=[.own a xs,.d (.int n),.d (.int kind)]/\p8 xs/\1<=n/\n<=1000/\0<=kind/\kind<5 /\
 ∀(qs:List Rat)(c:Addr)(ys:List D),p8 ys->qs.length=n->(∀q∈qs,0<q/\RB 60 q)->kz (.own c (qs.map Q2)) [.own a ys,.d (.int n),.d (.int kind)]
def kM:W Fl:=(aV (bj 6 (br (bJ cm 0 0 (ma 0 (ar (wC (.int 1)) (ar (ak 2) aF))))))
  (n8 (EY 5 (av aG (ko (ar (ak 4) (ar (ak 6) aF))) (aX uS (ar (av mx (ak 3) (wC (.int 2))) aF))))))
def kN:W Fl:=(bH (gK 5))
def kO:W Fl:=(aV (kq (aY (av yt (d8 5 (CD 5) (aX bN (ar (ak 5) aF))) (ak 1))) kM)
  kN)
def gC:W Fl:=(aV (bj 5 (ko (ar (ak 4) aF)))
  kO)
def kP:W Fl:=(aV (QM (aY (av mx (ak 3) (wC (.int 0)))) (bj 4 (mq (ar (wC (.int 1)) (ar (wC (.int 1)) aF)))) bM)
  gC)
def kQ:W Fl:=(aV (bj 4 (br (bJ cm 0 0 (ma 0 (ar (wC (.int 1)) (ar (ak 2) aF))))))
  kP)
def jH:W Fl:=(aV (bj 3 (br (bJ aH 0 0 (ma 0 (ar (wC (.int 3)) aF)))))
  kQ)
theorem tP:∀ls kz,ls.length=3->iF ls kz->jH (ls++List.replicate 4 .un) (aW ls kz):=by
 rintro ls kz - ⟨a,xs,n,kind,rfl,hx,n1,n2,k0,k1,h⟩;have one:Q2 1=.tup [.int 1,.int 1]:=rfl
 have dF:∀(alike:Int)(p:Rat)(ys:List D),p8 ys->0<p->RB 60 p ->
   gC [.own a ys,.d (.int n),.d (.int kind),.d (.int alike),.d (Q2 p),.un,.un] (aW [.own a xs,.d (.int n),.d (.int kind)] kz):=by
  intro alike p ys hy hp hb;unfold gC;walk_at "w";refine⟨xp,λc=>?_⟩;unfold kO;walk_at "w";refine⟨λm Z=>∃(qs:List Rat)(zs:List D)(l:L),Z=[.own a zs,.d (.int n),.d (.int kind),.d (.int alike),.d (Q2 p),.own c (qs.map Q2),l]/\p8 zs/\qs.length<=n/\m=n-qs.length/\∀q∈qs,0<q/\RB 60 q,⟨_,[p],ys,_,rfl,hy,n1,rfl,by intro q hq;rw[List.mem_singleton.mp hq];exact⟨hp,hb⟩⟩,?_⟩;rintro m Z ⟨qs,zs,l,rfl,hz,hl,rfl,hq⟩;walk_at "w"
  try rw[Up]
  split
  .
   rename_i hlt;unfold kM;walk_at "w";refine⟨a,zs,1,kind,rfl,hz,xp,xp,k0,k1,λq ws hw q0 q1 qb=>⟨ws,rfl,?_⟩⟩;walk_at "w";have hs:qs.length<sizeLine:=by exact Uv (show qs.length<=1000 by omega) xp
   have more:∀q':Rat,0<q'->RB 60 q'->∃m,m<n-qs.length/\∃(qs':List Rat)(zs:List D)(l:L),[L.own a ws,.d (.int n),.d (.int kind),.d (.int alike),.d (Q2 p),.own c (qs.map Q2++[Q2 q']),.d (Q2 q)]=[.own a zs,.d (.int n),.d (.int kind),.d (.int alike),.d (Q2 p),.own c (qs'.map Q2),l]/\p8 zs/\qs'.length<=n/\m=n-qs'.length/\∀q∈qs',0<q/\RB 60 q:=by
    intro q' p0 pb;refine⟨n-(qs++[q']).length,by rw[List.length_append];simp only[List.length_singleton];omega,qs++[q'],ws,.d (Q2 q),by rw[List.map_append];rfl,hw,by rw[List.length_append];simp only[List.length_singleton];omega,rfl,λz hz=>?_⟩;rcases List.mem_append.mp hz with hz|hz
    . exact hq z hz
    . rw[List.mem_singleton.mp hz];exact⟨p0,pb⟩
   refine⟨xp,λ_=>?_⟩;by_cases h2:alike=2
   . refine⟨Q2 q,?_,hs,more q (q1 rfl) qb⟩;simp[h2,xi]
   . refine⟨Q2 p,?_,hs,more p hp hb⟩;simp[h2,xh]
  .
   have e:qs.length=n:=by omega
   unfold kN;walk_at "w";exact⟨_,fR x_ (aj (aj aM)),h qs c zs hz e hq⟩
 unfold jH;walk_at "w";refine⟨a,xs,3,rfl,hx,xp,xp,λr ys hy r0 r1=>⟨ys,rfl,?_⟩⟩;unfold kQ;walk_at "w";refine⟨a,ys,1,kind,rfl,hy,xp,xp,k0,k1,λq zs hz q0 q1 qb=>⟨zs,rfl,?_⟩⟩;unfold kP;walk_at "w";split
 . exact⟨xp,dF r 1 zs hz xp ⟨xp,xp⟩⟩
 . exact dF r q zs hz (q1 rfl) qb
def jI:FS:=λls kz=>∃(a:Addr)(xs:List D)(shape k:Int)(n:Nat),ls=[.own a xs,.d (.int shape),.d (.int n),.d (.int k)]/\p8 xs/\2<=n/\n<=1000/\0<=k/\k<=1000 /\
 ∀(i j:Nat)(ys:List D),p8 ys->i<n->j<n->i≠j->kz (.d (.tup [.int i,.int j])) [.own a ys,.d (.int shape),.d (.int n),.d (.int k)]
def nc:W Fl:=(bH (mq (ar (ak 4) (ar (ak 5) aF))))
def ng:W Fl:=(aV (QM (aY (av mx (ak 1) (wC (.int 3)))) (bH (mq (ar (wC (.int 0)) (ar (br (av cn (wC (.int 1)) (av fN (ak 5) (av k7 (ak 2) (wC (.int 1)))))) aF)))) bM)
  nc)
def nh:W Fl:=(aV (QM (aY (av mx (ak 1) (wC (.int 2)))) (bH (mq (ar (br (av a8 (av fN (ak 3) (wC (.int 2))) (av k7 (ak 2) (wC (.int 1))))) (ar (br (av a8 (av k7 (wC (.int 1)) (av fN (ak 3) (wC (.int 2)))) (av k7 (ak 2) (wC (.int 1))))) aF)))) bM)
  ng)
def nk:W Fl:=(aV (QM (aY (av mx (ak 1) (wC (.int 1)))) (bH (mq (ar (av fN (ak 3) (ak 2)) (ar (av fN (av cn (ak 3) (av mw (ak 2) (wC (.int 2)))) (ak 2)) aF)))) bM)
  nh)
def nq:W Fl:=(aV (bj 5 (av fN (av cn (av cn (ak 4) (wC (.int 1))) (bJ aH 0 0 (ma 0 (ar (av k7 (ak 2) (wC (.int 1))) aF)))) (ak 2)))
  nk)
def lU:W Fl:=(aV (bj 4 (br (bJ aH 0 0 (ma 0 (ar (ak 2) aF)))))
  nq)
theorem vX:∀ls kz,ls.length=4->jI ls kz->lU (ls++List.replicate 2 .un) (aW ls kz):=by
 rintro ls kz - ⟨a,xs,shape,k,n,rfl,hx,n2,n3,k0,k1,h⟩;have PZ:∀(ys:List D)(i j:Int)(Z:Ev),p8 ys->0<=i->i<n->0<=j->j<n->i≠j->.own a ys∈Z->aW [.own a xs,.d (.int shape),.d (.int n),.d (.int k)] kz (.rt (.d (.tup [.int i,.int j]))) Z:=by intro ys i j Z hy i0 i1 j0 j1 hij hm;have:=h i.toNat j.toNat ys hy xL xL xL;rw[Int.toNat_of_nonneg i0,Int.toNat_of_nonneg j0]at this;exact⟨_,fR hm (aj (aj (aj aM))),this⟩
 unfold lU;walk_at "w";refine⟨a,xs,n,rfl,hx,xL,xL,λr ys hy r0 r1=>⟨ys,rfl,?_⟩⟩;unfold nq;walk_at "w";refine⟨a,ys,n-1,rfl,hy,xL,xL,λs zs hz s0 s1=>⟨zs,rfl,?_⟩⟩;walk_at "w";refine⟨xL,?_⟩;have e1:=Int.fmod_eq_emod_of_nonneg (r+1+s) (b:=n) xL;have e2:=Int.fmod_eq_emod_of_nonneg k (b:=n) xL;have e3:=Int.fdiv_eq_ediv_of_nonneg (n:Int) (b:=2) xL;have e4:=Int.fmod_eq_emod_of_nonneg (k+(n:Int) / 2) (b:=n) xL;have e5:=Int.fmod_eq_emod_of_nonneg k (b:=2) xL;have e6:=Int.fmod_eq_emod_of_nonneg ((r+1+s) % (n:Int)) (b:=(n:Int)-1) xL;rw[e1];have o0:=Int.emod_nonneg (r+1+s) (b:=n) xL;have o1:=Int.emod_lt_of_pos (r+1+s) (b:=n) xL
 have o2:(r+1+s) % (n:Int)≠r:=λz=>by
  by_cases q:r+1+s<n
  . rw[Int.emod_eq_of_lt xL q]at z;omega
  .
   have:(r+1+s) % (n:Int)=r+1+s-n:=by rw[<- Int.sub_emod_right,Int.emod_eq_of_lt xL xL]
   omega
 unfold nk;walk_at "w";split
 .
  rw[e2,e3,e4];refine⟨xL,xp,xp,xL,xp,PZ zs _ _ _ hz (Int.emod_nonneg _ xL) (Int.emod_lt_of_pos _ xL) (Int.emod_nonneg _ xL) (Int.emod_lt_of_pos _ xL) (λz=>?_) x_⟩;have h1:(k+(n:Int) / 2-k) % n=0:=Int.emod_eq_emod_iff_emod_sub_eq_zero.mp z.symm;have e9:k+(n:Int) / 2-k=n / 2:=by omega
  rw[e9,Int.emod_eq_of_lt xL xL]at h1;omega
 .
  unfold nh;walk_at "w";split
  .
   rw[e5];have m0:=Int.emod_two_eq k;refine⟨xp,bz xL,bz xL,xp,bz xL,bz xL,xp,?_⟩;rcases m0 with m0|m0
   . rw[m0];exact PZ zs _ _ _ hz xL xL xL xL xL x_
   . rw[m0];exact PZ zs _ _ _ hz xL xL xL xL xL x_
  .
   unfold ng;walk_at "w";split
   . rw[e6];have p0:=Int.emod_nonneg ((r+1+s) % (n:Int)) (b:=(n:Int)-1) xL;have p1:=Int.emod_lt_of_pos ((r+1+s) % (n:Int)) (b:=(n:Int)-1) xL;exact⟨xL,xp,PZ zs _ _ _ hz xL xL xL xL xL x_⟩
   . unfold nc;walk_at "w";exact⟨xp,PZ zs _ _ _ hz xL xL xL xL (Ne.symm o2) x_⟩
structure Drawn (most count:Nat) (R:aS):Prop where
 ok:R.Ok
 hi:R.n<=most
 few:R.asks.length<=count
 nms:(∀a∈R.asks,Fc a.nm)/\(R.asks.map (·.nm)).Nodup
 tt:∀a∈R.asks,RB 60 a.size
def jJ:FS:=λls kz=>∃(ns:List Int)(at_ most count:Nat),ls=[.d (.lst (ns.map .int)),.d (.int at_),.d (.int most),.d (.int count)]/\at_<=90/\2<=most/\most<=12/\count<=20 /\
 ∀R:aS,Drawn most count R->kz (.d (a5 R)) ls
def iG:W Fl:=(aV (IV [13,14] (bJ jI 0 4 (ma 4 (ar (ak 8) (ar (ak 5) (ar (ak 12) aF))))))
  (n8 (EY 11 (mq (ar (av aG (ak 9) (ak 12)) (ar (ak 13) (ar (ak 14) (ar (br (bJ cm 0 4 (ma 4 (ar (wC (.int 0)) (ar (av aG (ak 7) (wC (.int 1))) aF))))) aF))))))))
def nr:W Fl:=(bH (mq (ar (ak 10) (ar (ak 11) aF))))
def nu:W Fl:=(aV (tw (kg (ak 6)) (aQ 12) iG)
  nr)
def nv:W Fl:=(aV (bj 11 (ko aF))
  nu)
def ny:W Fl:=(aV (bj 4 (aK cb (ar (ak 0) (ar (br (av cn (ak 1) (wC (.int 2)))) aF))))
  nv)
def nA:W Fl:=(aV (bj 10 (br (aK iF (ar (aK cb (ar (ak 0) (ar (br (av cn (ak 1) (wC (.int 1)))) aF))) (ar (ak 5) (ar (av aG (ak 7) (wC (.int 0))) aF))))))
  ny)
def nB:W Fl:=(aV (bj 9 (br (bJ iD 0 4 (ma 4 (ar (ak 6) aF)))))
  nA)
def nC:W Fl:=(aV (bj 8 (br (bJ aH 0 4 (ma 4 (ar (wC (.int 6)) aF)))))
  nB)
def nD:W Fl:=(aV (bj 7 (br (ko (ar (br (bJ aH 0 4 (ma 4 (ar (wC (.int 5)) aF)))) (ar (br (bJ aH 0 4 (ma 4 (ar (wC (.int 5)) aF)))) aF)))))
  nC)
def nE:W Fl:=(aV (bj 6 (br (bJ aH 0 4 (ma 4 (ar (br (av cn (ak 3) (wC (.int 1)))) aF)))))
  nD)
def nF:W Fl:=(aV (bj 5 (br (av cn (wC (.int 2)) (bJ aH 0 4 (ma 4 (ar (av k7 (ak 2) (wC (.int 1))) aF))))))
  nE)
def lV:W Fl:=(aV (bj 4 (aK cb (ar (ak 0) (ar (ak 1) aF))))
  nF)
theorem Ex{S a1 m3 c3 rms:D}{b c:Addr}{n shape kind:Nat}{zs:List Str}{kz:Fl->Ev->Prop}(hn:2<=n)(hn2:n<=12)(hk:kind<5)(k0:Nat)(hzl:zs.length<=20)(hz:∀z∈zs,Fc z)(xs:List D)(hx:p8 xs)(x13 x14:L)
  (PZ:∀(as:List Ru)(ys:List D)(x12 x13 x14:L),(∀a∈as,rg n a/\RB 60 a.size)->as.map (·.nm)=zs->kz .nx [.d S,.d a1,.d m3,.d c3,.own b ys,.d (.int n),.d (.int (zs.length:Int)),.d (.lst [.int k0,.int kind]),.d (.int shape),.d (.lst (zs.map .str)),.d rms,.own c (as.map j2),x12,x13,x14]) :
  eZ (aQ 12) iG ((List.range zs.length).map λ(i:Nat)=>D.int (i:Int)) [.d S,.d a1,.d m3,.d c3,.own b xs,.d (.int n),.d (.int (zs.length:Int)),.d (.lst [.int k0,.int kind]),.d (.int shape),.d (.lst (zs.map .str)),.d rms,.own c [],.un,x13,x14] kz:=by
 refine mI _ (λj Z=>∃(as:List Ru)(ys:List D)(x12 x13 x14:L),Z=[.d S,.d a1,.d m3,.d c3,.own b ys,.d (.int n),.d (.int (zs.length:Int)),.d (.lst [.int k0,.int kind]),.d (.int shape),.d (.lst (zs.map .str)),.d rms,.own c (as.map j2),x12,x13,x14]/\p8 ys/\(∀a∈as,rg n a/\RB 60 a.size)/\as.map (·.nm)=zs.take j) _ ⟨[],xs,_,_,_,rfl,hx,λa ha=>by simp at ha,rfl⟩ ?_ ?_
 .
  rintro j x Z hj ⟨as,ys,x12,x13,x14,rfl,hy,ha,hn'⟩ Q h1 h2 h3 h4;have hj':j<zs.length:=by have:=(k4.mp hj).1;simpa using this
  have ex:x=.int (j:Int):=by rw[List.getElem?_map,List.getElem?_range hj']at hj;exact(Option.some.inj hj).symm
  subst ex;unfold iG;walk_at "w";refine⟨b,ys,shape,j,n,rfl,hy,hn,xL,xL,xL,λi k ws hw i1 k1 hik=>⟨ws,rfl,?_⟩⟩;walk_at "w";refine⟨.str zs[j],b7 hj',?_⟩;refine⟨b,ws,0,kind,rfl,hw,xp,xp,xL,xL,λq vs hv q0 _ qb=>⟨vs,rfl,?_⟩⟩;walk_at "w";have fI:as.length=j:=by have:=congrArg List.length hn';rw[Up,List.length_take]at this;omega
  refine⟨xp,by rw[fI];exact so hj' (Ur hzl xp),h1 _ ⟨as++[⟨zs[j],i,k,q⟩],vs,_,_,_,by rw[List.map_append];rfl,hv,λa hm=>?_,?_⟩⟩
  .
   rcases List.mem_append.mp hm with hm|hm
   . exact ha a hm
   . rw[List.mem_singleton.mp hm];exact⟨⟨i1,k1,hik,q0,GC qb,(hz _ (List.getElem_mem hj')).ok⟩,qb⟩
  . rw[List.map_append,hn',List.take_succ,gV hj'];rfl
 . rintro Z ⟨as,ys,x12,x13,x14,rfl,hy,ha,hn'⟩;rw[Up,List.length_range,List.take_of_length_le (Uu _)]at hn';exact PZ as ys x12 x13 x14 ha hn'
theorem vY:∀ls kz,ls.length=4->jJ ls kz->lV (ls++List.replicate 11 .un) (aW ls kz):=by
 rintro ls kz - ⟨ns,at_,most,count,rfl,ha,m2,m12,c20,h⟩;unfold lV;walk_at "w";refine⟨ns,at_,rfl,xL,xL,λb xs hx=>?_⟩;unfold nF;walk_at "w";refine⟨b,xs,(most:Int)-1,rfl,hx,xL,xL,λr ys hy r0 r1=>⟨ys,rfl,?_⟩⟩;unfold nE;walk_at "w";refine⟨b,ys,(count:Int)+1,rfl,hy,xL,xL,λs zs hz s0 s1=>⟨zs,rfl,?_⟩⟩;unfold nD;walk_at "w";refine⟨b,zs,5,rfl,hz,xp,xp,λk1 ws hw k10 k11=>⟨ws,rfl,?_⟩⟩;walk_at "w";refine⟨b,ws,5,rfl,hw,xp,xp,λk2 vs hv k20 k21=>⟨vs,rfl,?_⟩⟩;walk_at "w";refine⟨xp,λkk=>?_⟩;unfold nC;walk_at "w";refine⟨b,vs,6,rfl,hv,xp,xp,λsh us hu sh0 sh1=>⟨us,rfl,?_⟩⟩;unfold nB;walk_at "w";obtain⟨many,rfl⟩:=Int.eq_ofNat_of_zero_le s0;obtain⟨pl,epl⟩:∃pl:Nat,2+r=(pl:Int):=Int.eq_ofNat_of_zero_le xL;obtain⟨sh',rfl⟩:=Int.eq_ofNat_of_zero_le sh0;obtain⟨k1',rfl⟩:=Int.eq_ofNat_of_zero_le k10;obtain⟨k2',rfl⟩:=Int.eq_ofNat_of_zero_le k20;rw[epl];refine⟨b,us,many,rfl,hu,xL,λnms c ts ht hnl hnm hnd=>⟨ts,rfl,?_⟩⟩;unfold nA;walk_at "w";refine⟨ns,at_+1,rfl,xL,xL,λb2 xs2 hx2=>?_⟩;refine⟨b2,xs2,pl,k1',rfl,hx2,xL,xL,xL,xL,λqs c2 ys2 hy2 hql hq=>?_⟩;unfold ny;walk_at "w";refine⟨ns,at_+2,rfl,xL,xL,λb3 xs3 hx3=>?_⟩;unfold nv;walk_at "w";refine⟨xp,λc3=>?_⟩;unfold nu;walk_at "w";refine⟨⟨xL,xL⟩,?_⟩;rw[hX,Int.toNat_natCast,<- hnl];refine Ex (n:=pl) xL xL xL k1' xL hnm xs3 hx3 _ _ λas ys' x12 x13 x14 hao han=>?_;walk_at "w";unfold nr;walk_at "w";refine⟨xp,_,aj (aj (aj (aj aM))),h ⟨qs,as⟩ ?_⟩;have hal:as.length=nms.length:=by rw[<- han,Up]
 refine⟨⟨?_,?_,?_,hq,?_,NX (λa ha=>(hao a ha).2) (by show as.length<=20;omega)⟩,?_,?_,⟨?_,?_⟩,λa ha=>(hao a ha).2⟩
 . show 2<=qs.length;omega
 . show qs.length<=12;omega
 . show as.length<=20;omega
 . show ∀a∈as,rg qs.length a;rw[hql];exact λa ha=>(hao a ha).1
 . show qs.length<=most;omega
 . show as.length<=count;omega
 . intro a ha;exact hnm _ (by rw[<- han];exact List.mem_map_of_mem ha)
 . show(as.map (·.nm)).Nodup;rw[han];exact hnd
noncomputable def Ua(R:aS):D:=.lst (R.asks.map λa=>D.lst ((Rw R.n a.one a.other).map λ(t:Nat)=>D.int (t:Int)))
def oS:FS:=λls kz=>∃(R:aS),ls=[.d (a5 R)]/\R.Ok/\∀c,kz (.own c (R.asks.map λa=>D.lst ((Rw R.n a.one a.other).map λ(t:Nat)=>D.int (t:Int)))) ls
def lW:W Fl:=(aV (n8 (EY 6 (ak 7)))
  (bj 7 (av fN (av cn (ak 7) (wC (.int 1))) (aX bN (ar (av aG (ak 0) (wC (.int 0))) aF)))))
def sE:W Fl:=(aV (bj 6 (ko aF))
  (aV (bj 7 (ak 3))
  (aV (kq (aY (av yu (ak 7) (ak 4))) lW)
  (n8 (EY 1 (ak 6))))))
def sF:W Fl:=(aV (bj 1 (ko aF))
  (aV (tw (me (av aG (ak 0) (wC (.int 1)))) (eY [2,3,4,5]) sE)
  (bH (gK 1))))
theorem Kn{f:Nat->Nat}{s m:Nat}(h:s<m):((List.range m).map f).take (s+1)=((List.range m).map f).take s++[f s]:=by rw[List.take_succ,List.getElem?_map,List.getElem?_range h];rfl
theorem Ko{R:aS}(hR:R.Ok){x1 x2 x5:L}{i j:Nat}(hi:i<R.n)(hj:j<R.n)(c:Addr){kz:Fl->Ev->Prop}(PZ:kz .nx [.d (a5 R),x1,x2,.d (.int i),.d (.int j),x5,.own c ((Rw R.n i j).map λ(t:Nat)=>D.int (t:Int)),.d (.int j)]) :
  kq (aY (av yu (ak 7) (ak 4))) lW [.d (a5 R),x1,x2,.d (.int i),.d (.int j),x5,.own c [],.d (.int i)] kz:=by
 have hhi:=hR.hi;have hlo:=hR.lo;refine⟨λm Z=>∃s,Z=[.d (a5 R),x1,x2,.d (.int i),.d (.int j),x5,.own c (((Rw R.n i j).take s).map λ(t:Nat)=>D.int (t:Int)),.d (.int (((i+s) % R.n:Nat):Int))]/\s<=Rx R.n i j/\m=Rx R.n i j-s,⟨_,0,by rw[Nat.add_zero,Nat.mod_eq_of_lt hi];rfl,Nat.zero_le _,rfl⟩,?_⟩;rintro m Z ⟨s,rfl,hs,rfl⟩;have hf:Rx R.n i j<R.n:=Nat.mod_lt _ xL;have hfe:=rk hi hj
 have hm:(i+s) % R.n=if i+s<R.n then i+s else i+s-R.n:=mM xL
 walk_at "w";by_cases hne:(i+s) % R.n=j
 .
  have hs':s=Rx R.n i j:=by rw[hm]at hne;rw[hfe]at hs ⊢;split at hne<;>split at hs<;>split<;>omega
  rw[if_neg (λz=>z (by rw[hne]))];rw[List.take_of_length_le (by rw[Ml];omega),hne];exact PZ
 .
  have hs':s<Rx R.n i j:=by refine Nat.lt_of_le_of_ne hs λz=>hne ?_;rw[z,hfe]at hm;rw[z,hfe,hm];split<;>split<;>omega
  rw[if_pos (λz=>hne (Int.ofNat_inj.mp z))];unfold lW;walk_at "w";refine⟨?_,xL,?_⟩
  . rw[List.length_take];exact Uv (Nat.min_le_left _ _) (so (show s<12 by omega) xp)
  refine⟨Rx R.n i j-(s+1),xL,s+1,?_,hs',rfl⟩;have e1:(Rw R.n i j).take (s+1)=(Rw R.n i j).take s++[(i+s) % R.n]:=Kn hs';have e2:((((i+s) % R.n:Nat):Int)+1).fmod (R.n:Int)=(((i+(s+1)) % R.n:Nat):Int):=by have:=GD (n:=R.n) (i:=(i+s) % R.n) (s:=1);rw[Nat.mod_add_mod,Nat.add_assoc]at this;exact this
  rw[e1,List.map_append];rw[e2];rfl
theorem zW:∀ls kz,ls.length=1->oS ls kz->sF (ls++List.replicate 7 .un) (aW ls kz):=by
 rintro ls kz - ⟨R,rfl,hR,h⟩;have few:=hR.few;unfold sF;walk_at "w";refine⟨xp,λc=>?_⟩;refine fT (enc:=j2) R.asks (λpre Z=>∃x2 x3 x4 x5 x6 x7,Z=[.d (a5 R),.own c (pre.map λa=>D.lst ((Rw R.n a.one a.other).map λ(t:Nat)=>D.int (t:Int))),x2,x3,x4,x5,x6,x7]) _ ⟨_,_,_,_,_,_,rfl⟩ ?_ ?_
 .
  rintro pre A suf Z hsp ⟨x2,x3,x4,x5,x6,x7,rfl⟩ Q h1 h2 h3 h4;have hA:rg R.n A:=hR.ask A (by rw[hsp];simp);have fI:pre.length<20:=by have:=congrArg List.length hsp;rw[List.length_append,List.length_cons]at this;omega
  unfold sE;walk_at "w";refine⟨xp,λc2=>?_⟩;refine Ko hR hA.one hA.other c2 ?_;walk_at "w";refine⟨so fI xp,?_⟩;exact h1 _ ⟨_,_,_,_,_,_,by rw[List.map_append];rfl⟩
 . rintro Z ⟨x2,x3,x4,x5,x6,x7,rfl⟩;walk_at "w";exact⟨_,aj aM,h c⟩
def gD:FS:=λls kz=>∃(qs:List Rat),ls=[.d (.lst (qs.map Q2))]/\qs.length<=20/\(∀q∈qs,RB 60 q)/\kz (.d (.tup [.lst (qs.map λq=>D.int (eF (RE qs) q)),.int (RE qs:Int)])) ls
def jK:W L:=(av a8 (av aG (ak 0) (wC (.int 0))) (av mw (ak 1) (av aG (ak 0) (wC (.int 1)))))
def fG:W Fl:=(M6 3 4 (ak 4) (av fN (ak 3) (ak 4)))
def jL:W Fl:=(aV (bj 3 (ak 1))
  (aV (bj 4 (av aG (ak 2) (wC (.int 1))))
  (aV (kq (aY (av yu (ak 4) (wC (.int 0)))) fG)
  (bj 1 (br (av a8 (av mw (ak 1) (ak 3)) (av aG (ak 2) (wC (.int 1)))))))))
def iH:W Fl:=(aV (bj 1 (wC (.int 1)))
  (aV (tw (me (ak 0)) (aQ 2) jL)
  (bH (mq (ar (br (cD 1 [1] (me (ak 0)) (aQ 0) bZ jK)) (ar (ak 1) aF))))))
theorem MS(qs:List Rat)(q:Rat):RE (qs++[q])=Nat.lcm (RE qs) q.den:=by unfold RE;rw[List.foldl_append];rfl
theorem Hg{b d:Nat}{x0 x1 x2:L}{kz:Fl->Ev->Prop}(hd:0<d)(PZ:∀x4,kz .nx [x0,x1,x2,.d (.int (Int.gcd b d:Nat)),x4]) :
  kq (aY (av yu (ak 4) (wC (.int 0)))) fG [x0,x1,x2,.d (.int b),.d (.int d)] kz:=by
 refine⟨λn Z=>∃x y:Int,Z=[x0,x1,x2,.d (.int x),.d (.int y)]/\0<=x/\0<=y/\Int.gcd x y=Int.gcd b d/\n=y.natAbs,⟨_,b,d,rfl,xL,xL,rfl,rfl⟩,?_⟩;rintro n Z ⟨x,y,rfl,hx,hy0,hg,rfl⟩;walk_at "w";split
 .
  rename_i hy;have hy:y≠0:=by simpa using hy
  unfold fG;walk_at "w";have hr:=fU x (m:=y) xL;exact⟨hy,_,gm x hy,y,x.fmod y,rfl,hy0,hr.1,by rw[uY];exact hg,rfl⟩
 .
  rename_i hy;have hy:y=0:=by simpa using hy
  subst hy;have e:x=((Int.gcd b d:Nat):Int):=by rw[<- hg,Int.gcd_zero_right];omega
  rw[e];exact PZ _
theorem sG:∀ls kz,ls.length=1->gD ls kz->iH (ls++List.replicate 4 .un) (aW ls kz):=by
 rintro ls kz - ⟨qs,rfl,hl,hb,h⟩;unfold iH;walk_at "w";refine fT (enc:=Q2) qs (λpre Z=>∃x2 x3 x4,Z=[.d (.lst (qs.map Q2)),.d (.int (RE pre:Int)),x2,x3,x4]) _ ⟨_,_,_,rfl⟩ ?_ ?_
 .
  rintro pre q suf Z hsp ⟨x2,x3,x4,rfl⟩ Q h1 h2 h3 h4;have dq:=den_pos q;have hpre:∀p∈pre,RB 60 p:=λp hp=>hb p (by rw[hsp];simp[hp]);have hpl:pre.length<=20:=by have:=congrArg List.length hsp;rw[List.length_append,List.length_cons]at this;omega
  obtain⟨c0,c1⟩:=mQ hpl hpre;have qb:=hb q (by rw[hsp];simp);have g0:0<Nat.gcd (RE pre) q.den:=Nat.gcd_pos_of_pos_right _ dq;have gl:Nat.gcd (RE pre) q.den<=q.den:=Nat.le_of_dvd dq (Nat.gcd_dvd_right _ _);unfold jL;walk_at "w";refine Hg dq λx4=>?_;walk_at "w";have eg:(Int.gcd (RE pre:Int) (q.den:Int))=Nat.gcd (RE pre) q.den:=rfl;have c12:(2:Nat)^1200<2^1201:=Nat.pow_lt_pow_right xp xp;have qd:=qb.2;have e1:(((Nat.gcd (RE pre) q.den:Nat):Int)).natAbs<2^9000:=by rw[Int.natAbs_natCast];exact Uv gl (so qd (Us xp xp))
  have e2:((RE pre:Int).fdiv ((Nat.gcd (RE pre) q.den:Nat):Int)).natAbs<2^1201:=by rw[Int.fdiv_eq_ediv_of_nonneg _ xL,<- Int.natCast_ediv,Int.natAbs_natCast];exact Uv (Nat.div_le_self _ _) xL
  have ll:=DN (a:=RE pre) dq;rw[eg]at ll ⊢;refine⟨xL,e1,aP e2 xp,qb.bd xp,?_⟩;rw[ll,<- MS];exact h1 _ ⟨_,_,_,rfl⟩
 .
  rintro Z ⟨x2,x3,x4,rfl⟩;walk_at "w";obtain⟨c0,c1⟩:=mQ hl hb;refine⟨Ur hl xp,bt (enc:=Q2) (h:=λq=>D.int (eF (RE qs) q)) qs _ _ (λq hq Q hQ=>?_) λl a=>?_⟩
  .
   unfold jK;have qb:=hb q hq;have dq:=den_pos q;have ed:(RE qs:Int).fdiv (q.den:Int)=((RE qs / q.den:Nat):Int):=by rw[Int.fdiv_eq_ediv_of_nonneg _ xL,<- Int.natCast_ediv]
   walk_at "w";rw[ed];have c12:(2:Nat)^1200<2^1201:=Nat.pow_lt_pow_right xp xp;have e2:(((RE qs / q.den:Nat):Int)).natAbs<2^1201:=by rw[Int.natAbs_natCast];exact Uv (Nat.div_le_self _ _) xL
   refine⟨xL,so (show((q.den:Int)).natAbs<2^60 by simpa using qb.2) (Us xp xp),qb.bn xp,aP e2 xp,?_⟩;exact hQ
  . walk_at "w";exact⟨xp,_,aj aM,h⟩
def iI:FS:=λls kz=>∃(R:aS)(f:Nat->Int)(b:Nat)(str:Nat->Rat),ls=[.d (a5 R),.d (.lst (cF R.n f)),.d (.int (b:Int))]/\R.Ok/\(∀t,t<R.n->(f t).natAbs<2^2000)/\0<b/\b<=2^1200/\(∀t,t<R.n->str t=((f t:Int):Rat) / (b:Rat) / R.room t)/\kz (.d (Q2 (B4 R.n str))) ls
def pQ:W Fl:=(aV (bj 5 (av aG (av aG (ak 0) (wC (.int 0))) (ak 4)))
  (aV (bj 6 (mq (ar (br (av a8 (av aG (ak 1) (ak 4)) (av aG (ak 5) (wC (.int 1))))) (ar (br (av a8 (ak 2) (av aG (ak 5) (wC (.int 0))))) aF))))
  (QM (aY (av yt (av a8 (av aG (ak 3) (wC (.int 0))) (av aG (ak 6) (wC (.int 1)))) (av a8 (av aG (ak 6) (wC (.int 0))) (av aG (ak 3) (wC (.int 1)))))) (bj 3 (ak 6)) bM)))
def oT:W Fl:=(aV (bj 3 (mq (ar (wC (.int 0)) (ar (wC (.int 1)) aF))))
  (aV (tw (kg (aX bN (ar (ak 1) aF))) (aQ 4) pQ)
  (bH (aK fF (ar (av aG (ak 3) (wC (.int 0))) (ar (av aG (ak 3) (wC (.int 1))) aF))))))
theorem xY:∀ls kz,ls.length=3->iI ls kz->oT (ls++List.replicate 4 .un) (aW ls kz):=by
 rintro ls kz - ⟨R,f,b,str,rfl,hR,hf,b0,b1,hs,h⟩;have hi:=hR.hi;unfold oT;walk_at "w";refine⟨xp,?_⟩;rw[ie];refine⟨⟨xL,xL⟩,?_⟩;rw[Int.toNat_natCast];refine gM _ (λj Z=>∃(p q:Int)(x4 x5 x6:L),Z=[.d (a5 R),.d (.lst (cF R.n f)),.d (.int (b:Int)),.d (.tup [.int p,.int q]),x4,x5,x6]/\0<q/\p.natAbs<2^2060/\q.natAbs<2^2060/\Rat.divInt p q=B4 j str) _ ⟨0,1,_,_,_,rfl,xp,xp,Nat.one_lt_two_pow xp,by rw[Rat.zero_divInt];rfl⟩ ?_ ?_
 .
  rintro j Z hj ⟨p,q,x4,x5,x6,rfl,q0,pb,qb,et⟩ Q h1 h2 h3 h4;obtain⟨r1,r2⟩:=ib hR hj;have n1:=zp r1;have se:=zq (f:=f j) b0 r1;rw[<- hs j hj]at se;have f1:=hf j hj;have d1:((R.room j).den:Int).natAbs<2^60:=by simpa using r2.2
  have bb:((b:Int)).natAbs<2^1201:=by rw[Int.natAbs_natCast];exact Uv b1 (Nat.pow_lt_pow_right xp xp)
  have m1:(f j*((R.room j).den:Int)).natAbs<2^2060:=by rw[Int.natAbs_mul];exact ba (m:=2000) (n:=60) f1 d1
  have m2:((b:Int)*(R.room j).num).natAbs<2^2060:=by rw[Int.natAbs_mul];exact so (ba (m:=1201) (n:=60) bb r2.1) (Us xp xp)
  have s0:0<(b:Int)*(R.room j).num:=Int.mul_pos xL n1;have ts:=rC j str;rw[<- et,se]at ts;have lt:=BI (a:=p) (c:=f j*((R.room j).den:Int)) q0 s0;unfold pQ;walk_at "w";refine⟨_,DH hj,?_⟩;walk_at "w";refine⟨_,gn hj,?_⟩;walk_at "w";refine⟨aP f1 xp,aP d1 xp,aP bb xp,aP r2.1 xp,xp,aP pb xp,aP m2 xp,aP m1 xp,aP qb xp,?_⟩;by_cases c:p*((b:Int)*(R.room j).num)<f j*((R.room j).den:Int)*q
  . rw[if_pos c];rw[if_pos (lt.mpr c)]at ts;exact h1 _ ⟨_,_,_,_,_,rfl,s0,m1,m2,ts.symm⟩
  . rw[if_neg c];rw[if_neg λz=>c (lt.mp z)]at ts;exact h1 _ ⟨_,_,_,_,_,rfl,q0,pb,qb,ts.symm⟩
 . rintro Z ⟨p,q,x4,x5,x6,rfl,q0,pb,qb,et⟩;walk_at "w";refine⟨p,q,rfl,xL,so qb (Us xp xp),?_⟩;rw[et];exact⟨_,aj (aj (aj aM)),h⟩
def dB:FS:=λls kz=>∃(R:aS)(zs:List Int)(ws:List Bool),ls=[.d (a5 R),.d (.lst (R.asks.map λa=>D.lst ((Rw R.n a.one a.other).map λ(t:Nat)=>D.int (t:Int)))),.d (.lst (zs.map .int)),.d (d9 ws)]/\R.Ok/\zs.length=R.asks.length/\ws.length=R.asks.length/\∀c,kz (.own c (cF R.n (ig R.n R.asks zs ws))) ls
def kR:W Fl:=(QM (aY (av mx (av (CG false) (ak 6) (av aG (ak 1) (ak 5))) (av mx (av aG (ak 3) (ak 5)) (wC (.str "on"))))) (yN 4 (ak 6) (av cn (d8 4 (Bj 4 (ak 6)) (av aG (ak 4) (ak 6))) (av aG (ak 2) (ak 5)))) bM)
def kT:W Fl:=(tw (kg (d8 4 (CD 4) (aX bN (ar (ak 4) aF)))) (aQ 6) kR)
def kU:W L:=(wC (.int 0))
def jM:W Fl:=(aV (bj 4 (cD 1 [] (me (av aG (ak 0) (wC (.int 0)))) (aQ 0) bZ kU))
  (aV (tw (kg (aX bN (ar (ak 3) aF))) (aQ 5) kT)
  (bH (gK 4))))
theorem MT{R:aS}(hR:R.Ok){k t:Nat}(hk:k<R.asks.length)(ht:t<R.n):Qz (.int (t:Int)) ((Rw R.n R.asks[k].one R.asks[k].other).map λ(t:Nat)=>D.int (t:Int))=kx R.n R.asks[k] t:=by
 rw[AM];have:=JR (hR.ask _ (List.getElem_mem hk)) true ht;cases e:kx R.n R.asks[k] t
 . rw[e]at this;refine decide_eq_false λz=>?_;have:=this.mp z;simp at this
 . rw[e]at this;exact decide_eq_true (this.mpr rfl)
theorem tQ:∀ls kz,ls.length=4->dB ls kz->jM (ls++List.replicate 3 .un) (aW ls kz):=by
 rintro ls kz - ⟨R,zs,ws,rfl,hR,hz,hw,h⟩;have few:=hR.few;have hi:=hR.hi;unfold jM;walk_at "w";refine⟨Ur hi xp,bt (enc:=Q2) (h:=λ_=>D.int 0) R.rooms _ _ (λq hq Q hQ=>?_) λl c=>?_⟩
 . unfold kU;exact hQ
 have e0:R.rooms.map (λ_=>D.int 0)=cF R.n (ig R.n (R.asks.take 0) (zs.take 0) (ws.take 0)):=by unfold cF;refine List.ext_getElem (by simp[aS.n]) λj h1 h2=>?_;simp[ig]
 rw[List.nil_append,e0];unfold d9;walk_at "w";refine⟨⟨xL,xL⟩,?_⟩;rw[Int.toNat_natCast];refine gM _ (λk Z=>∃x5 x6,Z=[.d (a5 R),.d (.lst (R.asks.map λa=>D.lst ((Rw R.n a.one a.other).map λ(t:Nat)=>D.int (t:Int)))),.d (.lst (zs.map .int)),.d (.lst (ws.map λw=>D.str (fP w))),.own c (cF R.n (ig R.n (R.asks.take k) (zs.take k) (ws.take k))),x5,x6]) _ ⟨_,_,rfl⟩ ?_ ?_
 .
  rintro k Z hk ⟨x5,x6,rfl⟩ Q h1 h2 h3 h4;have hka:k<R.asks.length:=by omega
  have hkz:k<zs.length:=by omega
  unfold kT;walk_at "w";rw[ie];refine⟨⟨xL,xL⟩,?_⟩;rw[Int.toNat_natCast]
  refine gM _ (λj Z=>∃x6,Z=[.d (a5 R),.d (.lst (R.asks.map λa=>D.lst ((Rw R.n a.one a.other).map λ(t:Nat)=>D.int (t:Int)))),.d (.lst (zs.map .int)),.d (.lst (ws.map λw=>D.str (fP w))),.own c (cF R.n λt=>if t<j then ig R.n (R.asks.take (k+1)) (zs.take (k+1)) (ws.take (k+1)) t else ig R.n (R.asks.take k) (zs.take k) (ws.take k) t),.d (.int (k:Int)),x6]) _ ⟨_,by congr⟩ ?_ ?_
  .
   rintro j Z hj ⟨x6,rfl⟩ Q g1 g2 g3 g4;have su:=DV (n:=R.n) (as:=R.asks) (zs:=zs) (ws:=ws) hka hkz hk j;unfold kR;walk_at "w";refine⟨_,b7 hka,rfl,DF _,_,b7 hk,?_⟩;walk_at "w";rw[MT hR hka hj]
   have PZ:∀v:Int,v=ig R.n (R.asks.take (k+1)) (zs.take (k+1)) (ws.take (k+1)) j->(cF R.n λt=>if t<j then ig R.n (R.asks.take (k+1)) (zs.take (k+1)) (ws.take (k+1)) t else ig R.n (R.asks.take k) (zs.take k) (ws.take k) t).set j (.int v)=cF R.n λt=>if t<j+1 then ig R.n (R.asks.take (k+1)) (zs.take (k+1)) (ws.take (k+1)) t else ig R.n (R.asks.take k) (zs.take k) (ws.take k) t:=λv ev=>by
    rw[GT];refine ou λt _=>?_;by_cases e:t=j
    . subst e;simp[ev]
    .
     by_cases e2:t<j
     . simp[e,e2,show t<j+1 by omega]
     . simp[e,e2,show ¬t<j+1 by omega]
   have same:∀b:Bool,decide (b=true)=b:=λb=>by cases b<;>rfl
   rw[same];by_cases c1:kx R.n R.asks[k] j=ws[k]
   . rw[if_pos c1];rw[if_pos (by rw[c1];exact beq_self_eq_true _)]at su;refine⟨_,gn hj,_,b7 hkz,?_⟩;walk_at "w";refine⟨j,DW hj,?_⟩;rw[if_neg (Nat.lt_irrefl j)];rw[PZ _ su.symm];exact g1 _ ⟨_,rfl⟩
   .
    rw[if_neg c1];rw[if_neg (by simpa using c1),Int.add_zero]at su
    have ei:(cF R.n λt=>if t<j then ig R.n (R.asks.take (k+1)) (zs.take (k+1)) (ws.take (k+1)) t else ig R.n (R.asks.take k) (zs.take k) (ws.take k) t)=cF R.n λt=>if t<j+1 then ig R.n (R.asks.take (k+1)) (zs.take (k+1)) (ws.take (k+1)) t else ig R.n (R.asks.take k) (zs.take k) (ws.take k) t:=ou λt ht=>by
     by_cases e:t=j
     . subst e;simp[su]
     .
      by_cases e2:t<j
      . simp[e2,show t<j+1 by omega]
      . simp[e2,show ¬t<j+1 by omega]
    rw[ei];exact g1 _ ⟨_,rfl⟩
  .
   rintro Z ⟨x6,rfl⟩;walk_at "w"
   have ei:(cF R.n λt=>if t<R.n then ig R.n (R.asks.take (k+1)) (zs.take (k+1)) (ws.take (k+1)) t else ig R.n (R.asks.take k) (zs.take k) (ws.take k) t)=cF R.n (ig R.n (R.asks.take (k+1)) (zs.take (k+1)) (ws.take (k+1))):=ou λt ht=>by rw[if_pos ht]
   rw[ei];exact h1 _ ⟨_,_,rfl⟩
 . rintro Z ⟨x5,x6,rfl⟩;rw[List.take_of_length_le xL,List.take_of_length_le xL,List.take_of_length_le (Uu _)];walk_at "w";exact⟨_,aj (aj (aj (aj aM))),h c⟩
def cg:FS:=λls kz=>∃n:Nat,ls=[.d (.int (n:Int))]/\n<=7/\∀c,kz (.own c ((qa n).map d9)) ls
def gU:W L:=(av cn (ak 0) (ko (ar (wC (.str "on")) aF)))
def gW:W L:=(av cn (ak 0) (ko (ar (wC (.str "back")) aF)))
def gX:W Fl:=(bj 1 (av cn (cD 1 [] (me (ak 1)) (aQ 0) bZ gU) (cD 1 [] (me (ak 1)) (aQ 0) bZ gW)))
def fH:W Fl:=(aV (bj 1 (ko (ar (br (ko aF)) aF)))
  (aV (tw (kg (ak 0)) (aQ 2) gX)
  (bH (gK 1))))
theorem oU:∀ls kz,ls.length=1->cg ls kz->fH (ls++List.replicate 2 .un) (aW ls kz):=by
 rintro ls kz - ⟨n,rfl,hn,h⟩;unfold fH;walk_at "w";refine⟨xp,λc1=>⟨xp,λc2=>⟨⟨xL,xL⟩,?_⟩⟩⟩;rw[Int.toNat_natCast];refine gM _ (λj Z=>∃c x2,Z=[.d (.int (n:Int)),.own c ((qa j).map d9),x2]) _ ⟨_,_,rfl⟩ ?_ ?_
 .
  rintro j Z hj ⟨c,x2,rfl⟩ Q h1 h2 h3 h4;have hp:2^j<=2^6:=Us xp xL;unfold gX;walk_at "w";have sl:(128:Nat)<=sizeLine:=by decide
  rw[ij];have one:∀v,v∈qa j->v.length+1<=sizeLine:=λv hv=>by rw[di.mp hv];omega
  refine⟨xL,bt (h:=λv=>d9 (v++[true])) _ _ _ (λv hv Q hQ=>?_) λl c3=>⟨xL,bt (h:=λv=>d9 (v++[false])) _ _ _ (λv hv Q hQ=>?_) λl c4=>?_⟩⟩
  .
   unfold gU;have e:d9 (v++[true])=.lst ((v.map λw=>D.str (fP w))++[.str "on"]):=by rw[d9,List.map_append]; rfl
   rw[e]at hQ;unfold d9;walk_at "w";exact⟨xp,λ_=>⟨one v hv,λ_=>hQ⟩⟩
  .
   unfold gW;have e:d9 (v++[false])=.lst ((v.map λw=>D.str (fP w))++[.str "back"]):=by rw[d9,List.map_append]; rfl
   rw[e]at hQ;unfold d9;walk_at "w";exact⟨xp,λ_=>⟨one v hv,λ_=>hQ⟩⟩
  rw[List.nil_append,List.nil_append,Up,Up,ij];refine⟨xL,λc5=>h1 _ ⟨c5,.d (.int (j:Int)),?_⟩⟩;rw[qa,List.map_append,List.map_map,List.map_map];rfl
 . rintro Z ⟨c,x2,rfl⟩;walk_at "w";exact⟨_,aj aM,h _⟩
def jN:FS:=λls kz=>∃(a:Addr)(xs:List D)(R:aS),ls=[.own a xs,.d (a5 R),.d (B5 R),.d (xE R)]/\p8 xs/\R.Ok/\(∀a∈R.asks,RB 60 a.size)/\R.asks.length<=7 /\
 ∀(w:mf)(ys:List D),p8 ys->RB 1750 w.top->w.elder.length=R.asks.length->w.most<=9->kz (.d (cG w)) [.own a ys,.d (a5 R),.d (B5 R),.d (xE R)]
def nG:W Fl:=(bH (mq (ar (ak 7) (ar (M4 (ak 9) (av mx (ak 8) (wC (.int 0)))) (ar (ak 10) (ar (ak 11) aF))))))
def nH:W L:=(av aG (ko (ar (wC (.str "on")) (ar (wC (.str "back")) (ar (wC .non) aF)))) (bJ aH 0 1 (ma 1 (ar (wC (.int 3)) aF))))
def nI:W Fl:=(aV (bj 11 (br (bJ aH 0 0 (ma 0 (ar (br (av cn (ak 4) (wC (.int 2)))) aF)))))
  nG)
def iJ:W Fl:=(aV (bj 10 (cD 1 [0] (kg (ak 4)) (aQ 0) bZ nH))
  nI)
def nJ:W Fl:=(aV (QM (aY (av mx (ak 8) (wC (.int 4)))) (bj 7 (br (bJ cm 0 0 (ma 0 (ar (wC (.int 0)) (ar (wC (.int 2)) aF)))))) bM)
  iJ)
def nK:W Fl:=(aV (bj 7 (av aG (ko (ar (ak 6) (ar (ak 6) (ar (av aG (ak 5) (bJ aH 0 0 (ma 0 (ar (br (aX bN (ar (ak 5) aF))) aF)))) (ar (br (aK fF (ar (br (av a8 (av aG (ak 6) (wC (.int 0))) (wC (.int 3)))) (ar (br (av a8 (av aG (ak 6) (wC (.int 1))) (wC (.int 4)))) aF)))) aF))))) (aX CC (ar (ak 8) (ar (wC (.int 3)) aF)))))
  nJ)
def nL:W Fl:=(aV (bj 9 (av mx (bJ aH 0 0 (ma 0 (ar (wC (.int 2)) aF))) (wC (.int 0))))
  nK)
def nM:W Fl:=(QM (aY (av yt (av a8 (av aG (ak 7) (wC (.int 0))) (av aG (ak 6) (wC (.int 1)))) (av a8 (av aG (ak 6) (wC (.int 0))) (av aG (ak 7) (wC (.int 1)))))) (bj 6 (ak 7)) bM)
def nN:W Fl:=(aV (bj 8 (br (bJ aH 0 0 (ma 0 (ar (wC (.int 5)) aF)))))
  nL)
def nO:W Fl:=(aV (tw (me (ak 5)) (aQ 7) nM)
  nN)
def nP:W L:=(aK iI (ar (ak 1) (ar (br (aK dB (ar (ak 1) (ar (ak 2) (ar (av aG (ak 3) (wC (.int 0))) (ar (ak 0) aF)))))) (ar (av aG (ak 3) (wC (.int 1))) aF))))
def nQ:W Fl:=(aV (bj 6 (av aG (ak 5) (wC (.int 0))))
  nO)
def nR:W Fl:=(aV (bj 5 (cD 1 [1,2,3] (me (aK cg (ar (ak 4) aF))) (aQ 0) bZ nP))
  nQ)
def lX:W Fl:=(aV (bj 4 (br (aX bN (ar (av aG (ak 1) (wC (.int 1))) aF))))
  nR)
theorem vZ:∀ls kz,ls.length=4->jN ls kz->lX (ls++List.replicate 8 .un) (aW ls kz):=by
 rintro ls kz - ⟨a,xs,R,rfl,hx,hR,hT,h7,h⟩;obtain⟨b0,b1⟩:=D4 hR hT;have few:=hR.few;unfold lX;walk_at "w";unfold nR;walk_at "w";refine⟨_,rfl,h7,λc1=>?_⟩;walk_at "w";have hp:2^R.asks.length<=2^7:=Us xp h7;refine⟨by rw[ij];exact Ur hp xp,bt (h:=λws=>Q2 (eB R ws)) _ _ _ (λvs hm Q hq=>?_) λl c2=>?_⟩
 . have hv:vs.length=R.asks.length:=di.mp hm;unfold nP xE at *;walk_at "w";refine⟨R,Fe R,vs,rfl,hR,by simp[Fe,RM],hv,λc2=>?_⟩;walk_at "w";refine⟨R,_,_,wq R vs,rfl,hR,λt ht=>so (mR hR hT vs t) (Us xp xp),b0,b1,λt ht=>rD hR hT hv t,?_⟩;rw[HR hR hT hv];exact hq
 walk_at "w";unfold nQ;walk_at "w";have hn:0<(qa R.asks.length).length:=by rw[ij];exact Nat.pow_pos xp
 have h0:((qa R.asks.length)[0]).length=R.asks.length:=di.mp (List.getElem_mem hn);refine⟨_,b7 (k:=0) hn,?_⟩;unfold nO;walk_at "w";refine fT (enc:=λws=>Q2 (eB R ws)) (qa R.asks.length) (λpre Z=>∃(ws:List Bool)(x7:L),ws.length=R.asks.length/\Z=[.own a xs,.d (a5 R),.d (B5 R),.d (xE R),.d (.int (R.asks.length:Int)),.d (.lst ((qa R.asks.length).map λws=>Q2 (eB R ws))),.d (Q2 (eB R ws)),x7,.un,.un,.un,.un]) _ ⟨_,_,h0,rfl⟩ ?_ ?_
 .
  rintro pre vs suf Z hsp ⟨ws,x7,hw,rfl⟩ Q h1 h2 h3 h4;have hv:vs.length=R.asks.length:=di.mp (by rw[hsp];simp);have tb:=oz hR hT hv;have sb:=oz hR hT hw;unfold nM;walk_at "w";refine⟨aP tb.1 xp,aP (by simpa using sb.2) xp,aP sb.1 xp,aP (by simpa using tb.2) xp,?_⟩;split
  . exact h1 _ ⟨vs,_,hv,rfl⟩
  . exact h1 _ ⟨ws,_,hw,rfl⟩
 rintro Z ⟨ws,x7,hw,rfl⟩;have sb:=oz hR hT hw;unfold nN;walk_at "w";refine⟨a,xs,5,rfl,hx,xp,xp,λr1 y1 z1 r10 r11=>⟨y1,rfl,?_⟩⟩;walk_at "w";unfold nL;walk_at "w";refine⟨a,y1,2,rfl,z1,xp,xp,λr2 y2 z2 r20 r21=>⟨y2,rfl,?_⟩⟩;walk_at "w";unfold nK;walk_at "w";have hl:(qa R.asks.length).length<=128:=by rw[ij];exact hp
 refine⟨a,y2,_,rfl,z2,xL,xL,λr3 y3 z3 r30 r31=>⟨y3,rfl,?_⟩⟩;obtain⟨k,rfl⟩:=Int.eq_ofNat_of_zero_le r30;have hk:k<(qa R.asks.length).length:=by omega
 have tk:=oz hR hT (di.mp (List.getElem_mem hk));walk_at "w";have dn:(eB R ws).den≠0:=(eB R ws).den_nz;have e3:((eB R ws).num*3).natAbs<2^1330:=by rw[Int.natAbs_mul];exact so (Nat.mul_lt_mul_of_lt_of_le sb.1 (show(3:Int).natAbs<=2^5 by decide) xp) (by rw[<- Nat.pow_add];exact Uu _)
 have e4:(((eB R ws).den:Int)*4).natAbs<2^1330:=by rw[Int.natAbs_mul,Int.natAbs_natCast];exact so (Nat.mul_lt_mul_of_lt_of_le sb.2 (show(4:Int).natAbs<=2^5 by decide) xp) (by rw[<- Nat.pow_add];exact Uu _)
 refine⟨_,b7 hk,aP sb.1 xp,bz xp,aP (by simpa using sb.2) xp,bz xp,_,_,rfl,xL,so e4 (Us xp xp),?_⟩;have lb:RB 1330 (Rat.divInt ((eB R ws).num*3) (((eB R ws).den:Int)*4)):=RB.of_divInt xL e3 e4;walk_at "w"
 obtain⟨q,eq,hq⟩:∃q:Rat,Qp [Q2 (eB R ws),Q2 (eB R ws),Q2 (eB R (qa R.asks.length)[k]),Q2 (Rat.divInt ((eB R ws).num*3) (((eB R ws).den:Int)*4))] (if(3:Int)<r1 then 3 else r1)=some (Q2 q)/\RB 1750 q:=by
  have:r1=0∨r1=1∨r1=2∨r1=3∨r1=4:=by omega
  rcases this with rfl|rfl|rfl|rfl|rfl
  . exact⟨_,rfl,sb.mono xp⟩
  . exact⟨_,rfl,sb.mono xp⟩
  . exact⟨_,rfl,tk.mono xp⟩
  . exact⟨_,rfl,lb.mono xp⟩
  . exact⟨_,rfl,lb.mono xp⟩
 refine⟨xp,λ_=>⟨_,eq,?_⟩⟩
 have dF:∀(q:Rat)(yy:List D),RB 1750 q->p8 yy->iJ [.own a yy,.d (a5 R),.d (B5 R),.d (xE R),.d (.int (R.asks.length:Int)),.d (.lst ((qa R.asks.length).map λws=>Q2 (eB R ws))),.d (Q2 (eB R ws)),.d (Q2 q),.d (.int r1),.d (.bl (decide (r2=0))),.un,.un] (aW [.own a xs,.d (a5 R),.d (B5 R),.d (xE R)] kz):=by
  intro q yy hq hy;unfold iJ;walk_at "w";rw[Int.toNat_natCast,hX];refine⟨⟨xL,xL⟩,by rw[Up,List.length_range];exact Ur h7 xp,?_⟩;refine va _ (λj Z acc=>∃(l:L)(ys:List D)(el:List (Option Bool)),Z=[l,.own a ys]/\p8 ys/\el.length=j/\acc=el.map kA) _ _ ⟨_,yy,[],rfl,hy,rfl,rfl⟩ ?_ ?_
  .
   rintro j x Z acc hj ⟨l,ys,el,rfl,hy,he,rfl⟩ Q hQ;unfold nH;walk_at "w";simp only[bZ,if_true];walk_at "w";refine⟨xp,λ_=>⟨a,ys,3,rfl,hy,xp,xp,λr zs hz r0 r1=>⟨zs,rfl,?_⟩⟩⟩;walk_at "w";have hr:r=0∨r=1∨r=2:=by omega
   rcases hr with rfl|rfl|rfl
   . exact⟨_,xh,hQ _ _ ⟨_,zs,el++[some true],rfl,hz,by simp[he],by rw[List.map_append];rfl⟩⟩
   . exact⟨_,xi,hQ _ _ ⟨_,zs,el++[some false],rfl,hz,by simp[he],by rw[List.map_append];rfl⟩⟩
   . exact⟨_,JB,hQ _ _ ⟨_,zs,el++[none],rfl,hz,by simp[he],by rw[List.map_append];rfl⟩⟩
  rintro Z acc ⟨l,ys,el,rfl,hys,he,rfl⟩;rw[Up,List.length_range]at he;intro c3;walk_at "w";unfold nI;walk_at "w";refine⟨a,ys,_,rfl,hys,xL,xL,λr5 y5 z5 r50 r51=>⟨y5,rfl,?_⟩⟩;obtain⟨mo,rfl⟩:=Int.eq_ofNat_of_zero_le r50;walk_at "w";unfold nG;walk_at "w";split
  . exact⟨xp,_,fR tv (aj (aj (aj aM))),h ⟨q,true,el,mo⟩ y5 z5 hq he (by show mo<=9;omega)⟩
  . exact⟨xp,_,fR tv (aj (aj (aj aM))),h ⟨q,decide (r1=0),el,mo⟩ y5 z5 hq he (by show mo<=9;omega)⟩
 unfold nJ;walk_at "w";split
 . refine⟨a,y3,0,2,rfl,z3,xp,xp,xp,xp,λq2 y4 z4 q20 _ q21=>⟨y4,rfl,?_⟩⟩;walk_at "w";exact dF _ _ (q21.mono xp) z4
 . exact dF _ _ hq z3
def iK:FS:=λls kz=>∃(R:aS),ls=[.d (a5 R),.d (B5 R),.d (xE R)]/\R.Ok/\(∀a∈R.asks,RB 60 a.size)/\R.asks.length<=7/\∀ws:List Bool,ws.length=R.asks.length->(∀vs:List Bool,vs.length=R.asks.length->eB R ws<=eB R vs)->kz (.d (Q2 (eB R ws))) ls
def kW:W Fl:=(aV (bj 5 (br (aK iI (ar (ak 0) (ar (br (aK dB (ar (ak 0) (ar (ak 1) (ar (av aG (ak 2) (wC (.int 0))) (ar (ak 4) aF)))))) (ar (av aG (ak 2) (wC (.int 1))) aF))))))
  (QM (QJ (aY (av Bl (ak 3) (wC .non))) (aY (av yt (av a8 (av aG (ak 5) (wC (.int 0))) (av aG (ak 3) (wC (.int 1)))) (av a8 (av aG (ak 3) (wC (.int 0))) (av aG (ak 5) (wC (.int 1))))))) (bj 3 (ak 5)) bM))
def jO:W Fl:=(aV (bj 3 (wC .non))
  (aV (tw (me (aK cg (ar (br (aX bN (ar (av aG (ak 0) (wC (.int 1))) aF))) aF))) (aQ 4) kW)
  (bH (gK 3))))
theorem tR:∀ls kz,ls.length=3->iK ls kz->jO (ls++List.replicate 3 .un) (aW ls kz):=by
 rintro ls kz - ⟨R,rfl,hR,hT,h6,h⟩;obtain⟨b0,b1⟩:=D4 hR hT;unfold jO;walk_at "w";refine⟨_,rfl,h6,λc1=>?_⟩;walk_at "w";refine fT (enc:=d9) (qa R.asks.length) (λpre Z=>∃(x3 x4 x5:L),Z=[.d (a5 R),.d (B5 R),.d (xE R),x3,x4,x5]/\((pre=[]/\x3=.d .non)∨∃ws:List Bool,ws.length=R.asks.length/\x3=.d (Q2 (eB R ws))/\∀vs∈pre,eB R ws<=eB R vs)) _ ⟨_,_,_,rfl,.inl ⟨rfl,rfl⟩⟩ ?_ ?_
 .
  rintro pre vs suf Z hsp ⟨x3,x4,x5,rfl,hx⟩ Q h1 h2 h3 h4;have hv:vs.length=R.asks.length:=di.mp (by rw[hsp];simp);unfold kW xE;walk_at "w";refine⟨R,Fe R,vs,rfl,hR,by simp[Fe,RM],hv,λc2=>?_⟩;walk_at "w";refine⟨R,_,_,wq R vs,rfl,hR,λt ht=>so (mR hR hT vs t) (Us xp xp),b0,b1,λt ht=>rD hR hT hv t,?_⟩;rw[HR hR hT hv];walk_at "w";have tb:=oz hR hT hv;rcases hx with⟨rfl,rfl⟩|⟨ws,hw,rfl,hm⟩
  . walk_at "w";exact h1 _ ⟨_,_,_,rfl,.inr ⟨vs,hv,rfl,λus hu=>by simp at hu;subst hu;exact Rat.le_refl⟩⟩
  .
   have sb:=oz hR hT hw;walk_at "w";rw[if_neg (by simp[Q2])];refine⟨aP tb.1 xp,aP (by simpa using sb.2) xp,aP sb.1 xp,aP (by simpa using tb.2) xp,?_⟩;by_cases c:eB R vs<eB R ws
   .
    rw[if_pos ((Rat.lt_iff _ _).mp c)];refine h1 _ ⟨_,_,_,rfl,.inr ⟨vs,hv,rfl,λus hu=>?_⟩⟩;rcases List.mem_append.mp hu with hu|hu
    . have:=hm us hu;grind
    . simp at hu;subst hu;exact Rat.le_refl
   .
    rw[if_neg λz=>c ((Rat.lt_iff _ _).mpr z)];refine h1 _ ⟨_,_,_,rfl,.inr ⟨ws,hw,rfl,λus hu=>?_⟩⟩;rcases List.mem_append.mp hu with hu|hu
    . exact hm us hu
    . simp at hu;subst hu;grind
 .
  rintro Z ⟨x3,x4,x5,rfl,hx⟩;rcases hx with⟨e,-⟩|⟨ws,hw,rfl,hm⟩
  . have:=congrArg List.length e;rw[ij]at this;have p:0<2^R.asks.length:=Nat.pow_pos xp;simp at this
  . walk_at "w";exact⟨_,aj (aj (aj aM)),h ws hw λvs hv=>hm vs (di.mpr hv)⟩
def cM(n:Nat):FS:=λls kz=>∃d:D,ls=[.d d]/\RH n d/\Ff d=true/\∀l,Cp l d->kz l ls
theorem xZ(ls:List L)(kz:L->List L->Prop):¬cM 0 ls kz:=by rintro⟨d,_,h,_⟩;exact absurd h.dep (Nat.not_lt_zero _)
abbrev jP:FS:=cM 9
def nT(self:FS):W L:=(aK self (ar (ak 0) aF))
def nU(self:FS):W L:=(aK self (ar (ak 0) aF))
def lY(self:FS):W Fl:=(aV (QM (aY (QL (n9 "list") (ak 0))) (bH (cD 1 [] (me (ak 0)) (aQ 0) bZ (nU self))) bM)
  (aV (QM (aY (QL (n9 "tuple") (ak 0))) (bH (Di (AD 1 [] (me (ak 0)) (aQ 0) bZ (nT self)))) bM)
  (bH (gK 0))))
theorem v3:∀n ls kz,ls.length=1->cM (n+1) ls kz->lY (cM n) (ls++List.replicate 0 .un) (aW ls kz):=by
 rintro n ls kz - ⟨d,rfl,hd,hc,h⟩;unfold lY
 cases d with
 | lst xs =>
  obtain⟨hs,hx⟩:=hd.lst;have hn:gH xs=true:=by simpa only[Ff]using hc
  walk_at "w";refine⟨hs,DO xs _ _ (λx hm Q hq=>?_) λl a=>?_⟩
  . unfold nU;walk_at "w";exact⟨x,rfl,hx x hm,Eb x (xG hn hm),λl c=>AY c hq⟩
  . walk_at "w";exact⟨_,aj aM,h _ (.lst hn)⟩
 | tup xs =>
  obtain⟨hs,hx⟩:=hd.tup;have hn:vv xs=true:=by simpa only[Ff]using hc
  walk_at "w";refine⟨hs,AZ xs _ _ (λx hm Q hq=>?_) λl ls cs a=>?_⟩
  . unfold nT;walk_at "w";exact⟨x,rfl,hx x hm,xF hn hm,hq⟩
  . rw[List.nil_append];walk_at "w";exact⟨_,aj aM,h _ (.tup cs)⟩
 | _ =>
  walk_at "w";exact⟨_,aj aM,h _ (.d rfl)⟩
def eO:FS:=λls kz=>∃(R:aS)(f:Nat->Int)(b:Nat)(w:mf)(str:Nat->Rat),ls=[.d (a5 R),.d (.lst (cF R.n f)),.d (.int (b:Int)),.d (Q2 w.top),.d (.bl w.strict)]/\R.Ok/\(∀t,t<R.n->(f t).natAbs<2^2000)/\0<b/\b<=2^1200/\RB 2000 w.top/\(∀t,t<R.n->str t=((f t:Int):Rat) / (b:Rat) / R.room t)/\kz (.d (NZ (mN (λt=>mP w (str t)) R.n))) ls
def gY:W Fl:=(aV (bj 6 (av aG (av aG (ak 0) (wC (.int 0))) (ak 5)))
  (aV (bj 7 (br (av a8 (av a8 (av aG (ak 1) (ak 5)) (av aG (ak 6) (wC (.int 1)))) (av aG (ak 3) (wC (.int 1))))))
  (aV (bj 8 (br (av a8 (av a8 (av aG (ak 3) (wC (.int 0))) (av aG (ak 6) (wC (.int 0)))) (ak 2))))
  (QM (QJ (aY (av EX (ak 7) (ak 8))) (KB (aY (ak 4)) (aY (av mx (ak 7) (ak 8))))) (bH (gK 5)) bM))))
def fJ:W Fl:=(aV (tw (kg (aX bN (ar (ak 1) aF))) (aQ 5) gY)
  (bH (wC .non)))
theorem Ey{w:mf}{f:Int}{b:Nat}{r:Rat}(hb:0<b)(hr:0<r):eG w.strict (f*(r.den:Int)*(w.top.den:Int)) (w.top.num*r.num*(b:Int))=mP w ((f:Rat) / (b:Rat) / r):=by
 have hn:0<r.num:=by have h1:=Rat.num_nonneg.mpr (Rat.le_of_lt hr);have h2:=xk (q:=r) (by grind);omega
 have e:(f:Rat) / (b:Rat) / r=Rat.divInt (f*(r.den:Int)) ((b:Int)*r.num):=by
  rw[Rat.divInt_eq_div,Rat.intCast_mul,Rat.intCast_mul,xl r];have h1:((b:Nat):Rat)≠0:=λz=>by have:=Rat.natCast_pos.mpr hb;grind
  have h2:((r.den:Nat):Rat)≠0:=λz=>by have:=Rat.natCast_pos.mpr r.den_pos;grind
  have e1:(((r.den:Nat):Int):Rat)=((r.den:Nat):Rat):=rfl;have e2:(((b:Nat):Int):Rat)=((b:Nat):Rat):=rfl;rw[e1,e2];have h3:r≠0:=by grind
  grind
 have hB:0<(b:Int)*r.num:=Int.mul_pos xL hn;have eb:w.top.num*r.num*(b:Int)=w.top.num*((b:Int)*r.num):=by rw[Int.mul_assoc,Int.mul_comm r.num]
 rw[eb,e];generalize (b:Int)*r.num=B at hB;generalize f*(r.den:Int)=A
 have i1:A*(w.top.den:Int)=w.top.num*B↔Rat.divInt A B=w.top:=by
  conv=>rhs;rhs;rw[<- Rat.num_divInt_den w.top]
  rw[Rat.divInt_eq_divInt_iff xL (lh _)]
 have i2:Rat.divInt A B<w.top↔A*(w.top.den:Int)<w.top.num*B:=mO hB
 have i3:w.top<Rat.divInt A B↔w.top.num*B<A*(w.top.den:Int):=by
  constructor
  .
   intro h;have n1:¬Rat.divInt A B<w.top:=by grind
   have n2:Rat.divInt A B≠w.top:=by grind
   rw[i2]at n1;have n3:A*(w.top.den:Int)≠w.top.num*B:=λz=>n2 (i1.mp z);omega
  .
   intro h;have n1:¬Rat.divInt A B<w.top:=λz=>by have:=i2.mp z;omega
   have n2:Rat.divInt A B≠w.top:=λz=>by have:=i1.mpr z;omega
   grind
 unfold eG mP;rw[decide_eq_decide.mpr i1,decide_eq_decide.mpr i3]
theorem oV:∀ls kz,ls.length=5->eO ls kz->fJ (ls++List.replicate 4 .un) (aW ls kz):=by
 rintro ls kz - ⟨R,f,b,w,str,rfl,hR,hf,b0,b1,hq,hs,h⟩;have hi:=hR.hi;unfold fJ;walk_at "w";rw[ie];refine⟨⟨xL,xL⟩,?_⟩;rw[Int.toNat_natCast];refine gM _ (λj Z=>∃x5 x6 x7 x8,Z=[.d (a5 R),.d (.lst (cF R.n f)),.d (.int (b:Int)),.d (Q2 w.top),.d (.bl w.strict),x5,x6,x7,x8]/\∀t,t<j->mP w (str t)=false) _ ⟨_,_,_,_,rfl,λt ht=>by omega⟩ ?_ ?_
 .
  rintro j Z hj ⟨x5,x6,x7,x8,rfl,hpre⟩ Q h1 h2 h3 h4;obtain⟨r1,r2⟩:=ib hR hj;have se:=Ey (w:=w) (f:=f j) b0 r1;rw[<- hs j hj]at se;unfold eG at se;unfold gY;walk_at "w";refine⟨_,DH hj,?_⟩;walk_at "w";refine⟨_,gn hj,?_⟩;walk_at "w";have f1:=hf j hj;have d1:((R.room j).den:Int).natAbs<2^60:=by simpa using r2.2
  have t1:(w.top.den:Int).natAbs<2^2000:=by simpa using hq.2
  have m1:(f j*((R.room j).den:Int)).natAbs<2^2060:=by rw[Int.natAbs_mul];exact ba f1 d1
  have m2:(w.top.num*(R.room j).num).natAbs<2^2060:=by rw[Int.natAbs_mul];exact ba hq.1 r2.1
  have bb:((b:Int)).natAbs<2^1201:=by rw[Int.natAbs_natCast];exact Uv b1 (Nat.pow_lt_pow_right xp xp)
  refine⟨aP f1 xp,aP d1 xp,aP m1 xp,aP t1 xp,aP hq.1 xp,aP r2.1 xp,aP m2 xp,aP bb xp,?_⟩
  have yes:mP w (str j)=true->∀Z,Q (.rt (.d (.int (j:Int)))) (.d (a5 R)::.d (.lst (cF R.n f))::.d (.int (b:Int))::.d (Q2 w.top)::.d (.bl w.strict)::Z):=λhy Z=>h4 _ _ (by
   have e:=GH (P:=λt=>mP w (str t)) hj hy λi hi=>hpre i hi;rw[e]at h
   exact⟨_,aj (aj (aj (aj (aj aM)))),h⟩)
  have no:mP w (str j)=false->∀x5 x6 x7 x8,Q .nx [.d (a5 R),.d (.lst (cF R.n f)),.d (.int (b:Int)),.d (Q2 w.top),.d (.bl w.strict),x5,x6,x7,x8]:=λhn x5 x6 x7 x8=>h1 _ ⟨_,_,_,_,rfl,λt ht=>by
   rcases Nat.lt_or_ge t j with g|g
   . exact hpre t g
   .
    have:t=j:=by omega
    subst this
    exact hn⟩
  by_cases c1:w.top.num*(R.room j).num*(b:Int)<f j*((R.room j).den:Int)*(w.top.den:Int)
  . rw[if_pos c1];rw[decide_eq_true c1,Bool.true_or]at se;exact yes se.symm _
  .
   rw[if_neg c1];rw[decide_eq_false c1,Bool.false_or]at se;cases es:w.strict
   . rw[es]at se yes no;simp only[Bool.false_eq_true,if_false];exact no se.symm _ _ _ _
   .
    rw[es,Bool.true_and]at se;rw[es]at yes no;simp only[if_true];by_cases c2:f j*((R.room j).den:Int)*(w.top.den:Int)=w.top.num*(R.room j).num*(b:Int)
    . rw[if_pos c2];rw[decide_eq_true c2]at se;exact yes se.symm _
    . rw[if_neg c2];rw[decide_eq_false c2]at se;exact no se.symm _ _ _ _
 . rintro Z ⟨x5,x6,x7,x8,rfl,hpre⟩;have e:mN (λt=>mP w (str t)) R.n=none:=BD.mpr hpre;rw[e]at h;walk_at "w";exact⟨_,aj (aj (aj (aj (aj aM)))),h⟩
def gE:FS:=λls kz=>∃(el:List (Option Bool))(ws:List Bool),ls=[.d (RI el),.d (d9 ws)]/\el.length=ws.length/\ws.length<=20/\∀a,kz (.own a ((ff el (ws.map some)).map λ(k:Nat)=>D.int (k:Int))) ls
def jQ:W L:=(ak 0)
def iL:W Fl:=(bH (cD 1 [0,1] (kg (aX bN (ar (ak 1) aF))) (aQ 0) (KB (aY (av (CG false) (av aG (ak 1) (ak 0)) (mq (ar (wC (.str "on")) (ar (wC (.str "back")) aF))))) (aY (av yu (av aG (ak 1) (ak 0)) (av aG (ak 2) (ak 0))))) jQ))
theorem n5{el:List (Option Bool)}{ws:List Bool}(hl:el.length=ws.length):((List.range ws.length).filterMap λk=>if cw (el.getD k none,(ws.map some).getD k none)=true then some (D.int (k:Int))else none)=(ff el (ws.map some)).map λ(k:Nat)=>D.int (k:Int):=by
 have ez:(el.zip (ws.map some)).zipIdx=(List.range ws.length).map λk=>((el.getD k none,(ws.map some).getD k none),k):=by
  refine List.ext_getElem (by simp[hl]) λj h1 h2=>?_;have hj:j<ws.length:=by simpa using h2
  have hje:j<el.length:=by omega
  simp[hj,hje]
 unfold ff;rw[ez];generalize List.range ws.length=l
 induction l with
 |nil=>rfl
 | cons x l ih =>
  rw[List.filterMap_cons,List.map_cons,List.filter_cons];cases e:cw (el.getD x none,(ws.map some).getD x none)
  . simpa[e]using ih
  . simpa[e]using ih
theorem sH:∀ls kz,ls.length=2->gE ls kz->iL (ls++List.replicate 0 .un) (aW ls kz):=by
 rintro ls kz - ⟨el,ws,rfl,hl,hw,h⟩;unfold iL RI d9;walk_at "w";refine⟨⟨xL,xL⟩,?_⟩;rw[Int.toNat_natCast,hX];refine⟨by rw[Up,List.length_range];exact Ur hw xp,?_⟩
 refine jb (h:=λk=>if cw (el.getD k none,(ws.map some).getD k none)=true then some (D.int (k:Int))else none) (List.range ws.length) _ _ (λk hk Q hQ=>?_) λl=>?_
 .
  have hk:=List.mem_range.mp hk;have hke:k<el.length:=by omega
  unfold jQ;walk_at "w";have e1:el.getD k none=el[k]:=by rw[tu,gV hke];rfl
  have e2:(ws.map some).getD k none=some ws[k]:=by rw[tu,List.getElem?_map,gV hk];rfl
  rw[e1,e2]at hQ;refine⟨_,b7 hke,xp,?_,rfl,?_⟩
  . cases el[k]<;>rfl
  have sh:=uo el[k]
  cases eo:el[k]with
  | none =>
   rw[eo]at hQ;have e3:Qz (kA none) [D.str (Str.ofString "on"),D.str (Str.ofString "back")]=false:=rfl;rw[e3];simpa[cw]using hQ
  | some b =>
   rw[eo]at hQ sh;have e3:Qz (kA (some b)) [D.str (Str.ofString "on"),D.str (Str.ofString "back")]=true:=by cases b <;> decide
   rw[e3];simp only[if_true];refine⟨_,by rw[b7 hke,eo],_,b7 hk,sh,rh _,?_⟩;rw[DT];have e4:cw (some b,some ws[k])=!(some b == some ws[k]):=by cases b<;>cases ws[k]<;>rfl
   rw[e4]at hQ;cases e5:(some b == some ws[k])
   . rw[e5]at hQ;simpa using hQ
   . rw[e5]at hQ;simpa using hQ
 . intro a;rw[List.nil_append,n5 hl];exact⟨_,aj (aj aM),h a⟩
def gi:FS:=λls kz=>∃(R:aS)(w:mf)(ws:List Bool),ls=[.d (a5 R),.d (B5 R),.d (xE R),.d (cG w),.d (d9 ws)]/\R.Ok/\(∀a∈R.asks,RB 60 a.size)/\RB 2000 w.top/\w.elder.length=R.asks.length/\ws.length=R.asks.length/\∀bb:Bool,(bb=true↔gN R w ws)->kz (.d (.bl bb)) ls
def lZ:W Fl:=(aV (bj 5 (br (aK dB (ar (ak 0) (ar (ak 1) (ar (av aG (ak 2) (wC (.int 0))) (ar (ak 4) aF)))))))
  (aV (QM (aY (av ub (aK eO (ar (ak 0) (ar (ak 5) (ar (av aG (ak 2) (wC (.int 1))) (ar (av aG (ak 3) (wC (.int 0))) (ar (av aG (ak 3) (wC (.int 1))) aF)))))) (wC .non))) (bH (wC (.bl false))) bM)
  (bH (av FH (aX bN (ar (br (aK gE (ar (av aG (ak 3) (wC (.int 2))) (ar (ak 4) aF)))) aF)) (av aG (ak 3) (wC (.int 3)))))))
theorem v5:∀ls kz,ls.length=5->gi ls kz->lZ (ls++List.replicate 1 .un) (aW ls kz):=by
 rintro ls kz - ⟨R,w,ws,rfl,hR,hT,hw,he,hv,h⟩;obtain⟨b0,b1⟩:=D4 hR hT;have few:=hR.few;unfold lZ xE cG;walk_at "w";refine⟨R,Fe R,ws,rfl,hR,by simp[Fe,RM],hv,λc2=>?_⟩;walk_at "w";refine⟨R,_,_,w,wq R ws,rfl,hR,λt ht=>so (mR hR hT ws t) (Us xp xp),b0,b1,hw,λt ht=>rD hR hT hv t,?_⟩;walk_at "w";unfold xE cG at h
 cases e:mN (λt=>mP w (wq R ws t)) R.n with
 | some t =>
  unfold mN at e;have ht:t<R.n:=List.mem_range.mp (List.mem_of_find?_eq_some e);have hm:=List.find?_some e;simp only[NZ,if_true]
  exact⟨_,aj (aj (aj (aj (aj aM)))),h false ⟨(λz=>by cases z),λk=>by
   have:=k.1 t ht;rw[show bD R (iZ R.asks ws) t=wq R ws t from rfl]at this;rw[this]at hm
   cases hm⟩⟩
 | none =>
  unfold mN at e;simp only[NZ,Bool.false_eq_true,if_false];refine⟨w.elder,ws,rfl,by rw[he,hv],xL,λa=>?_⟩;walk_at "w";refine⟨_,aj (aj (aj (aj (aj aM)))),h _ ?_⟩;rw[decide_eq_true_eq];constructor
  . intro hl;refine⟨λt ht=>?_,xL⟩;have:=List.find?_eq_none.mp e t (List.mem_range.mpr ht);rw[show bD R (iZ R.asks ws) t=wq R ws t from rfl];simpa using this
  . intro k;have:=k.2;omega
def jR:FS:=λls kz=>∃(R:aS)(w:mf)(T:Tr),ls=[.d (a5 R),.d (cG w),.d (RK T)]/\R.Ok/\RB 1750 w.top/\T.Ok R w (List.replicate R.asks.length none)/\T.size<=300/\kz (.d (.bl true)) ls
def l4:W Fl:=(aV (n8 (aK fw (ar (ak 0) (ar (ak 1) (ar (ak 2) aF)))))
  (bH (wC (.bl true))))
theorem v7:∀ls kz,ls.length=3->jR ls kz->l4 (ls++List.replicate 0 .un) (aW ls kz):=by rintro ls kz - ⟨R,w,T,rfl,hR,hq,ht,hs,h⟩;unfold l4;walk_at "w";refine⟨R,w,T,rfl,hR,hq,ht,hs,?_⟩;exact⟨_,aj (aj (aj aM)),h⟩
def eP:FS:=λls kz=>∃(ws:List Bool)(n:Nat),ls=[.d (.lst (ws.map λw=>D.str (fP w))),.d (.int (n:Int))]/\ws.length=n/\n<=99/\kz (.d (.bl true)) ls
def gZ:W L:=(kZ (QL (n9 "str") (ak 0)) (av (CG false) (ak 0) (mq (ar (wC (.str "on")) (ar (wC (.str "back")) aF)))))
def fK:W Fl:=(aV (QM (QJ (FD (aY (QL (n9 "list") (ak 0)))) (aY (av yu (aX bN (ar (ak 0) aF)) (ak 1)))) (bH (wC (.bl false))) bM)
  (bH (aX LS (ar (br (cD 1 [] (me (ak 0)) (aQ 0) bZ gZ)) aF))))
theorem oW:∀ls kz,ls.length=2->eP ls kz->fK (ls++List.replicate 0 .un) (aW ls kz):=by
 rintro ls kz - ⟨ws,n,rfl,hl,hn,h⟩;unfold fK;walk_at "w";rw[if_neg (by omega)];refine⟨AS xL,bt (enc:=λw=>D.str (fP w)) (h:=λ_=>D.bl true) ws _ _ (λw hw Q hQ=>?_) λl c=>?_⟩
 . unfold gZ;walk_at "w";rw[Ka,G2];exact⟨xp,rfl,rfl,hQ⟩
 rw[List.nil_append];refine⟨ws.map λ_=>true,by rw[List.map_map];rfl,?_⟩;walk_at "w";rw[show(ws.map λ_=>true).all id=true by simp];exact⟨_,aj (aj aM),h⟩
def gj:FS:=λls kz=>∃(R:aS)(w:mf)(fd:D)(kp:Bool),ls=[.d (a5 R),.d (B5 R),.d (xE R),.d (cG w),.d fd,.d (.bl kp)]/\R.Ok/\(∀a∈R.asks,RB 60 a.size)/\RB 1750 w.top/\w.elder.length=R.asks.length /\
 ((kp=true/\∃ ws:List Bool,fd=.tup [.str "ways",d9 ws]/\ws.length=R.asks.length/\gN R w ws)∨(kp=false/\∃ T:Tr,fd=.tup [.str "none",RK T]/\T.Ok R w (List.replicate R.asks.length none)/\T.size<=300))/\kz (.d (.bl true)) ls
def l5:W Fl:=(aV (QM (QJ (FD (aY (QL (n9 "tuple") (ak 4)))) (QJ (aY (av yu (aX bN (ar (ak 4) aF)) (wC (.int 2)))) (aY (av yu (av aG (ak 4) (wC (.int 0))) (av aG (ko (ar (wC (.str "none")) (ar (wC (.str "ways")) aF))) (aX uS (ar (ak 5) aF))))))) (bH (wC (.bl false))) bM)
  (aV (QM (FD (aY (ak 5))) (bH (aK jR (ar (ak 0) (ar (ak 3) (ar (av aG (ak 4) (wC (.int 1))) aF))))) bM)
  (bH (kZ (aK eP (ar (av aG (ak 4) (wC (.int 1))) (ar (br (aX bN (ar (av aG (ak 0) (wC (.int 1))) aF))) aF))) (aK gi (ar (ak 0) (ar (ak 1) (ar (ak 2) (ar (ak 3) (ar (av aG (ak 4) (wC (.int 1))) aF))))))))))
theorem v8:∀ls kz,ls.length=6->gj ls kz->l5 (ls++List.replicate 0 .un) (aW ls kz):=by
 rintro ls kz - ⟨R,w,fd,kp,rfl,hR,hT,hw,he,hc,h⟩;have few:=hR.few;unfold l5;rcases hc with⟨rfl,ws,rfl,hv,hk⟩|⟨rfl,T,rfl,ht,hs⟩
 . unfold d9 at h ⊢;have s1:df (D.str "ways"):=bR (n:=1) y_ xp;walk_at "w";rw[if_neg (λz=>z rfl)];refine⟨xp,λ_=>⟨s1,s1,?_⟩⟩;rw[if_neg (λz=>z trivial)];refine⟨ws,_,rfl,hv,xL,?_⟩;walk_at "w";refine⟨R,w,ws,rfl,hR,hT,hw.mono xp,he,hv,λbb e=>?_⟩;rw[e.mpr hk];exact⟨_,aj (aj (aj (aj (aj (aj aM))))),h⟩
 . have s1:df (D.str "none"):=bR (n:=1) y_ xp;walk_at "w";rw[if_neg (λz=>z rfl)];refine⟨xp,λ_=>⟨s1,s1,?_⟩⟩;rw[if_neg (λz=>z trivial)];refine⟨R,w,T,rfl,hR,hw,ht,hs,?_⟩;exact⟨_,aj (aj (aj (aj (aj (aj aM))))),h⟩
def fs_law:FS:=λls kz=>∃ns:List Int,ls=[.d (.lst (ns.map .int))]/\ns.length<=63/\kz (.d (.bl true)) ls
theorem Ez{ns:List Int}(hl:ns.length<=63):fs_law [.d (.lst (ns.map .int))] (λr _=>r=.d (.bl true)):=⟨ns,rfl,hl,rfl⟩
def oX:W Fl:=(QM (aY (ak 8)) (aV (n8 (C5 10 (wC (.int 1)) (wC (.str "on"))))
  (aV (QM (aY (av yu (ak 9) (ko (ar (ak 3) (ar (ak 7) aF))))) (bH (wC (.bl false))) bM)
  (QM (FD (aY (aK gj (ar (ak 3) (ar (ak 4) (ar (ak 5) (ar (ak 7) (ar (br (aK fC (ar (ak 3) (ar (ak 7) aF)))) (ar (ak 8) aF))))))))) (bH (wC (.bl false))) bM))) bM)
def oY:W Fl:=(aV (QM (QJ (FD (aY (u5 10 (aK gj (ar (ak 3) (ar (ak 4) (ar (ak 5) (ar (ak 7) (ar (ak 10) (ar (ak 8) aF)))))))))) (aY (av yu (ak 9) (ko (ar (ak 3) (ar (ak 7) aF)))))) (bH (wC (.bl false))) bM)
  oX)
def uB:W Fl:=(aV (bj 10 (aK fC (ar (av aG (ak 9) (wC (.int 0))) (ar (av aG (ak 9) (wC (.int 1))) aF))))
  oY)
def EC:W L:=(aK gi (ar (ak 1) (ar (ak 2) (ar (ak 3) (ar (ak 4) (ar (ak 0) aF))))))
def uC:W Fl:=(aV (bj 9 (br (ko (ar (br (aK jP (ar (ak 3) aF))) (ar (br (aK jP (ar (ak 7) aF))) aF)))))
  uB)
def uD:W Fl:=(aV (bj 8 (br (aX LU (ar (br (cD 1 [3,4,5,7] (me (aK cg (ar (br (aX bN (ar (av aG (ak 3) (wC (.int 1))) aF))) aF))) (aQ 0) bZ EC)) aF))))
  uC)
def ED:W Fl:=(aV (bj 7 (br (aK jN (ar (aK cb (ar (ak 0) (ar (ak 6) aF))) (ar (ak 3) (ar (ak 4) (ar (ak 5) aF)))))))
  uD)
def EE:W Fl:=(bH (wC (.bl true)))
def zX:W Fl:=(aV (tw (FG (wC (.int 3)) (av aG (ko (ar (br (aX FJ (ar (wC (.int 4)) (ar (br (aX CC (ar (br (aX bN (ar (ak 0) aF))) (ar (wC (.int 7)) aF)))) aF)))) (ar (wC (.int 4)) aF))) (aX uS (ar (ak 2) aF)))) (aQ 6) ED)
  EE)
def EF:W L:=(av aG (ak 0) (wC (.int 3)))
def EG:W Fl:=(aV (QM (KB (aY (ak 2)) (aY (av mx (bJ aH 0 1 (ma 1 (ar (wC (.int 2)) aF))) (wC (.int 0))))) (bH (av mx (av aG (aK jC (ar (ak 3) aF)) (wC (.int 0))) (aK iK (ar (ak 3) (ar (ak 4) (ar (ak 5) aF)))))) bM)
  zX)
def EH:W Fl:=(aV (bj 5 (br (aK gD (ar (br (cD 1 [] (me (av aG (ak 3) (wC (.int 1)))) (aQ 0) bZ EF)) aF))))
  EG)
def EJ:W Fl:=(aV (bj 4 (br (aK oS (ar (ak 3) aF))))
  EH)
def EK:W Fl:=(aV (bj 3 (br (aK jJ (ar (ak 0) (ar (wC (.int 0)) (ar (av aG (ko (ar (wC (.int 6)) (ar (wC (.int 12)) aF))) (aX uS (ar (ak 2) aF))) (ar (av aG (ko (ar (wC (.int 6)) (ar (wC (.int 7)) aF))) (aX uS (ar (ak 2) aF))) aF)))))))
  EJ)
def EM:W Fl:=(aV (bj 2 (av mx (bJ aH 0 1 (ma 1 (ar (wC (.int 4)) aF))) (wC (.int 0))))
  EK)
def Kp:W Fl:=(aV (bj 1 (aK cb (ar (ak 0) (ar (wC (.int 7)) aF))))
  EM)
theorem MU(el:List (Option Bool)):Q3 1 (RI el)=true:=by
 unfold RI;refine mJ (n:=0) (f:=kA) el λo _=>?_
 cases o with
 |none=>rfl
 |some w=>cases w<;>decide +kernel
theorem Kq(el:List (Option Bool)):sW (RI el)<=1:=vk λx hx=>by obtain⟨o,_,rfl⟩:=List.mem_map.mp hx;cases o<;>simp[kA,sW]
theorem Kr{el:List (Option Bool)}(h:el.length<=99):sX (RI el)<=99:=by
 unfold RI;simp only[sX,Up];have:=qC (n:=0) (xs:=el.map kA) λx hx=>by obtain⟨o,_,rfl⟩:=List.mem_map.mp hx;cases o<;>simp[kA,sX]
 omega
theorem Ks{w:mf}(h:w.elder.length<=99):RH 5 (cG w):=by
 have h1:=Kq w.elder;have h2:=Kr h;have h3:=zk w.top;have h4:=zh w.top;constructor
 . simp only[cG,sW,q8];omega
 . simp only[cG,sX,rn,List.length_cons,List.length_nil];omega
theorem Hh(w:mf):Q3 2 (cG w)=true:=by have:=MU w.elder;have h2:=Dk 0 w.top;simp only[cG,Q3,qv,Bool.and_true,Bool.and_eq_true];exact⟨h2,trivial,this⟩
theorem Oo(el:List (Option Bool)):gH (el.map kA)=true:=by
 induction el with
 |nil=>rfl
 | cons o el ih =>
  rw[List.map_cons]
  cases o with
  |none=>simpa[gH,noL,kA]using ih
  |some w=>simpa[gH,noL,kA]using ih
theorem Kt(w:mf):Ff (cG w)=true:=by have:=Oo w.elder;simp only[cG,RI,Q2,Ff,vv,this,noL,gH,Bool.and_self]
theorem Ku:∀ls kz,ls.length=1->fs_law ls kz->Kp (ls++List.replicate 10 .un) (aW ls kz):=by
 rintro ls kz - ⟨ns,rfl,hl,h⟩;unfold Kp;walk_at "w";refine⟨ns,7,rfl,xp,xp,λb xs hx=>?_⟩;walk_at "w";unfold EM;walk_at "w";refine⟨b,xs,4,rfl,hx,xp,xp,λr y1 z1 r0 r1=>⟨y1,rfl,?_⟩⟩;walk_at "w";unfold EK;walk_at "w"
 obtain⟨m,cnt,e1,e2,hm2,hm12,hc⟩:∃(m c:Nat),Qp [D.int 6,D.int 12] (if r=0 then 1 else 0)=some (.int (m:Int))/\Qp [D.int 6,D.int 7] (if r=0 then 1 else 0)=some (.int (c:Int))/\2<=m/\m<=12/\c<=7:=by
  split
  . exact⟨12,7,rfl,rfl,xp,xp,xp⟩
  . exact⟨6,6,rfl,rfl,xp,xp,xp⟩
 refine⟨xp,λ_=>⟨_,e1,xp,λ_=>⟨_,e2,ns,0,m,cnt,rfl,xp,hm2,hm12,xL,λR hD=>?_⟩⟩⟩;have hR:=hD.ok;have few:=hD.few;have h7:R.asks.length<=7:=by omega
 have hT:=hD.tt;have hT1:RN R:=λa ha=>(hD.tt a ha).mono xp;walk_at "w";unfold EJ;walk_at "w";refine⟨R,rfl,hR,λc1=>?_⟩;walk_at "w";unfold EH;walk_at "w";refine⟨Ur h7 xp,bt (enc:=j2) (h:=λa=>Q2 a.size) R.asks _ _ (λa ha Q hQ=>?_) λl c2=>?_⟩
 . unfold EF;walk_at "w";exact hQ
 rw[List.nil_append];walk_at "w";refine⟨RM R,by rw[RM,List.map_map];rfl,by rw[RM,Up];omega,λq hq=>?_,?_⟩
 . obtain⟨a,ha,rfl⟩:=List.mem_map.mp hq;exact hD.tt a ha
 have ew:D.tup [.lst ((RM R).map λq=>D.int (eF (RE (RM R)) q)),.int (RE (RM R):Int)]=xE R:=by unfold xE Fe;rw[List.map_map (f:=eF _)];rfl
 rw[ew];walk_at "w";unfold EG;walk_at "w";rw[show D.lst (R.asks.map λa=>D.lst ((Rw R.n a.one a.other).map λ(t:Nat)=>D.int (t:Int)))=B5 R from rfl]
 have dF:∀yy:List D,p8 yy->zX [.d (.lst (ns.map .int)),.own b yy,.d (.bl (decide (r=0))),.d (a5 R),.d (B5 R),.d (xE R),.un,.un,.un,.un,.un] (aW [.d (.lst (ns.map .int))] kz):=by
  intro yy hyy;have fb:=hyy.noL;unfold zX;walk_at "w"
  obtain⟨N,en,n4,n7⟩:∃N:Int,Qp [D.int (if(if(7:Int)<(ns.length:Int)then 7 else(ns.length:Int)) > 4 then if(7:Int)<(ns.length:Int)then 7 else(ns.length:Int)else 4),D.int 4] (if r=0 then 1 else 0)=some (.int N)/\4<=N/\N<=7:=by
   by_cases c:r=0
   . rw[if_pos c];exact⟨_,rfl,xp,xp⟩
   .
    rw[if_neg c]
    refine⟨_,rfl,?_,?_⟩<;>split<;>(try split)<;>omega
  refine⟨xp,λ_=>⟨_,en,⟨xL,xL⟩,⟨xL,xL⟩,?_⟩⟩;refine AE 3 _ (λj Z=>∃x6 x7 x8 x9 x10,(ki x6=true/\ki x7=true/\ki x8=true/\ki x9=true)/\Z=[.d (.lst (ns.map .int)),.own b yy,.d (.bl (decide (r=0))),.d (a5 R),.d (B5 R),.d (xE R),x6,x7,x8,x9,x10]) _ ⟨_,_,_,_,_,⟨rfl,rfl,rfl,rfl⟩,rfl⟩ ?_ ?_
  .
   rintro j Z hj ⟨x6,x7,x8,x9,x10,⟨f6,f7,f8,f9⟩,rfl⟩ Q h1 h2 h3 h4;have hj':j<7:=by omega
   unfold ED;walk_at "w";refine⟨ns,3+(j:Int),rfl,xL,xL,λb5 us hu=>?_⟩;refine⟨b5,us,R,rfl,hu,hR,hT,h7,λw ys hys hw he hmo=>?_⟩;walk_at "w";unfold uD;walk_at "w";refine⟨_,rfl,h7,λc6=>?_⟩;walk_at "w";obtain⟨kb,kbI⟩:∃kb:List Bool->Bool,∀ws,kb ws=true↔gN R w ws:=⟨λws=>@decide _ (Classical.propDecidable (gN R w ws)),λws=>@decide_eq_true_iff _ (Classical.propDecidable _)⟩;have hp:2^R.asks.length<=2^7:=Us xp h7;refine⟨by rw[ij];exact Ur hp xp,bt (h:=λws=>D.bl (kb ws)) _ _ _ (λvs hm Q hq=>?_) λl c7=>?_⟩
   . unfold EC;walk_at "w";refine⟨R,w,vs,rfl,hR,hT,hw.mono xp,he,di.mp hm,λbb e=>?_⟩;rw[show bb=kb vs from Bool.eq_iff_iff.mpr (e.trans (kbI vs).symm)];exact hq
   rw[List.nil_append];walk_at "w";refine⟨(qa R.asks.length).map kb,by rw[List.map_map];rfl,?_⟩
   have kpI:((qa R.asks.length).map kb).any id=true↔∃ws:List Bool,ws.length=R.asks.length/\gN R w ws:=by
    rw[List.any_eq_true];constructor
    . rintro⟨x,hx,e⟩;obtain⟨ws,hm,rfl⟩:=List.mem_map.mp hx;exact⟨ws,di.mp hm,(kbI ws).mp e⟩
    . rintro⟨ws,hl,hk⟩;exact⟨kb ws,List.mem_map.mpr ⟨ws,di.mpr hl,rfl⟩,(kbI ws).mpr hk⟩
   generalize ((qa R.asks.length).map kb).any id=kp at *;walk_at "w";unfold uC;walk_at "w";refine⟨a5 R,rfl,(RH.ring (by have:=hR.hi;omega) xL).mono xp,by simp only[a5,Ff,vv,vc,DS,Bool.and_self],λl1 cl1=>AY cl1 ?_⟩;walk_at "w";refine⟨cG w,rfl,(Ks xL).mono xp,Kt w,λl2 cl2=>AY cl2 ?_⟩;refine⟨xp,λ_=>?_⟩;walk_at "w";unfold uB;walk_at "w";have okh:Q3 5 (.lst [a5 R,cG w])=true:=by simp only[Q3,qv,Bool.and_true,Bool.and_eq_true];exact⟨Gh hR,Mw (Hh w) xp⟩
   refine⟨R,w,rfl,hR,hw,h7,λws hws hk b8=>?_,λT hT1 hT2 hno=>?_⟩
   .
    walk_at "w";unfold oY;walk_at "w";have ek:kp=true:=kpI.mpr ⟨ws,hws,hk⟩;subst ek;refine⟨fb,R,w,_,true,rfl,hR,hT,hw,he,.inl ⟨rfl,ws,rfl,hws,hk⟩,rfl,?_⟩;walk_at "w";refine⟨xp,λ_=>⟨bR okh xp,bR okh xp,?_⟩⟩;rw[if_neg (by rw[u4 okh];decide)];unfold oX;walk_at "w";refine⟨⟨1,rfl,_,_,rfl,trivial⟩,1,rfl,_,_,rfl,?_,xp,λ_=>⟨bR okh xp,bR okh xp,?_⟩⟩
    . rw[Up];exact so (by omega:ws.length<99) (AS (Uu _))
    rw[if_neg (by rw[u4 okh];decide)];refine⟨R,w,rfl,hR,hw,h7,λvs hvs hk2 b9=>?_,λT t1 t2 hno=>absurd hk (hno ws hws)⟩;walk_at "w";refine⟨R,w,_,true,rfl,hR,hT,hw,he,.inl ⟨rfl,vs,rfl,hvs,hk2⟩,?_⟩;walk_at "w";exact h1 _ ⟨_,_,_,_,_,⟨rfl,rfl,rfl,rfl⟩,rfl⟩
   .
    walk_at "w";unfold oY;walk_at "w"
    have ek:kp=false:=by
     cases hkp:kp
     . rfl
     . obtain⟨ws,a1,a2⟩:=kpI.mp hkp;exact absurd a2 (hno ws a1)
    subst ek;refine⟨fb,R,w,_,false,rfl,hR,hT,hw,he,.inr ⟨rfl,T,rfl,hT1,xL⟩,rfl,?_⟩;walk_at "w";refine⟨xp,λ_=>⟨bR okh xp,bR okh xp,?_⟩⟩;rw[if_neg (by rw[u4 okh];decide)];unfold oX;walk_at "w";exact h1 _ ⟨_,_,_,_,_,⟨rfl,rfl,rfl,rfl⟩,rfl⟩
  . rintro Z ⟨x6,x7,x8,x9,x10,-,rfl⟩;unfold EE;walk_at "w";exact⟨_,aj aM,h⟩
 split
 .
  refine⟨b,y1,2,rfl,z1,xp,xp,λr2 y2 z2 r20 r21=>⟨y2,rfl,?_⟩⟩;walk_at "w";split
  .
   refine⟨R,rfl,hR,hT1,h7,λws T hb _ _ a1=>?_⟩;walk_at "w";refine⟨R,rfl,hR,hT,h7,λvs hv hm=>?_⟩;walk_at "w";have e:eB R ws=eB R vs:=by have:=hb.2 vs hv;have:=hm ws hb.1;grind
   rw[e,decide_eq_true rfl];exact⟨_,aj aM,h⟩
  . exact dF _ z2
 . exact dF _ z1
structure Tx (K:PySem.W.Frag) (mg:Str->Option Value) (ad:Nat->Addr) (fd:Nat->FuncData):Prop where
 x_greatest_shared:FX K mg "greatest_shared" dO (ad 0) (fd 0) ["one","other"]
 x_least_common:FX K mg "least_common" gp (ad 1) (fd 1) ["one","other"]
 x_is_whole:FX K mg "is_whole" oB (ad 2) (fd 2) ["thing"]
 x_is_number_below:FX K mg "is_number_below" dP (ad 3) (fd 3) ["thing","many"]
 x_are_two_wholes:FX K mg "are_two_wholes" eI (ad 4) (fd 4) ["thing"]
 x_is_told_as:FX K mg "is_told_as" jf (ad 5) (fd 5) ["thing","word","length"]
 x_lowest:FX K mg "lowest" vw (ad 6) (fd 6) ["top","bottom"]
 x_plus:FX K mg "plus" Eg (ad 7) (fd 7) ["one","other"]
 x_minus:FX K mg "minus" zt (ad 8) (fd 8) ["one","other"]
 x_times:FX K mg "times" zu (ad 9) (fd 9) ["one","other"]
 x_over:FX K mg "over" Eh (ad 10) (fd 10) ["one","other"]
 x_under:FX K mg "under" zw (ad 11) (fd 11) ["one","other"]
 x_sum_of:FX K mg "sum_of" vx (ad 12) (fd 12) ["some"]
 x_is_cut:FX K mg "is_cut" vz (ad 13) (fd 13) ["ring","thing"]
 x_is_within:FX K mg "is_within" lj (ad 14) (fd 14) ["cut","place"]
 x_parts_places:FX K mg "parts_places" gq (ad 15) (fd 15) ["cut","one","other"]
 x_all_cuts:FX K mg "all_cuts" j7 (ad 16) (fd 16) ["ring"]
 x_common_bottom:FX K mg "common_bottom" fg (ad 17) (fd 17) ["some"]
 x_in_units:FX K mg "in_units" j8 (ad 18) (fd 18) ["some","units"]
 x_weighed:FX K mg "weighed" jg (ad 19) (fd 19) ["ring","top"]
 x_other_way:FX K mg "other_way" lp (ad 20) (fd 20) ["way"]
 x_is_over:FX K mg "is_over" rJ (ad 21) (fd 21) ["ring","k","way","tie"]
 x_sent_over:FX K mg "sent_over" lq (ad 22) (fd 22) ["ring","sending","k","tie"]
 x_load_of:FX K mg "load_of" mT (ad 23) (fd 23) ["ring","sending","tie"]
 x_loads_of:FX K mg "loads_of" j9 (ad 24) (fd 24) ["ring","sending"]
 x_strains_of:FX K mg "strains_of" fW (ad 25) (fd 25) ["ring","sending"]
 x_top_of:FX K mg "top_of" vA (ad 26) (fd 26) ["ring","sending"]
 x_sent_by:FX K mg "sent_by" mU (ad 27) (fd 27) ["ring","ways"]
 x_top_by:FX K mg "top_by" vB (ad 28) (fd 28) ["ring","ways"]
 x_turned_by:FX K mg "turned_by" ik (ad 29) (fd 29) ["elder","ways"]
 x_is_too_much:FX K mg "is_too_much" ip (ad 30) (fd 30) ["wish","load","bound"]
 x_are_too_many:FX K mg "are_too_many" gu (ad 31) (fd 31) ["wish","ways"]
 x_is_split:FX K mg "is_split" oD (ad 32) (fd 32) ["thing"]
 x_times_over:FX K mg "times_over" fX (ad 33) (fd 33) ["ring","k","way","cut"]
 x_is_too_full:FX K mg "is_too_full" eR (ad 34) (fd 34) ["ring","wish","scale","fixed","cut"]
 x_can_stand:FX K mg "can_stand" lr (ad 35) (fd 35) ["ring","wish","scale","fixed","thing"]
 x_branch_of:FX K mg "branch_of" lu (ad 36) (fd 36) ["here","way"]
 x_look_at_tree:FX K mg "look_at_tree" dY (ad 37) (fd 37) ["ring","wish","thing"]
 x_reason_against:FX K mg "reason_against" eK (ad 38) (fd 38) ["wish","bounds","fixed","loads"]
 x_searched:FX K mg "searched" ka (ad 39) (fd 39) ["ring","wish","sizes","bounds","fixed","loads"]
 x_bounds_of:FX K mg "bounds_of" fh (ad 40) (fd 40) ["ring","scale"]
 x_ways_for:FX K mg "ways_for" kc (ad 41) (fd 41) ["ring","wish"]
 x_wish_for_less:FX K mg "wish_for_less" dj (ad 42) (fd 42) ["ring","top"]
 x_best_ways:FX K mg "best_ways" iq (ad 43) (fd 43) ["ring"]
 x__law_begun:FX K mg "_law_begun" ji (ad 44) (fd 44) ["_law_script","_law_k"]
 x__law_take:FX K mg "_law_take" ly (ad 45) (fd 45) ["_law_state","_law_many"]
 x__law_names:FX K mg "_law_names" ee (ad 46) (fd 46) ["_law_state","_law_many"]
 x__law_low:FX K mg "_law_low" oE (ad 47) (fd 47) ["_law_top_here","_law_bottom"]
 x__law_amount:FX K mg "_law_amount" ir (ad 48) (fd 48) ["_law_state","_law_least_here","_law_kind"]
 x__law_rooms:FX K mg "_law_rooms" jk (ad 49) (fd 49) ["_law_state","_law_ties","_law_kind"]
 x__law_ends:FX K mg "_law_ends" lz (ad 50) (fd 50) ["_law_state","_law_shape","_law_places","_law_k"]
 x__law_ring:FX K mg "_law_ring" lA (ad 51) (fd 51) ["_law_script","_law_at","_law_most","_law_count"]
 x__law_on:FX K mg "_law_on" rM (ad 52) (fd 52) ["_law_ring_here"]
 x__law_wholes:FX K mg "_law_wholes" eS (ad 53) (fd 53) ["_law_some"]
 x__law_top:FX K mg "_law_top" oF (ad 54) (fd 54) ["_law_ring_here","_law_loads_here","_law_bottom"]
 x__law_loads:FX K mg "_law_loads" fY (ad 55) (fd 55) ["_law_ring_here","_law_on_here","_law_sizes","_law_ways"]
 x__law_all_ways:FX K mg "_law_all_ways" cH (ad 56) (fd 56) ["_law_many"]
 x__law_wish:FX K mg "_law_wish" fk (ad 57) (fd 57) ["_law_state","_law_ring_here","_law_on_here","_law_wholes_here"]
 x__law_least:FX K mg "_law_least" jm (ad 58) (fd 58) ["_law_ring_here","_law_on_here","_law_wholes_here"]
 x__law_copy:FX K mg "_law_copy" fm (ad 59) (fd 59) ["_law_thing"]
 x__law_strained:FX K mg "_law_strained" fo (ad 60) (fd 60) ["_law_ring_here","_law_loads_here","_law_bottom","_law_top_here","_law_strict"]
 x__law_turned:FX K mg "_law_turned" eT (ad 61) (fd 61) ["_law_elder","_law_ways"]
 x__law_kept:FX K mg "_law_kept" lD (ad 62) (fd 62) ["_law_ring_here","_law_on_here","_law_wholes_here","_law_wish_here","_law_ways"]
 x__law_lets:FX K mg "_law_lets" lE (ad 63) (fd 63) ["_law_ring_here","_law_wish_here","_law_tree"]
 x__law_are_ways:FX K mg "_law_are_ways" dk (ad 64) (fd 64) ["_law_thing","_law_many"]
 x__law_good:FX K mg "_law_good" lF (ad 65) (fd 65) ["_law_ring_here","_law_on_here","_law_wholes_here","_law_wish_here","_law_found","_law_keeps"]
 x_law:FX K mg "law" BP (ad 66) (fd 66) ["_law_script"]
 z_abs:mg "abs"=none
 z_all:mg "all"=none
 z_any:mg "any"=none
 z_bool:mg "bool"=none
 z_enumerate:mg "enumerate"=none
 z_int:mg "int"=none
 z_isinstance:mg "isinstance"=none
 z_len:mg "len"=none
 z_list:mg "list"=none
 z_max:mg "max"=none
 z_min:mg "min"=none
 z_range:mg "range"=none
 z_reversed:mg "reversed"=none
 z_str:mg "str"=none
 z_sum:mg "sum"=none
 z_tuple:mg "tuple"=none
 z_zip:mg "zip"=none
 g_BACK:p7 K mg "BACK" (.str "back")
 g_CUT:p7 K mg "CUT" (.str "cut")
 g_MOST_SEARCHED:p7 K mg "MOST_SEARCHED" (.int 7)
 g_MOST_WALKED:p7 K mg "MOST_WALKED" (.int 300)
 g_NOUGHT:p7 K mg "NOUGHT" (.tup [(.int 0),(.int 1)])
 g_ON:p7 K mg "ON" (.str "on")
 g_SPLIT:p7 K mg "SPLIT" (.str "split")
 g_TURNED:p7 K mg "TURNED" (.str "turned")
section
variable{P:Program}{w:World}{K:PySem.W.Frag}{mg:Str->Option Value}{base:Heap}{ad:Nat->Addr}{fd:Nat->FuncData}
theorem cy:aB oA ["one","other"] (ao dO):=⟨rfl,rfl,rfl,y_,rfl,y_,y_⟩
theorem gk(T:Tx K mg ad fd):FnOk P w K mg base CX0 1 (ad 0) (fd 0) ["one","other"] (spF K 2 cx) :=
 a7 (k:=0) T.x_greatest_shared.f cy dQ (λcdv A outer s H E hr=>(ai (hJ PassesOwn.never (QK (p5 hr.units) (ae 1) ah (aO _)) (ai (az (i:=2) cy.nd rfl v6 (ax de (ae 0) (ae 1)))
  (ai (az (i:=0) cy.nd rfl v6 (ae 1))
  (aq (az (i:=1) cy.nd rfl v6 (ae 2))))))
  (aq (aC (aI CB rfl T.z_abs y_ (af (ae 0) ag))))))
  lH
theorem sI:aB tG ["one","other"] (ao gp):=⟨rfl,rfl,rfl,y_,rfl,y_,y_⟩
theorem sJ(T:Tx K mg ad fd):FnOk P w K mg base CX0 2 (ad 1) (fd 1) ["one","other"] (spF K 2 ft) :=
 a7 (k:=1) T.x_least_common.f sI gv (λcdv A outer s H E hr=>(aq (aC (ax aU (ax i7 (ae 0) (aL (gk T) T.x_greatest_shared hr (af (ae 0) (af (ae 1) ag)))) (ae 1)))))
  qg
theorem zY:aB BL ["thing"] (ao oB):=⟨rfl,rfl,rfl,y_,rfl,y_,y_⟩
theorem l6(T:Tx K mg ad fd):FnOk P w K mg base CX0 1 (ad 2) (fd 2) ["thing"] (spF K 1 fu) :=
 a7 (k:=0) T.x_is_whole.f zY kd (λcdv A outer s H E hr=>(aq (aC (gL (kr Ja rfl T.z_isinstance rfl T.z_int y_ (ae 0)) (iS (Lr (kr FN rfl T.z_isinstance rfl T.z_bool y_ (ae 0))))))))
  xO
theorem nV:aB oC ["thing","many"] (ao dP):=⟨rfl,rfl,rfl,y_,rfl,y_,y_⟩
theorem nW(T:Tx K mg ad fd):FnOk P w K mg base CX0 2 (ad 3) (fd 3) ["thing","many"] (spF K 2 dm) :=
 a7 (k:=1) T.x_is_number_below.f nV dR (λcdv A outer s H E hr=>(aq (aC (gL (aL (l6 T) T.x_is_whole hr (af (ae 0) ag)) (iS (Aw LJ LI ah (ae 0) (ae 1)))))))
  lI
theorem oZ:aB qe ["thing"] (ao eI):=⟨rfl,rfl,rfl,y_,rfl,y_,y_⟩
theorem o3(T:Tx K mg ad fd):FnOk P w K mg base CX0 2 (ad 4) (fd 4) ["thing"] (spF K 1 dS) :=
 a7 (k:=1) T.x_are_two_wholes.f oZ cV (λcdv A outer s H E hr=>(aq (aC (gL (kr mD rfl T.z_isinstance rfl T.z_tuple y_ (ae 0)) (gL (cA (dJ hr.units) (aI bB rfl T.z_len y_ (af (ae 0) ag)) ah (aO _)) (gL (aL (l6 T) T.x_is_whole hr (af (au (ae 0) ah (λ_ _=>rfl)) ag)) (iS (aL (l6 T) T.x_is_whole hr (af (au (ae 0) ah (λ_ _=>rfl)) ag)))))))))
  mY
theorem v9:aB xH ["thing","word","length"] (ao jf):=⟨rfl,rfl,rfl,y_,rfl,y_,y_⟩
theorem iM(T:Tx K mg ad fd):FnOk P w K mg base CX0 1 (ad 5) (fd 5) ["thing","word","length"] (spF K 3 cL) :=
 a7 (k:=0) T.x_is_told_as.f v9 jq (λcdv A outer s H E hr=>(ai (bS (QI.pb (pd (qK (cf (kr mD rfl T.z_isinstance rfl T.z_tuple y_ (ae 0)))) (kY (QK (p5 hr.units) (aI bB rfl T.z_len y_ (af (ae 0) ag)) (ae 2) (aO _))))) (aq (aC qJ)) aT)
  (aq (aC (gL (kr CH rfl T.z_isinstance rfl T.z_str y_ (au (ae 0) ah (λ_ _=>rfl))) (iS (cA (dJ hr.units) (au (ae 0) ah (λ_ _=>rfl)) (ae 1) (aO _))))))))
  tJ
theorem sL:aB G5 ["top","bottom"] (ao vw):=⟨rfl,rfl,rfl,y_,rfl,y_,y_⟩
theorem nX(T:Tx K mg ad fd):FnOk P w K mg base CX0 2 (ad 6) (fd 6) ["top","bottom"] (spF K 2 gO) :=
 a7 (k:=1) T.x_lowest.f sL vE (λcdv A outer s H E hr=>(ai (az (i:=2) sL.nd rfl v6 (ay (aL (gk T) T.x_greatest_shared hr (af (ae 0) (af (ae 1) ag)))))
  (ai (bS (QK tD (ae 1) ah (aO _)) (aq (az (i:=2) sL.nd rfl v6 (Cu (ae 2)))) aT)
  (aq (aC (bT (af (ax i7 (ae 0) (ae 2)) (af (ax i7 (ae 1) (ae 2)) ag))))))))
  BQ
theorem Kv:aB MN ["one","other"] (ao Eg):=⟨rfl,rfl,rfl,y_,rfl,y_,y_⟩
theorem Kw(T:Tx K mg ad fd):FnOk P w K mg base CX0 3 (ad 7) (fd 7) ["one","other"] (spF K 2 zK) :=
 a7 (k:=2) T.x_plus.f Kv El (λcdv A outer s H E hr=>(aq (aC (aL (nX T) T.x_lowest hr (af (ay (ax bA (ax aU (au (ae 0) ah (λ_ _=>rfl)) (au (ae 1) ah (λ_ _=>rfl))) (ax aU (au (ae 1) ah (λ_ _=>rfl)) (au (ae 0) ah (λ_ _=>rfl))))) (af (ay (ax aU (au (ae 0) ah (λ_ _=>rfl)) (au (ae 1) ah (λ_ _=>rfl)))) ag))))))
  Ha
theorem Hi:aB Ke ["one","other"] (ao zt):=⟨rfl,rfl,rfl,y_,rfl,y_,y_⟩
theorem Hj(T:Tx K mg ad fd):FnOk P w K mg base CX0 3 (ad 8) (fd 8) ["one","other"] (spF K 2 qD) :=
 a7 (k:=2) T.x_minus.f Hi zL (λcdv A outer s H E hr=>(aq (aC (aL (nX T) T.x_lowest hr (af (ax iT (ax aU (au (ae 0) ah (λ_ _=>rfl)) (au (ae 1) ah (λ_ _=>rfl))) (ax aU (au (ae 1) ah (λ_ _=>rfl)) (au (ae 0) ah (λ_ _=>rfl)))) (af (ay (ax aU (au (ae 0) ah (λ_ _=>rfl)) (au (ae 1) ah (λ_ _=>rfl)))) ag))))))
  Em
theorem Hl:aB Kg ["one","other"] (ao zu):=⟨rfl,rfl,rfl,y_,rfl,y_,y_⟩
theorem Hm(T:Tx K mg ad fd):FnOk P w K mg base CX0 3 (ad 9) (fd 9) ["one","other"] (spF K 2 vF) :=
 a7 (k:=2) T.x_times.f Hl zM (λcdv A outer s H E hr=>(aq (aC (aL (nX T) T.x_lowest hr (af (ay (ax aU (au (ae 0) ah (λ_ _=>rfl)) (au (ae 1) ah (λ_ _=>rfl)))) (af (ay (ax aU (au (ae 0) ah (λ_ _=>rfl)) (au (ae 1) ah (λ_ _=>rfl)))) ag))))))
  Eo
theorem Kx:aB MO ["one","other"] (ao Eh):=⟨rfl,rfl,rfl,y_,rfl,y_,y_⟩
theorem Ky(T:Tx K mg ad fd):FnOk P w K mg base CX0 3 (ad 10) (fd 10) ["one","other"] (spF K 2 zN) :=
 a7 (k:=2) T.x_over.f Kx Ep (λcdv A outer s H E hr=>(ai (bS (QK (dJ hr.units) (au (ae 1) ah (λ_ _=>rfl)) ah (aO _)) (aq uR) aT)
  (aq (aC (aL (nX T) T.x_lowest hr (af (ay (ax aU (au (ae 0) ah (λ_ _=>rfl)) (au (ae 1) ah (λ_ _=>rfl)))) (af (ay (ax aU (au (ae 0) ah (λ_ _=>rfl)) (au (ae 1) ah (λ_ _=>rfl)))) ag)))))))
  Hb
theorem Hn:aB Kh ["one","other"] (ao zw):=⟨rfl,rfl,rfl,y_,rfl,y_,y_⟩
theorem Ho(T:Tx K mg ad fd):FnOk P w K mg base CX0 1 (ad 11) (fd 11) ["one","other"] (spF K 2 vG) :=
 a7 (k:=0) T.x_under.f Hn zP (λcdv A outer s H E hr=>(aq (aC (cA tD (ax aU (au (ae 0) ah (λ_ _=>rfl)) (au (ae 1) ah (λ_ _=>rfl))) (ax aU (au (ae 1) ah (λ_ _=>rfl)) (au (ae 0) ah (λ_ _=>rfl))) (aO _)))))
  Er
theorem nY:aB G6 ["some"] (ao vx):=⟨rfl,rfl,rfl,y_,rfl,y_,y_⟩
theorem EN(T:Tx K mg ad fd):FnOk P w K mg base CX0 4 (ad 12) (fd 12) ["some"] (spF K 1 rO) :=
 a7 (k:=3) T.x_sum_of.f nY vH (λcdv A outer s H E hr=>(ai (az (i:=1) nY.nd rfl v6 (sU T.g_NOUGHT rfl))
  (ai (dc PassesOwn.never rfl (bo (ae 0)) (cY (i:=2) nY.nd rfl v6) (aq (az (i:=1) nY.nd rfl v6 (aL (Kw T) T.x_plus hr (af (ae 1) (af (ae 2) ag))))))
  (aq (aC (cB 1))))))
  BR
theorem EO:aB G7 ["ring","thing"] (ao vz):=⟨rfl,rfl,rfl,y_,rfl,y_,y_⟩
theorem ER(T:Tx K mg ad fd):FnOk P w K mg base CX0 3 (ad 13) (fd 13) ["ring","thing"] (spF K 2 rQ) :=
 a7 (k:=2) T.x_is_cut.f EO vJ (λcdv A outer s H E hr=>(aq (aC (gL (aL (o3 T) T.x_are_two_wholes hr (af (ae 1) ag)) (iS (C1 ah (w7.cons IQ (au (ae 1) ah (λ_ _=>rfl)) (w7.cons IQ (au (ae 1) ah (λ_ _=>rfl)) (w7.one tD (aI bB rfl T.z_len y_ (af (au (ae 0) ah (λ_ _=>rfl)) ag)))))))))))
  BS
theorem ya:aB zx ["cut","place"] (ao lj):=⟨rfl,rfl,rfl,y_,rfl,y_,y_⟩
theorem pR(T:Tx K mg ad fd):FnOk P w K mg base CX0 1 (ad 14) (fd 14) ["cut","place"] (spF K 2 fZ) :=
 a7 (k:=0) T.x_is_within.f ya lJ (λcdv A outer s H E hr=>(aq (aC (Aw LI LJ (au (ae 0) ah (λ_ _=>rfl)) (ae 1) (au (ae 0) ah (λ_ _=>rfl))))))
  vK
theorem sM:aB tH ["cut","one","other"] (ao gq):=⟨rfl,rfl,rfl,y_,rfl,y_,y_⟩
theorem jS(T:Tx K mg ad fd):FnOk P w K mg base CX0 2 (ad 15) (fd 15) ["cut","one","other"] (spF K 3 dz) :=
 a7 (k:=1) T.x_parts_places.f sM gw (λcdv A outer s H E hr=>(aq (aC (cA (p5 hr.units) (aL (pR T) T.x_is_within hr (af (ae 0) (af (ae 1) ag))) (aL (pR T) T.x_is_within hr (af (ae 0) (af (ae 2) ag))) (aO _)))))
  qh
theorem l7:aB uu ["ring"] (ao j7):=⟨rfl,rfl,rfl,y_,rfl,y_,y_⟩
theorem z0(T:Tx K mg ad fd):FnOk P w K mg base CX0 1 (ad 16) (fd 16) ["ring"] (spF K 1 lK) :=
 a7 (k:=0) T.x_all_cuts.f l7 oG (λcdv A outer s H E hr=>(ai (az (i:=1) l7.nd rfl v6 (bI ag))
  (ai (dc PassesOwn.never rfl (cq rfl T.z_range (aI bB rfl T.z_len y_ (af (au (ae 0) ah (λ_ _=>rfl)) ag))) (cY (i:=2) l7.nd rfl v6) (aq (eX (CT 1 (bC (sc:=(ao j7)) (N:=uu) (Nt:=["h"]) (Nf:=["g"]) (fi:=[2]) rfl rfl rfl (Am rfl T.z_range (ae 2) (aI bB rfl T.z_len y_ (af (au (ae 0) ah (λ_ _=>rfl)) ag))) rfl y_ y_ y_ xp rfl y_ xp (λ_ _ _ _=>(bu xp (show((["h"]:List Str)++(["g"]:List Str)).Nodup by decide +kernel) rfl (Or.inl rfl))) (λ_ _ _ _=>bg) (λ_ _ _ _=>(bT (af (ae 1) (af (ae 0) ag)))))))))
  (aq (aC (cB 1))))))
  xP
theorem cW:aB rG ["some"] (ao fg):=⟨rfl,rfl,rfl,y_,rfl,y_,y_⟩
theorem ql(T:Tx K mg ad fd):FnOk P w K mg base CX0 3 (ad 17) (fd 17) ["some"] (spF K 1 eL) :=
 a7 (k:=2) T.x_common_bottom.f cW fv (λcdv A outer s H E hr=>(ai (az (i:=1) cW.nd rfl v6 ah)
  (ai (dc PassesOwn.never rfl (bo (ae 0)) (cY (i:=2) cW.nd rfl v6) (aq (az (i:=1) cW.nd rfl v6 (aL (sJ T) T.x_least_common hr (af (ae 1) (af (au (ae 2) ah (λ_ _=>rfl)) ag))))))
  (aq (aC (cB 1))))))
  oH
theorem z6:aB uv ["some","units"] (ao j8):=⟨rfl,rfl,rfl,y_,rfl,y_,y_⟩
theorem sN(T:Tx K mg ad fd):FnOk P w K mg base CX0 1 (ad 18) (fd 18) ["some","units"] (spF K 2 iu) :=
 a7 (k:=0) T.x_in_units.f z6 oI (λcdv A outer s H E hr=>(aq (aC (bC (sc:=(ao j8)) (N:=uv) (Nt:=["one"]) (Nf:=["units"]) (fi:=[1]) rfl rfl rfl (bo (ae 0)) rfl y_ y_ y_ xp rfl y_ xp (λ_ _ _ _=>(bu xp (show((["one"]:List Str)++(["units"]:List Str)).Nodup by decide +kernel) rfl (Or.inl rfl))) (λ_ _ _ _=>bg) (λ_ _ _ _=>(ax aU (au (ae 0) ah (λ_ _=>rfl)) (ax i7 (ae 1) (au (ae 0) ah (λ_ _=>rfl)))))))))
  xQ
theorem kf:aB rH ["ring","top"] (ao jg):=⟨rfl,rfl,rfl,y_,rfl,y_,y_⟩
theorem uE(T:Tx K mg ad fd):FnOk P w K mg base CX0 4 (ad 19) (fd 19) ["ring","top"] (spF K 2 ke) :=
 a7 (k:=3) T.x_weighed.f kf rT (λcdv A outer s H E hr=>(ai (k9 kf.nd (j:=2) rfl v6 (sc:=(ao jg)) (N:=rH) (Nt:=["ask"]) (Nf:=[]) (fi:=[]) rfl rfl rfl (bo (au (ae 0) ah (λ_ _=>rfl))) rfl y_ y_ y_ xp rfl y_ xp (λ_ _ _ _=>(bu xp (show((["ask"]:List Str)++([]:List Str)).Nodup by decide +kernel) rfl (Or.inl rfl))) (λ_ _ _ _=>bg) (λ_ _ _ _=>(au (ae 0) ah (λ_ _=>rfl))))
  (ai (k9 kf.nd (j:=3) rfl v6 (sc:=(ao jg)) (N:=rH) (Nt:=["room"]) (Nf:=["top"]) (fi:=[1]) rfl rfl rfl (bo (au (ae 0) ah (λ_ _=>rfl))) rfl y_ y_ y_ xp rfl y_ xp (λ_ _ _ _=>(bu xp (show((["room"]:List Str)++(["top"]:List Str)).Nodup by decide +kernel) rfl (Or.inl rfl))) (λ_ _ _ _=>bg) (λ_ _ _ _=>(aL (Hm T) T.x_times hr (af (ae 1) (af (ae 0) ag)))))
  (ai (az (i:=4) kf.nd rfl v6 (ay (ax aU ah (aL (ql T) T.x_common_bottom hr (af (ay (ax bA (ae 2) (ae 3))) ag)))))
  (aq (aC (bT (af (ae 4) (af (ay (aL (sN T) T.x_in_units hr (af (ae 2) (af (ae 4) ag)))) (af (ay (aL (sN T) T.x_in_units hr (af (ae 3) (af (ae 4) ag)))) ag))))))))))
  zQ
theorem yb:aB zy ["way"] (ao lp):=⟨rfl,rfl,rfl,y_,rfl,y_,y_⟩
theorem yc(T:Tx K mg ad fd):FnOk P w K mg base CX0 1 (ad 20) (fd 20) ["way"] (spF K 1 jr) :=
 a7 (k:=0) T.x_other_way.f yb lL (λcdv A outer s H E hr=>(aq (aC (t7 (QK (dJ hr.units) (ae 0) (sU T.g_ON rfl) (aO _)) (sU T.g_BACK rfl) (sU T.g_ON rfl)))))
  vL
theorem g6:aB Ei ["ring","k","way","tie"] (ao rJ):=⟨rfl,rfl,rfl,y_,rfl,y_,y_⟩
theorem o4(T:Tx K mg ad fd):FnOk P w K mg base CX0 1 (ad 21) (fd 21) ["ring","k","way","tie"] (spF K 4 gS) :=
 a7 (k:=0) T.x_is_over.f g6 rZ (λcdv A outer s H E hr=>(ai (az (i:=4) g6.nd rfl v6 (ay (aI bB rfl T.z_len y_ (af (au (ae 0) ah (λ_ _=>rfl)) ag))))
  (ai (az (i:=5) g6.nd rfl v6 (au (au (au (ae 0) ah (λ_ _=>rfl)) (ae 1) (λ_ _=>rfl)) ah (λ_ _=>rfl)))
  (ai (az (i:=6) g6.nd rfl v6 (au (au (au (ae 0) ah (λ_ _=>rfl)) (ae 1) (λ_ _=>rfl)) ah (λ_ _=>rfl)))
  (ai (az (i:=7) g6.nd rfl v6 (cA tD (ax de (ax iT (ae 3) (ae 5)) (ae 4)) (ax de (ax iT (ae 6) (ae 5)) (ae 4)) (aO _)))
  (aq (aC (cA (dJ hr.units) (ae 7) (cA (dJ hr.units) (ae 2) (sU T.g_ON rfl) (aO _)) (aO _)))))))))
  zR
theorem yd:aB zz ["ring","sending","k","tie"] (ao lq):=⟨rfl,rfl,rfl,y_,rfl,y_,y_⟩
theorem ye(T:Tx K mg ad fd):FnOk P w K mg base CX0 4 (ad 22) (fd 22) ["ring","sending","k","tie"] (spF K 4 jt) :=
 a7 (k:=3) T.x_sent_over.f yd lM (λcdv A outer s H E hr=>(ai (bS (cf (aL (o4 T) T.x_is_over hr (af (ae 0) (af (ae 2) (af (sU T.g_ON rfl) (af (ae 3) ag)))))) (aq (aC (au (ae 1) (ae 2) (λ_ _=>rfl)))) aT)
  (aq (aC (aL (Hj T) T.x_minus hr (af (au (au (au (ae 0) ah (λ_ _=>rfl)) (ae 2) (λ_ _=>rfl)) ah (λ_ _=>rfl)) (af (au (ae 1) (ae 2) (λ_ _=>rfl)) ag)))))))
  vM
theorem BX:aB xI ["ring","sending","tie"] (ao mT):=⟨rfl,rfl,rfl,y_,rfl,y_,y_⟩
theorem BY(T:Tx K mg ad fd):FnOk P w K mg base CX0 5 (ad 23) (fd 23) ["ring","sending","tie"] (spF K 3 oJ) :=
 a7 (k:=4) T.x_load_of.f BX r9 (λcdv A outer s H E hr=>(aq (aC (aL (EN T) T.x_sum_of hr (af (ay (bC (sc:=(ao mT)) (N:=xI) (Nt:=["k"]) (Nf:=["ring","sending","tie"]) (fi:=[0,1,2]) rfl rfl rfl (cq rfl T.z_range (aI bB rfl T.z_len y_ (af (au (ae 0) ah (λ_ _=>rfl)) ag))) rfl y_ y_ y_ xp rfl y_ xp (λ_ _ _ _=>(bu xp (show((["k"]:List Str)++(["ring","sending","tie"]:List Str)).Nodup by decide +kernel) rfl (Or.inl rfl))) (λ_ _ _ _=>bg) (λ_ _ _ _=>(aL (ye T) T.x_sent_over hr (af (ae 1) (af (ae 2) (af (ae 0) (af (ae 3) ag)))))))) ag)))))
  zS
theorem z7:aB uw ["ring","sending"] (ao j9):=⟨rfl,rfl,rfl,y_,rfl,y_,y_⟩
theorem z8(T:Tx K mg ad fd):FnOk P w K mg base CX0 6 (ad 24) (fd 24) ["ring","sending"] (spF K 2 lN) :=
 a7 (k:=5) T.x_loads_of.f z7 oK (λcdv A outer s H E hr=>(aq (aC (bC (sc:=(ao j9)) (N:=uw) (Nt:=["tie"]) (Nf:=["ring","sending"]) (fi:=[0,1]) rfl rfl rfl (cq rfl T.z_range (aI bB rfl T.z_len y_ (af (au (ae 0) ah (λ_ _=>rfl)) ag))) rfl y_ y_ y_ xp rfl y_ xp (λ_ _ _ _=>(bu xp (show((["tie"]:List Str)++(["ring","sending"]:List Str)).Nodup by decide +kernel) rfl (Or.inl rfl))) (λ_ _ _ _=>bg) (λ_ _ _ _=>(aL (BY T) T.x_load_of hr (af (ae 1) (af (ae 2) (af (ae 0) ag)))))))))
  xR
theorem wa:aB pA ["ring","sending"] (ao fW):=⟨rfl,rfl,rfl,y_,rfl,y_,y_⟩
theorem wb(T:Tx K mg ad fd):FnOk P w K mg base CX0 7 (ad 25) (fd 25) ["ring","sending"] (spF K 2 iw) :=
 a7 (k:=6) T.x_strains_of.f wa ju (λcdv A outer s H E hr=>(aq (aC (bC (sc:=(ao fW)) (N:=pA) (Nt:=["load","room"]) (Nf:=[]) (fi:=[]) rfl rfl rfl (CS rfl T.z_zip (aL (z8 T) T.x_loads_of hr (af (ae 0) (af (ae 1) ag))) (au (ae 0) ah (λ_ _=>rfl))) rfl y_ y_ y_ xp rfl y_ xp (λ_ _ _ _=>(ue rfl (cU (i:=0) xp (show((["load","room"]:List Str)++([]:List Str)).Nodup by decide +kernel) rfl (Or.inl rfl) (cU (i:=1) xp (show((["load","room"]:List Str)++([]:List Str)).Nodup by decide +kernel) rfl (Or.inl rfl) oh)))) (λ_ _ _ _=>bg) (λ_ _ _ _=>(aL (Ky T) T.x_over hr (af (ae 0) (af (ae 1) ag))))))))
  tK
theorem g7:aB G8 ["ring","sending"] (ao vA):=⟨rfl,rfl,rfl,y_,rfl,y_,y_⟩
theorem ES(T:Tx K mg ad fd):FnOk P w K mg base CX0 8 (ad 26) (fd 26) ["ring","sending"] (spF K 2 sf) :=
 a7 (k:=7) T.x_top_of.f g7 vN (λcdv A outer s H E hr=>(ai (az (i:=2) g7.nd rfl v6 (ay (aL (wb T) T.x_strains_of hr (af (ae 0) (af (ae 1) ag)))))
  (ai (az (i:=3) g7.nd rfl v6 ah)
  (ai (dc PassesOwn.never rfl (qw rfl T.z_enumerate (ae 2)) (wM rfl (cT (i:=4) g7.nd rfl v6 (cT (i:=5) g7.nd rfl v6 qN))) (aq (bS (cf (aL (Ho T) T.x_under hr (af (au (ae 2) (ae 3) (λ_ _=>rfl)) (af (ae 5) ag)))) (aq (az (i:=3) g7.nd rfl v6 (ae 4))) aT)))
  (aq (aC (bT (af (au (ae 2) (ae 3) (λ_ _=>rfl)) (af (ae 3) ag)))))))))
  BV
theorem BZ:aB xJ ["ring","ways"] (ao mU):=⟨rfl,rfl,rfl,y_,rfl,y_,y_⟩
theorem B0(T:Tx K mg ad fd):FnOk P w K mg base CX0 1 (ad 27) (fd 27) ["ring","ways"] (spF K 2 oM) :=
 a7 (k:=0) T.x_sent_by.f BZ sj (λcdv A outer s H E hr=>(aq (aC (bC (sc:=(ao mU)) (N:=xJ) (Nt:=["ask","way"]) (Nf:=[]) (fi:=[]) rfl rfl rfl (CS rfl T.z_zip (au (ae 0) ah (λ_ _=>rfl)) (ae 1)) rfl y_ y_ y_ xp rfl y_ xp (λ_ _ _ _=>(ue rfl (cU (i:=0) xp (show((["ask","way"]:List Str)++([]:List Str)).Nodup by decide +kernel) rfl (Or.inl rfl) (cU (i:=1) xp (show((["ask","way"]:List Str)++([]:List Str)).Nodup by decide +kernel) rfl (Or.inl rfl) oh)))) (λ_ _ _ _=>bg) (λ_ _ _ _=>(t7 (QK (dJ hr.units) (ae 1) (sU T.g_ON rfl) (aO _)) (au (ae 0) ah (λ_ _=>rfl)) (sU T.g_NOUGHT rfl)))))))
  zU
theorem ET:aB G9 ["ring","ways"] (ao vB):=⟨rfl,rfl,rfl,y_,rfl,y_,y_⟩
theorem EU(T:Tx K mg ad fd):FnOk P w K mg base CX0 9 (ad 28) (fd 28) ["ring","ways"] (spF K 2 sk) :=
 a7 (k:=8) T.x_top_by.f ET vO (λcdv A outer s H E hr=>(aq (aC (au (aL (ES T) T.x_top_of hr (af (ae 0) (af (ay (aL (B0 T) T.x_sent_by hr (af (ae 0) (af (ae 1) ag)))) ag))) ah (λ_ _=>rfl)))))
  BW
theorem pS:aB rK ["elder","ways"] (ao ik):=⟨rfl,rfl,rfl,y_,rfl,y_,y_⟩
theorem yf(T:Tx K mg ad fd):FnOk P w K mg base CX0 2 (ad 29) (fd 29) ["elder","ways"] (spF K 2 jv) :=
 a7 (k:=1) T.x_turned_by.f pS lO (λcdv A outer s H E hr=>(ai (az (i:=2) pS.nd rfl v6 (ay (uh rfl T.z_list rfl T.z_zip rfl (af (ae 0) (af (ae 1) ag)))))
  (aq (aC (bC (sc:=(ao ik)) (N:=rK) (Nt:=["k","pair"]) (Nf:=[]) (fi:=[]) rfl rfl rfl (qw rfl T.z_enumerate (ae 2)) rfl y_ y_ y_ xp rfl y_ xp (λ_ _ _ _=>(ue rfl (cU (i:=0) xp (show((["k","pair"]:List Str)++([]:List Str)).Nodup by decide +kernel) rfl (Or.inl rfl) (cU (i:=1) xp (show((["k","pair"]:List Str)++([]:List Str)).Nodup by decide +kernel) rfl (Or.inl rfl) oh)))) (λ_ _ _ _=>(yO (QI.pb (uQ (QK uX (au (ae 1) ah (λ_ _=>rfl)) iR (aO _)) (qu (QK (dJ hr.units) (au (ae 1) ah (λ_ _=>rfl)) (aL (yc T) T.x_other_way hr (af (au (ae 1) ah (λ_ _=>rfl)) ag)) (aO _))))))) (λ_ _ _ _=>(ae 0)))))))
  vP
theorem tS:aB vC ["wish","load","bound"] (ao ip):=⟨rfl,rfl,rfl,y_,rfl,y_,y_⟩
theorem kX(T:Tx K mg ad fd):FnOk P w K mg base CX0 1 (ad 30) (fd 30) ["wish","load","bound"] (spF K 3 dZ) :=
 a7 (k:=0) T.x_is_too_much.f tS iy (λcdv A outer s H E hr=>(aq (aC (Lq (cA yK (ae 1) (ae 2) (aO _)) (iS (gL (au (ae 0) ah (λ_ _=>rfl)) (iS (cA (dJ hr.units) (ae 1) (ae 2) (aO _)))))))))
  sr
theorem sO:aB tI ["wish","ways"] (ao gu):=⟨rfl,rfl,rfl,y_,rfl,y_,y_⟩
theorem jT(T:Tx K mg ad fd):FnOk P w K mg base CX0 3 (ad 31) (fd 31) ["wish","ways"] (spF K 2 dA) :=
 a7 (k:=2) T.x_are_too_many.f sO gy (λcdv A outer s H E hr=>(aq (aC (cA yK (aI bB rfl T.z_len y_ (af (ay (aL (yf T) T.x_turned_by hr (af (au (ae 0) ah (λ_ _=>rfl)) (af (ae 1) ag)))) ag)) (au (ae 0) ah (λ_ _=>rfl)) (aO _)))))
  qj
theorem z9:aB BM ["thing"] (ao oD):=⟨rfl,rfl,rfl,y_,rfl,y_,y_⟩
theorem sP(T:Tx K mg ad fd):FnOk P w K mg base CX0 2 (ad 32) (fd 32) ["thing"] (spF K 1 iz) :=
 a7 (k:=1) T.x_is_split.f z9 oN (λcdv A outer s H E hr=>(aq (aC (aL (iM T) T.x_is_told_as hr (af (ae 0) (af (sU T.g_SPLIT rfl) (af ah ag)))))))
  xS
theorem wd:aB pB ["ring","k","way","cut"] (ao fX):=⟨rfl,rfl,rfl,y_,rfl,y_,y_⟩
theorem we(T:Tx K mg ad fd):FnOk P w K mg base CX0 3 (ad 33) (fd 33) ["ring","k","way","cut"] (spF K 4 iA) :=
 a7 (k:=2) T.x_times_over.f wd jw (λcdv A outer s H E hr=>(ai (bS (QK yP (ae 2) iR (aO _)) (aq (aC (t7 (cf (aL (jS T) T.x_parts_places hr (af (ae 3) (af (au (au (au (ae 0) ah (λ_ _=>rfl)) (ae 1) (λ_ _=>rfl)) ah (λ_ _=>rfl)) (af (au (au (au (ae 0) ah (λ_ _=>rfl)) (ae 1) (λ_ _=>rfl)) ah (λ_ _=>rfl)) ag))))) ah ah))) aT)
  (aq (aC (aI bB rfl T.z_len y_ (af (ay (bC (sc:=(ao fX)) (N:=pB) (Nt:=["tie"]) (Nf:=["ring","k","way"]) (fi:=[0,1,2]) rfl rfl rfl (bo (ae 3)) rfl y_ y_ y_ xp rfl y_ xp (λ_ _ _ _=>(bu xp (show((["tie"]:List Str)++(["ring","k","way"]:List Str)).Nodup by decide +kernel) rfl (Or.inl rfl))) (λ_ _ _ _=>(yO (cf (aL (o4 T) T.x_is_over hr (af (ae 1) (af (ae 2) (af (ae 3) (af (ae 0) ag)))))))) (λ_ _ _ _=>(ae 0)))) ag))))))
  tM
theorem gF:aB mV ["ring","wish","scale","fixed","cut"] (ao eR):=⟨rfl,rfl,rfl,y_,rfl,y_,y_⟩
theorem tT(T:Tx K mg ad fd):FnOk P w K mg base CX0 4 (ad 34) (fd 34) ["ring","wish","scale","fixed","cut"] (spF K 5 gz) :=
 a7 (k:=3) T.x_is_too_full.f gF iB (λcdv A outer s H E hr=>(ai (az (i:=5) gF.nd rfl v6 (au (ae 2) ah (λ_ _=>rfl)))
  (ai (az (i:=6) gF.nd rfl v6 (ay (aI (LR rfl) rfl T.z_sum y_ (af (ay (bC (sc:=(ao eR)) (N:=mV) (Nt:=["k","size"]) (Nf:=["ring","fixed","cut"]) (fi:=[0,3,4]) rfl rfl rfl (qw rfl T.z_enumerate (au (ae 2) ah (λ_ _=>rfl))) rfl y_ y_ y_ xp rfl y_ xp (λ_ _ _ _=>(ue rfl (cU (i:=0) xp (show((["k","size"]:List Str)++(["ring","fixed","cut"]:List Str)).Nodup by decide +kernel) rfl (Or.inl rfl) (cU (i:=1) xp (show((["k","size"]:List Str)++(["ring","fixed","cut"]:List Str)).Nodup by decide +kernel) rfl (Or.inl rfl) oh)))) (λ_ _ _ _=>bg) (λ_ _ _ _=>(ax aU (ae 1) (aL (we T) T.x_times_over hr (af (ae 2) (af (ae 0) (af (au (ae 3) (ae 0) (λ_ _=>rfl)) (af (ae 4) ag))))))))) ag))))
  (aq (aC (aL (kX T) T.x_is_too_much hr (af (ae 1) (af (ae 6) (af (ay (ax bA (au (ae 5) (au (ae 4) ah (λ_ _=>rfl)) (λ_ _=>rfl)) (au (ae 5) (au (ae 4) ah (λ_ _=>rfl)) (λ_ _=>rfl)))) ag)))))))))
  sx
theorem yg:aB zB ["ring","wish","scale","fixed","thing"] (ao lr):=⟨rfl,rfl,rfl,y_,rfl,y_,y_⟩
theorem yh(T:Tx K mg ad fd):FnOk P w K mg base CX0 5 (ad 35) (fd 35) ["ring","wish","scale","fixed","thing"] (spF K 5 jy) :=
 a7 (k:=4) T.x_can_stand.f yg lP (λcdv A outer s H E hr=>by exact(@ai _ _ _ _ _ (@bS _ _ _ _ _ _ _ _ (cf (aL (iM T) T.x_is_told_as hr (@af _ _ _ _ _ _ (ae 4) (@af _ _ _ _ _ _ (sU T.g_TURNED rfl) (@af _ _ _ _ _ _ ah ag z_) z_) z_))) (@aq _ _ _ (@aC _ _ _ _ (aL (jT T) T.x_are_too_many hr (@af _ _ _ _ _ _ (ae 1) (@af _ _ _ _ _ _ (ae 3) ag z_) z_)))) aT) (@ai _ _ _ _ _ (@bS _ _ _ _ _ _ _ _ (cf (aL (iM T) T.x_is_told_as hr (@af _ _ _ _ _ _ (ae 4) (@af _ _ _ _ _ _ (sU T.g_CUT rfl) (@af _ _ _ _ _ _ ah ag z_) z_) z_))) (@aq _ _ _ (@aC _ _ _ _ (gL (aL (ER T) T.x_is_cut hr (@af _ _ _ _ _ _ (ae 0) (@af _ _ _ _ _ _ (@ay _ _ _ (@mG _ _ _ _ _ _ _ _ _ (ae 4) ah trivial)) ag z_) z_)) (iS (aL (tT T) T.x_is_too_full hr (@af _ _ _ _ _ _ (ae 0) (@af _ _ _ _ _ _ (ae 1) (@af _ _ _ _ _ _ (ae 2) (@af _ _ _ _ _ _ (ae 3) (@af _ _ _ _ _ _ (@ay _ _ _ (@mG _ _ _ _ _ _ _ _ _ (ae 4) ah trivial)) ag z_) z_) z_) z_) z_)))))) aT) (@aq _ _ _ (@aC _ _ _ _ (gL (aL (sP T) T.x_is_split hr (@af _ _ _ _ _ _ (ae 4) ag z_)) (gL (aL (nW T) T.x_is_number_below hr (@af _ _ _ _ _ _ (@au _ _ _ _ _ _ (ae 4) ah (λ_ _=>rfl)) (@af _ _ _ _ _ _ (@ay _ _ _ (aI bB rfl T.z_len y_ (@af _ _ _ _ _ _ (ae 3) ag z_))) ag z_) z_)) (iS (cA yP (@au _ _ _ _ _ _ (ae 3) (@au _ _ _ _ _ _ (ae 4) ah (λ_ _=>rfl)) (λ_ _=>rfl)) iR (aO _))))))))))
  vQ
theorem jU:aB zC ["here","way"] (ao lu):=⟨rfl,rfl,rfl,y_,rfl,y_,y_⟩
theorem pT(T:Tx K mg ad fd):FnOk P w K mg base CX0 1 (ad 36) (fd 36) ["here","way"] (spF K 2 gb) :=
 a7 (k:=0) T.x_branch_of.f jU lQ (λcdv A outer s H E hr=>(ai (az (i:=2) jU.nd rfl v6 (au (ae 0) ah (λ_ _=>rfl)))
  (ai (az (i:=3) jU.nd rfl v6 (e8 IT rfl T.z_list y_ (af (au (ae 0) ah (λ_ _=>rfl)) ag)))
  (ai (qQ 3 (au (ae 2) ah (λ_ _=>rfl)) (ae 1))
  (aq (aC (bT (af (t7 (QK (dJ hr.units) (ae 1) (sU T.g_ON rfl) (aO _)) (au (ae 2) ah (λ_ _=>rfl)) (au (ae 2) ah (λ_ _=>rfl))) (af (ae 3) (af (ay (ax bA (au (ae 0) ah (λ_ _=>rfl)) (bI (af (ae 1) ag)))) ag))))))))))
  vR
theorem bV:aB kC ["ring","wish","thing"] (ao dY):=⟨rfl,rfl,rfl,y_,rfl,y_,y_⟩
theorem sQ(T:Tx K mg ad fd):FnOk P w K mg base CX0 6 (ad 37) (fd 37) ["ring","wish","thing"] (spF K 3 fw) :=
 a7 (k:=5) T.x_look_at_tree.f bV gB (λcdv A outer s H E hr=>by exact(@ai _ _ _ _ _ (@az _ _ _ 3 _ _ _ bV.nd rfl v6 (@ay _ _ _ (aL (uE T) T.x_weighed hr (@af _ _ _ _ _ _ (ae 0) (@af _ _ _ _ _ _ (@au _ _ _ _ _ _ (ae 1) ah (λ_ _=>rfl)) ag z_) z_))) z_ (by first | exact .inl rfl | exact .inr rfl)) (@ai _ _ _ _ _ (@az _ _ _ 4 _ _ _ bV.nd rfl v6 (@bI _ _ _ _ _ (@af _ _ _ _ _ _ (@bT _ _ _ _ _ _ (@af _ _ _ _ _ _ (ae 2) (@af _ _ _ _ _ _ (@ay _ _ _ (bC (sc:=(ao dY)) (N:=kC) (Nt:=[ "ask" ]) (Nf:=[]) (fi:=[]) rfl rfl rfl (bo (@au _ _ _ _ _ _ (ae 0) ah (λ_ _=>rfl))) rfl y_ y_ y_ xp rfl y_ xp (λ_ _ _ _=>(bu xp (show(([ "ask" ]:List Str)++([]:List Str)).Nodup by decide +kernel) rfl (Or.inl rfl))) (λ_ _ _ _=>bg) (λ_ _ _ _=>iR))) (@af _ _ _ _ _ _ (@ay _ _ _ (@bI _ _ _ _ _ ag)) ag z_) z_) z_)) ag z_)) z_ (by first | exact .inl rfl | exact .inr rfl)) (@ai _ _ _ _ _ (@az _ _ _ 5 _ _ _ bV.nd rfl v6 ah z_ (by first | exact .inl rfl | exact .inr rfl)) (@aq _ _ _ (hJ PassesOwn.never (Md 4) (@ai _ _ _ _ _ (@az _ _ _ 6 _ _ _ bV.nd rfl v6 (@ay _ _ _ (LM 4)) z_ (by first | exact .inl rfl | exact .inr rfl)) (@ai _ _ _ _ _ (Mc K2 (i:=5) bV.nd rfl v6 ah) (@ai _ _ _ _ _ (@bS _ _ _ _ _ _ _ _ (QI.pb (pd (QK yK (ae 5) (sU T.g_MOST_WALKED rfl) (aO _)) (kY (qK (cf (aL (yh T) T.x_can_stand hr (@af _ _ _ _ _ _ (ae 0) (@af _ _ _ _ _ _ (ae 1) (@af _ _ _ _ _ _ (ae 3) (@af _ _ _ _ _ _ (@au _ _ _ _ _ _ (ae 6) ah (λ_ _=>rfl)) (@af _ _ _ _ _ _ (@au _ _ _ _ _ _ (ae 6) ah (λ_ _=>rfl)) ag z_) z_) z_) z_) z_))))))) (@aq _ _ _ uR) aT) (@aq _ _ _ (@bS _ _ _ _ _ _ _ _ (cf (aL (sP T) T.x_is_split hr (@af _ _ _ _ _ _ (@au _ _ _ _ _ _ (ae 6) ah (λ_ _=>rfl)) ag z_))) (@ai _ _ _ _ _ (eX (d7 4 (aL (pT T) T.x_branch_of hr (@af _ _ _ _ _ _ (ae 6) (@af _ _ _ _ _ _ (sU T.g_BACK rfl) ag z_) z_)))) (@aq _ _ _ (eX (d7 4 (aL (pT T) T.x_branch_of hr (@af _ _ _ _ _ _ (ae 6) (@af _ _ _ _ _ _ (sU T.g_ON rfl) ag z_) z_)))))) aT)))))))))))
  qk
theorem dW:aB qf ["wish","bounds","fixed","loads"] (ao eK):=⟨rfl,rfl,rfl,y_,rfl,y_,y_⟩
theorem o5(T:Tx K mg ad fd):FnOk P w K mg base CX0 4 (ad 38) (fd 38) ["wish","bounds","fixed","loads"] (spF K 4 dU) :=
 a7 (k:=3) T.x_reason_against.f dW eM (λcdv A outer s H E hr=>(ai (bS (cf (aL (jT T) T.x_are_too_many hr (af (ae 0) (af (ae 2) ag)))) (aq (aC (bT (af (sU T.g_TURNED rfl) ag)))) aT)
  (ai (dc PassesOwn.never rfl (bo (ae 1)) (wM rfl (cT (i:=4) dW.nd rfl v6 (cT (i:=5) dW.nd rfl v6 qN))) (aq (bS (cf (aL (kX T) T.x_is_too_much hr (af (ae 0) (af (ay (ax bA (au (ae 3) (au (ae 4) ah (λ_ _=>rfl)) (λ_ _=>rfl)) (au (ae 3) (au (ae 4) ah (λ_ _=>rfl)) (λ_ _=>rfl)))) (af (ae 5) ag))))) (aq (aC (bT (af (sU T.g_CUT rfl) (af (au (ae 4) ah (λ_ _=>rfl)) (af (au (ae 4) ah (λ_ _=>rfl)) ag)))))) aT)))
  (aq (aC iR)))))
  m4
theorem c8:aB uy ["ring","wish","sizes","bounds","fixed","loads"] (ao ka):=⟨rfl,rfl,rfl,y_,rfl,y_,y_⟩
theorem pU(T:Tx K mg ad fd):∀ n,FnOk P w K mg base CX0 (5+n) (ad 39) (fd 39) ["ring","wish","sizes","bounds","fixed","loads"] (spF K 6 (cI n))
 |0=>C6 zV
 | n+1=>a7 (k:=5+n) T.x_searched.f c8 (oO (cI n)) (λcdv A outer s H E hr=>by exact(@ai _ _ _ _ _ (@az _ _ _ 6 _ _ _ c8.nd rfl v6 (@ay _ _ _ (@fS _ _ _ _ _ (yM 4 rfl T.z_len) (aI bB rfl T.z_len PySem.boot_len (@af _ _ _ _ _ _ (ae 4) ag z_)))) z_ (by first | exact .inl rfl | exact .inr rfl)) (@ai _ _ _ _ _ (@az _ _ _ 7 _ _ _ c8.nd rfl v6 (oi 4 (aL (o5 T) T.x_reason_against hr (@af _ _ _ _ _ _ (ae 1) (@af _ _ _ _ _ _ (@au _ _ _ _ _ _ (ae 3) (@ax _ _ _ _ _ _ _ _ iT (aI bB rfl T.z_len y_ (@af _ _ _ _ _ _ (ae 2) ag z_)) (ae 6)) (λ_ _=>rfl)) (@af _ _ _ _ _ _ (ae 4) (@af _ _ _ _ _ _ (ae 5) ag z_) z_) z_) z_) (hk:=by omega))) z_ (by first | exact .inl rfl | exact .inr rfl)) (@ai _ _ _ _ _ (@bS _ _ _ _ _ _ _ _ (QK uX (ae 7) iR (aO _)) (@aq _ _ _ (@aC _ _ _ _ (@u7 _ _ _ _ _ _ (@af _ _ _ _ _ _ dG (@af _ _ _ _ _ _ (cB 7) ag z_) z_)))) aT) (@ai _ _ _ _ _ (@bS _ _ _ _ _ _ _ _ (QK (dJ hr.units) (ae 6) (aI bB rfl T.z_len y_ (@af _ _ _ _ _ _ (ae 2) ag z_)) (aO _)) (@aq _ _ _ (@aC _ _ _ _ (@u7 _ _ _ _ _ _ (@af _ _ _ _ _ _ dG (@af _ _ _ _ _ _ (cB 4) ag z_) z_)))) aT) (@ai _ _ _ _ _ (@az _ _ _ 8 _ _ _ c8.nd rfl v6 (@bI _ _ _ _ _ ag) z_ (by first | exact .inl rfl | exact .inr rfl)) (@ai _ _ _ _ _ (dc PassesOwn.never rfl (bo (@bT _ _ _ _ _ _ (@af _ _ _ _ _ _ (sU T.g_ON rfl) (@af _ _ _ _ _ _ (sU T.g_BACK rfl) ag z_) z_))) (cY (i:=9) c8.nd rfl v6) (@ai _ _ _ _ _ (k9 c8.nd (j:=10) rfl v6 (sc:=(ao ka)) (N:=uy) (Nt:=[ "tie" ,"load" ]) (Nf:=[ "ring" ,"k" ,"way" ,"sizes" ]) (fi:=[0,6,9,2]) rfl rfl rfl (qw rfl T.z_enumerate (ae 5)) rfl y_ y_ y_ xp rfl y_ xp (λ_ _ _ _=>(ue rfl (cU (i:=0) xp (show(([ "tie" ,"load" ]:List Str)++([ "ring" ,"k" ,"way" ,"sizes" ]:List Str)).Nodup by decide +kernel) rfl (Or.inl rfl) (cU (i:=1) xp (show(([ "tie" ,"load" ]:List Str)++([ "ring" ,"k" ,"way" ,"sizes" ]:List Str)).Nodup by decide +kernel) rfl (Or.inl rfl) oh)))) (λ_ _ _ _=>bg) (λ_ _ _ _=>(@ax _ _ _ _ _ _ _ _ bA (ae 1) (@t7 _ _ _ _ _ _ _ _ (cf (aL (o4 T) T.x_is_over hr (@af _ _ _ _ _ _ (ae 2) (@af _ _ _ _ _ _ (ae 3) (@af _ _ _ _ _ _ (ae 4) (@af _ _ _ _ _ _ (ae 0) ag z_) z_) z_) z_) (hk:=by omega))) (@au _ _ _ _ _ _ (ae 5) (ae 3) (λ_ _=>rfl)) ah)))) (@ai _ _ _ _ _ (@az _ _ _ 11 _ _ _ c8.nd rfl v6 (aL (pU T n) T.x_searched hr (@af _ _ _ _ _ _ (ae 0) (@af _ _ _ _ _ _ (ae 1) (@af _ _ _ _ _ _ (ae 2) (@af _ _ _ _ _ _ (ae 3) (@af _ _ _ _ _ _ (Jx 4 (@bI _ _ _ _ _ (@af _ _ _ _ _ _ (ae 9) ag z_))) (@af _ _ _ _ _ _ (ae 10) ag z_) z_) z_) z_) z_) z_) (hk:=by omega)) z_ (by first | exact .inl rfl | exact .inr rfl)) (@ai _ _ _ _ _ (@bS _ _ _ _ _ _ _ _ (C0 11 (QK (dJ hr.units) (oi 11 (@au _ _ _ _ _ _ (ae 11) ah (λ_ _=>rfl))) dG (aO _))) (@aq _ _ _ (@aC _ _ _ _ (cB 11))) aT) (@aq _ _ _ (eX (d7 8 (oi 11 (@au _ _ _ _ _ _ (ae 11) ah (λ_ _=>rfl)))))))))) (@aq _ _ _ (@aC _ _ _ _ (@u7 _ _ _ _ _ _ (@af _ _ _ _ _ _ dG (@af _ _ _ _ _ _ (@bT _ _ _ _ _ _ (@af _ _ _ _ _ _ (sU T.g_SPLIT rfl) (@af _ _ _ _ _ _ (ae 6) (@af _ _ _ _ _ _ (@fS _ _ _ _ _ (i8 8 ah (λ_ _=>rfl)) (@au _ _ _ _ _ _ (ae 8) ah (λ_ _=>rfl))) (@af _ _ _ _ _ _ (@fS _ _ _ _ _ (i8 8 ah (λ_ _=>rfl)) (@au _ _ _ _ _ _ (ae 8) ah (λ_ _=>rfl))) ag z_) z_) z_) z_)) ag z_) z_)))))))))))
  (xU n)
theorem Aa(T:Tx K mg ad fd):FnOk P w K mg base CX0 14 (ad 39) (fd 39) ["ring","wish","sizes","bounds","fixed","loads"] (spF K 6 sy):=pU T 9
theorem eh:aB lx ["ring","scale"] (ao fh):=⟨rfl,rfl,rfl,y_,rfl,y_,y_⟩
theorem yi(T:Tx K mg ad fd):FnOk P w K mg base CX0 3 (ad 40) (fd 40) ["ring","scale"] (spF K 2 jB) :=
 a7 (k:=2) T.x_bounds_of.f eh lR (λcdv A outer s H E hr=>(ai (az (i:=2) eh.nd rfl v6 (au (ae 1) ah (λ_ _=>rfl)))
  (ai (az (i:=3) eh.nd rfl v6 (bI (af (ay (bC (sc:=(ao fh)) (N:=lx) (Nt:=["cut"]) (Nf:=["most"]) (fi:=[2]) rfl rfl rfl (bo (aL (z0 T) T.x_all_cuts hr (af (ae 0) ag))) rfl y_ y_ y_ xp rfl y_ xp (λ_ _ _ _=>(bu xp (show((["cut"]:List Str)++(["most"]:List Str)).Nodup by decide +kernel) rfl (Or.inl rfl))) (λ_ _ _ _=>bg) (λ_ _ _ _=>(bT (af (ae 0) (af (ay (ax bA (au (ae 1) (au (ae 0) ah (λ_ _=>rfl)) (λ_ _=>rfl)) (au (ae 1) (au (ae 0) ah (λ_ _=>rfl)) (λ_ _=>rfl)))) ag)))))) ag)))
  (ai (dc PassesOwn.never rfl (Ju rfl T.z_reversed (uh rfl T.z_list rfl T.z_zip rfl (af (au (ae 0) ah (λ_ _=>rfl)) (af (au (ae 1) ah (λ_ _=>rfl)) ag)))) (wM rfl (cT (i:=4) eh.nd rfl v6 (cT (i:=5) eh.nd rfl v6 qN))) (aq (eX (d7 3 (bC (sc:=(ao fh)) (N:=lx) (Nt:=["cut","bound"]) (Nf:=["ask","size"]) (fi:=[4,5]) rfl rfl rfl (bo (fS (i8 3 (Cu ah) (λ_ _=>rfl)) (au (ae 3) (Cu ah) (λ_ _=>rfl)))) rfl y_ y_ y_ xp rfl y_ xp (λ_ _ _ _=>(ue rfl (cU (i:=0) xp (show((["cut","bound"]:List Str)++(["ask","size"]:List Str)).Nodup by decide +kernel) rfl (Or.inl rfl) (cU (i:=1) xp (show((["cut","bound"]:List Str)++(["ask","size"]:List Str)).Nodup by decide +kernel) rfl (Or.inl rfl) oh)))) (λ_ _ _ _=>bg) (λ_ _ _ _=>(bT (af (ae 0) (af (ax iT (ae 1) (t7 (cf (aL (jS T) T.x_parts_places hr (af (ae 0) (af (au (ae 2) ah (λ_ _=>rfl)) (af (au (ae 2) ah (λ_ _=>rfl)) ag))))) (ae 3) ah)) ag)))))))))
  (aq (aC (cB 3)))))))
  vU
theorem sR:aB uz ["ring","wish"] (ao kc):=⟨rfl,rfl,rfl,y_,rfl,y_,y_⟩
theorem l8(T:Tx K mg ad fd):FnOk P w K mg base CX0 15 (ad 41) (fd 41) ["ring","wish"] (spF K 2 fC) :=
 a7 (k:=14) T.x_ways_for.f sR oP (λcdv A outer s H E hr=>(ai (bS (QK yK (aI bB rfl T.z_len y_ (af (au (ae 0) ah (λ_ _=>rfl)) ag)) (sU T.g_MOST_SEARCHED rfl) (aO _)) (aq uR) aT)
  (ai (az (i:=2) sR.nd rfl v6 (ay (aL (uE T) T.x_weighed hr (af (ae 0) (af (au (ae 1) ah (λ_ _=>rfl)) ag)))))
  (aq (aC (aL (Aa T) T.x_searched hr (af (ae 0) (af (ae 1) (af (au (ae 2) ah (λ_ _=>rfl)) (af (ay (aL (yi T) T.x_bounds_of hr (af (ae 0) (af (ae 2) ag)))) (af (bI ag) (af (ay (bC (sc:=(ao kc)) (N:=uz) (Nt:=["room"]) (Nf:=[]) (fi:=[]) rfl rfl rfl (bo (au (ae 0) ah (λ_ _=>rfl))) rfl y_ y_ y_ xp rfl y_ xp (λ_ _ _ _=>(bu xp (show((["room"]:List Str)++([]:List Str)).Nodup by decide +kernel) rfl (Or.inl rfl))) (λ_ _ _ _=>bg) (λ_ _ _ _=>ah))) ag))))))))))))
  xV
theorem qn:aB jh ["ring","top"] (ao dj):=⟨rfl,rfl,rfl,y_,rfl,y_,y_⟩
theorem qp(T:Tx K mg ad fd):FnOk P w K mg base CX0 1 (ad 42) (fd 42) ["ring","top"] (spF K 2 eN) :=
 a7 (k:=0) T.x_wish_for_less.f qn fE (λcdv A outer s H E hr=>(aq (aC (bT (af (ae 1) (af qJ (af (ay (bC (sc:=(ao dj)) (N:=jh) (Nt:=["ask"]) (Nf:=[]) (fi:=[]) rfl rfl rfl (bo (au (ae 0) ah (λ_ _=>rfl))) rfl y_ y_ y_ xp rfl y_ xp (λ_ _ _ _=>(bu xp (show((["ask"]:List Str)++([]:List Str)).Nodup by decide +kernel) rfl (Or.inl rfl))) (λ_ _ _ _=>bg) (λ_ _ _ _=>iR))) (af ah ag))))))))
  oQ
theorem ej:aB rL ["ring"] (ao iq):=⟨rfl,rfl,rfl,y_,rfl,y_,y_⟩
theorem yj(T:Tx K mg ad fd):FnOk P w K mg base CX0 16 (ad 43) (fd 43) ["ring"] (spF K 1 jC) :=
 a7 (k:=15) T.x_best_ways.f ej lS (λcdv A outer s H E hr=>(ai (k9 ej.nd (j:=1) rfl v6 (sc:=(ao iq)) (N:=rL) (Nt:=["ask"]) (Nf:=[]) (fi:=[]) rfl rfl rfl (bo (au (ae 0) ah (λ_ _=>rfl))) rfl y_ y_ y_ xp rfl y_ xp (λ_ _ _ _=>(bu xp (show((["ask"]:List Str)++([]:List Str)).Nodup by decide +kernel) rfl (Or.inl rfl))) (λ_ _ _ _=>bg) (λ_ _ _ _=>(sU T.g_ON rfl)))
  (aq (hJ PassesOwn.never (cf qJ) (ai (az (i:=2) ej.nd rfl v6 (oi 1 (aL (EU T) T.x_top_by hr (af (ae 0) (af (ae 1) ag)))))
  (ai (az (i:=3) ej.nd rfl v6 (aL (l8 T) T.x_ways_for hr (af (ae 0) (af (ay (aL (qp T) T.x_wish_for_less hr (af (ae 0) (af (ae 2) ag)))) ag))))
  (ai (bS (C0 3 (QK (dJ hr.units) (oi 3 (au (ae 3) ah (λ_ _=>rfl))) dG (aO _))) (aq (aC (u7 (af (cB 2) (af (cB 1) (af (Dh 3 1) ag)))))) aT)
  (aq (az (i:=1) ej.nd rfl v6 (Dh 3 1))))))))))
  vV
theorem iN:aB xK ["_law_script","_law_k"] (ao ji):=⟨rfl,rfl,rfl,y_,rfl,y_,y_⟩
theorem dC(T:Tx K mg ad fd):FnOk P w K mg base CX0 1 (ad 44) (fd 44) ["_law_script","_law_k"] (spF K 2 cb) :=
 a7 (k:=0) T.x__law_begun.f iN jD (λcdv A outer s H E hr=>(ai (az (i:=2) iN.nd rfl v6 ah)
  (ai (bS (QK tD (ae 1) (aI bB rfl T.z_len y_ (af (ae 0) ag)) (aO _)) (aq (az (i:=2) iN.nd rfl v6 (au (ae 0) (ae 1) (λ_ _=>rfl)))) aT)
  (aq (aC (bI (af (ae 2) (af (ax de (ax bA (ax bA (ax de (ae 2) ah) (ax aU (ax aU ah (ae 1)) (ae 1))) ah) ah) (af (cA NF (ae 2) (ax CA ah ah) (aO _)) ag)))))))))
  tN
theorem eA:aB zD ["_law_state","_law_many"] (ao ly):=⟨rfl,rfl,rfl,y_,rfl,y_,y_⟩
theorem aN(T:Tx K mg ad fd):FnOk P w K mg base CX0 1 (ad 45) (fd 45) ["_law_state","_law_many"] (spF K 2 aH) :=
 a7 (k:=0) T.x__law_take.f eA lT (λcdv A outer s H E hr=>(ai (bS (cf (fS (i8 0 ah (λ_ _=>rfl)) (au (ae 0) ah (λ_ _=>rfl)))) (ai (az (i:=2) eA.nd rfl v6 (ax de (fS (i8 0 ah (λ_ _=>rfl)) (au (ae 0) ah (λ_ _=>rfl))) (ae 1)))
  (ai (qQ 0 ah (ax i7 (fS (i8 0 ah (λ_ _=>rfl)) (au (ae 0) ah (λ_ _=>rfl))) (ae 1)))
  (ai (qQ 0 ah (cA yK (fS (i8 0 ah (λ_ _=>rfl)) (au (ae 0) ah (λ_ _=>rfl))) ah (aO _)))
  (aq (aC (cB 2)))))) aT)
  (ai (az (i:=3) eA.nd rfl v6 ah)
  (ai (dc PassesOwn.never rfl (cq rfl T.z_range (ax bA ah (ax aU ah (e8 t8 rfl T.z_int y_ (af (cA yK (ae 1) (ax CA ah ah) (aO _)) ag))))) (cY (i:=4) eA.nd rfl v6) (ai (qQ 0 ah (ax de (ax bA (ax aU (fS (i8 0 ah (λ_ _=>rfl)) (au (ae 0) ah (λ_ _=>rfl))) ah) ah) ah))
  (aq (az (i:=3) eA.nd rfl v6 (ay (ax bA (ax aU (ae 3) ah) (ax de (ax aU (fS (i8 0 ah (λ_ _=>rfl)) (au (ae 0) ah (λ_ _=>rfl))) (fS (i8 0 ah (λ_ _=>rfl)) (au (ae 0) ah (λ_ _=>rfl)))) ah)))))))
  (aq (aC (ax de (ax i7 (ae 3) ah) (ae 1))))))))
  vW
theorem dD:aB jj ["_law_state","_law_many"] (ao ee):=⟨rfl,rfl,rfl,y_,rfl,y_,y_⟩
theorem wg(T:Tx K mg ad fd):FnOk P w K mg base CX0 2 (ad 46) (fd 46) ["_law_state","_law_many"] (spF K 2 iD) :=
 a7 (k:=1) T.x__law_names.f dD jE (λcdv A outer s H E hr=>(ai (az (i:=2) dD.nd rfl v6 dG)
  (ai (az (i:=3) dD.nd rfl v6 (ay (Je (bC (sc:=(ao ee)) (N:=jj) (Nt:=["_law_k"]) (Nf:=["_law_letters","_law_state"]) (fi:=[2,0]) rfl rfl rfl (cq rfl T.z_range (ax bA ah (bU (aN T) T.x__law_take hr 0 0 (bp 0 (af ah ag))))) rfl y_ y_ y_ xp rfl y_ xp (λ_ _ _ _=>(bu xp (show((["_law_k"]:List Str)++(["_law_letters","_law_state"]:List Str)).Nodup by decide +kernel) rfl (Or.inl rfl))) (λ_ _ _ _=>bg) (λ_ _ _ _=>(au (ae 1) (bU (aN T) T.x__law_take hr 0 2 (bp 2 (af ah ag))) (λ_ _=>rfl)))))))
  (ai (az (i:=4) dD.nd rfl v6 (ay (bU (aN T) T.x__law_take hr 0 0 (bp 0 (af (ay (aI bB rfl T.z_len y_ (af (ae 3) ag))) ag)))))
  (ai (az (i:=5) dD.nd rfl v6 (ay (bU (aN T) T.x__law_take hr 0 0 (bp 0 (af ah ag)))))
  (aq (aC (bC (sc:=(ao ee)) (N:=jj) (Nt:=["_law_k"]) (Nf:=["_law_base","_law_at","_law_letters","_law_turn"]) (fi:=[3,4,2,5]) rfl rfl rfl (cq rfl T.z_range (ae 1)) rfl y_ y_ y_ xp rfl y_ xp (λ_ _ _ _=>(bu xp (show((["_law_k"]:List Str)++(["_law_base","_law_at","_law_letters","_law_turn"]:List Str)).Nodup by decide +kernel) rfl (Or.inl rfl))) (λ_ _ _ _=>bg) (λ_ _ _ _=>(ax bA (ax bA (mG (ae 1) trivial (ae 2)) (au (ae 3) (ax de (ax bA (ae 4) (ae 0)) ah) (λ_ _=>rfl))) (mG (ae 1) (ax bA (ae 2) ah) trivial)))))))))))
  tO
theorem fL:aB BN ["_law_top_here","_law_bottom"] (ao oE):=⟨rfl,rfl,rfl,y_,rfl,y_,y_⟩
theorem l9(T:Tx K mg ad fd):FnOk P w K mg base CX0 1 (ad 47) (fd 47) ["_law_top_here","_law_bottom"] (spF K 2 fF) :=
 a7 (k:=0) T.x__law_low.f fL oR (λcdv A outer s H E hr=>(ai (az (i:=2) fL.nd rfl v6 (ay (aI CB rfl T.z_abs y_ (af (ae 0) ag))))
  (ai (az (i:=3) fL.nd rfl v6 (ay (aI CB rfl T.z_abs y_ (af (ae 1) ag))))
  (ai (hJ PassesOwn.never (QK (p5 hr.units) (ae 2) ah (aO _)) (aq (HI (i:=2) (j:=3) rfl fL.nd rfl rfl xp rfl rfl (ax de (ae 3) (ae 2)) (ae 2) rfl)))
  (ai (bS (QK tD (ae 1) ah (aO _)) (aq (az (i:=3) fL.nd rfl v6 (ax iT ah (ae 3)))) aT)
  (aq (aC (bT (af (ax i7 (ae 0) (ae 3)) (af (ax i7 (ae 1) (ae 3)) ag))))))))))
  xX
theorem gG:aB vD ["_law_state","_law_least_here","_law_kind"] (ao ir):=⟨rfl,rfl,rfl,y_,rfl,y_,y_⟩
theorem d3(T:Tx K mg ad fd):FnOk P w K mg base CX0 2 (ad 48) (fd 48) ["_law_state","_law_least_here","_law_kind"] (spF K 3 cm) :=
 a7 (k:=1) T.x__law_amount.f gG iE (λcdv A outer s H E hr=>by exact(@ai _ _ _ _ _ (@az _ _ _ 3 _ _ _ gG.nd rfl v6 (@ay _ _ _ (@ax _ _ _ _ _ _ _ _ bA ah (bU (aN T) T.x__law_take hr 0 0 (bp 0 (@af _ _ _ _ _ _ (@au _ _ _ _ _ _ (@bI _ _ _ _ _ (@af _ _ _ _ _ _ ah (@af _ _ _ _ _ _ ah (@af _ _ _ _ _ _ ah (@af _ _ _ _ _ _ ah (@af _ _ _ _ _ _ ah ag z_) z_) z_) z_) z_)) (ae 2) (λ_ _=>rfl)) ag z_))))) z_ (by first | exact .inl rfl | exact .inr rfl)) (@ai _ _ _ _ _ (@az _ _ _ 4 _ _ _ gG.nd rfl v6 (@ay _ _ _ (@ax _ _ _ _ _ _ _ _ bA (ae 1) (bU (aN T) T.x__law_take hr 0 0 (bp 0 (@af _ _ _ _ _ _ (@au _ _ _ _ _ _ (@bI _ _ _ _ _ (@af _ _ _ _ _ _ ah (@af _ _ _ _ _ _ ah (@af _ _ _ _ _ _ ah (@af _ _ _ _ _ _ ah (@af _ _ _ _ _ _ (@ax _ _ _ _ _ _ _ _ CA ah ah) ag z_) z_) z_) z_) z_)) (ae 2) (λ_ _=>rfl)) ag z_))))) z_ (by first | exact .inl rfl | exact .inr rfl)) (@aq _ _ _ (@aC _ _ _ _ (aL (l9 T) T.x__law_low hr (@af _ _ _ _ _ _ (ae 4) (@af _ _ _ _ _ _ (ae 3) ag z_) z_)))))))
  sD
theorem cN:aB xM ["_law_state","_law_ties","_law_kind"] (ao jk):=⟨rfl,rfl,rfl,y_,rfl,y_,y_⟩
theorem wj(T:Tx K mg ad fd):FnOk P w K mg base CX0 3 (ad 49) (fd 49) ["_law_state","_law_ties","_law_kind"] (spF K 3 iF) :=
 a7 (k:=2) T.x__law_rooms.f cN jH (λcdv A outer s H E hr=>(ai (az (i:=3) cN.nd rfl v6 (ay (bU (aN T) T.x__law_take hr 0 0 (bp 0 (af ah ag)))))
  (ai (az (i:=4) cN.nd rfl v6 (ay (bU (d3 T) T.x__law_amount hr 0 0 (bp 0 (af ah (af (ae 2) ag))))))
  (ai (bS (QK (dJ hr.units) (ae 3) ah (aO _)) (aq (az (i:=4) cN.nd rfl v6 (bT (af ah (af ah ag))))) aT)
  (ai (az (i:=5) cN.nd rfl v6 (bI (af (ae 4) ag)))
  (ai (hJ PassesOwn.never (QK tD (fS (yM 5 rfl T.z_len) (aI bB rfl T.z_len PySem.boot_len (af (ae 5) ag))) (ae 1) (aO _)) (ai (az (i:=6) cN.nd rfl v6 (ay (bU (d3 T) T.x__law_amount hr 0 0 (bp 0 (af ah (af (ae 2) ag))))))
  (aq (eX (d7 5 (au (bI (af (ae 4) (af (ae 6) ag))) (e8 t8 rfl T.z_int y_ (af (cA (dJ hr.units) (ae 3) ah (aO _)) ag)) (λ_ _=>rfl)))))))
  (aq (aC (cB 5)))))))))
  tP
theorem jV:aB zE ["_law_state","_law_shape","_law_places","_law_k"] (ao lz):=⟨rfl,rfl,rfl,y_,rfl,y_,y_⟩
theorem yk(T:Tx K mg ad fd):FnOk P w K mg base CX0 2 (ad 50) (fd 50) ["_law_state","_law_shape","_law_places","_law_k"] (spF K 4 jI) :=
 a7 (k:=1) T.x__law_ends.f jV lU (λcdv A outer s H E hr=>(ai (az (i:=4) jV.nd rfl v6 (ay (bU (aN T) T.x__law_take hr 0 0 (bp 0 (af (ae 2) ag)))))
  (ai (az (i:=5) jV.nd rfl v6 (ax de (ax bA (ax bA (ae 4) ah) (bU (aN T) T.x__law_take hr 0 0 (bp 0 (af (ax iT (ae 2) ah) ag)))) (ae 2)))
  (ai (bS (QK (dJ hr.units) (ae 1) ah (aO _)) (aq (aC (bT (af (ax de (ae 3) (ae 2)) (af (ax de (ax bA (ae 3) (ax i7 (ae 2) ah)) (ae 2)) ag))))) aT)
  (ai (bS (QK (dJ hr.units) (ae 1) ah (aO _)) (aq (aC (bT (af (ay (ax aU (ax de (ae 3) ah) (ax iT (ae 2) ah))) (af (ay (ax aU (ax iT ah (ax de (ae 3) ah)) (ax iT (ae 2) ah))) ag))))) aT)
  (ai (bS (QK (dJ hr.units) (ae 1) ah (aO _)) (aq (aC (bT (af ah (af (ay (ax bA ah (ax de (ae 5) (ax iT (ae 2) ah)))) ag))))) aT)
  (aq (aC (bT (af (ae 4) (af (ae 5) ag)))))))))))
  vX
theorem bc:aB zF ["_law_script","_law_at","_law_most","_law_count"] (ao lA):=⟨rfl,rfl,rfl,y_,rfl,y_,y_⟩
theorem yl(T:Tx K mg ad fd):FnOk P w K mg base CX0 4 (ad 51) (fd 51) ["_law_script","_law_at","_law_most","_law_count"] (spF K 4 jJ) :=
 a7 (k:=3) T.x__law_ring.f bc lV (λcdv A outer s H E hr=>by exact(@ai _ _ _ _ _ (@az _ _ _ 4 _ _ _ bc.nd rfl v6 (aL (dC T) T.x__law_begun hr (@af _ _ _ _ _ _ (ae 0) (@af _ _ _ _ _ _ (ae 1) ag z_) z_)) z_ (by first | exact .inl rfl | exact .inr rfl)) (@ai _ _ _ _ _ (@az _ _ _ 5 _ _ _ bc.nd rfl v6 (@ay _ _ _ (@ax _ _ _ _ _ _ _ _ bA ah (bU (aN T) T.x__law_take hr 0 4 (bp 4 (@af _ _ _ _ _ _ (@ax _ _ _ _ _ _ _ _ iT (ae 2) ah) ag z_))))) z_ (by first | exact .inl rfl | exact .inr rfl)) (@ai _ _ _ _ _ (@az _ _ _ 6 _ _ _ bc.nd rfl v6 (@ay _ _ _ (bU (aN T) T.x__law_take hr 0 4 (bp 4 (@af _ _ _ _ _ _ (@ay _ _ _ (@ax _ _ _ _ _ _ _ _ bA (ae 3) ah)) ag z_)))) z_ (by first | exact .inl rfl | exact .inr rfl)) (@ai _ _ _ _ _ (@az _ _ _ 7 _ _ _ bc.nd rfl v6 (@ay _ _ _ (@bI _ _ _ _ _ (@af _ _ _ _ _ _ (@ay _ _ _ (bU (aN T) T.x__law_take hr 0 4 (bp 4 (@af _ _ _ _ _ _ ah ag z_)))) (@af _ _ _ _ _ _ (@ay _ _ _ (bU (aN T) T.x__law_take hr 0 4 (bp 4 (@af _ _ _ _ _ _ ah ag z_)))) ag z_) z_))) z_ (by first | exact .inl rfl | exact .inr rfl)) (@ai _ _ _ _ _ (@az _ _ _ 8 _ _ _ bc.nd rfl v6 (@ay _ _ _ (bU (aN T) T.x__law_take hr 0 4 (bp 4 (@af _ _ _ _ _ _ ah ag z_)))) z_ (by first | exact .inl rfl | exact .inr rfl)) (@ai _ _ _ _ _ (@az _ _ _ 9 _ _ _ bc.nd rfl v6 (@ay _ _ _ (bU (wg T) T.x__law_names hr 0 4 (bp 4 (@af _ _ _ _ _ _ (ae 6) ag z_)))) z_ (by first | exact .inl rfl | exact .inr rfl)) (@ai _ _ _ _ _ (@az _ _ _ 10 _ _ _ bc.nd rfl v6 (@ay _ _ _ (aL (wj T) T.x__law_rooms hr (@af _ _ _ _ _ _ (aL (dC T) T.x__law_begun hr (@af _ _ _ _ _ _ (ae 0) (@af _ _ _ _ _ _ (@ay _ _ _ (@ax _ _ _ _ _ _ _ _ bA (ae 1) ah)) ag z_) z_)) (@af _ _ _ _ _ _ (ae 5) (@af _ _ _ _ _ _ (@au _ _ _ _ _ _ (ae 7) ah (λ_ _=>rfl)) ag z_) z_) z_))) z_ (by first | exact .inl rfl | exact .inr rfl)) (@ai _ _ _ _ _ (@az _ _ _ 4 _ _ _ bc.nd rfl v6 (aL (dC T) T.x__law_begun hr (@af _ _ _ _ _ _ (ae 0) (@af _ _ _ _ _ _ (@ay _ _ _ (@ax _ _ _ _ _ _ _ _ bA (ae 1) ah)) ag z_) z_)) z_ (by first | exact .inl rfl | exact .inr rfl)) (@ai _ _ _ _ _ (@az _ _ _ 11 _ _ _ bc.nd rfl v6 (@bI _ _ _ _ _ ag) z_ (by first | exact .inl rfl | exact .inr rfl)) (@ai _ _ _ _ _ (dc PassesOwn.never rfl (cq rfl T.z_range (ae 6)) (cY (i:=12) bc.nd rfl v6) (@ai _ _ _ _ _ (IW (wM rfl (cT (i:=13) bc.nd rfl v6 (cT (i:=14) bc.nd rfl v6 qN))) (bU (yk T) T.x__law_ends hr 0 4 (bp 4 (@af _ _ _ _ _ _ (ae 8) (@af _ _ _ _ _ _ (ae 5) (@af _ _ _ _ _ _ (ae 12) ag z_) z_) z_)))) (@aq _ _ _ (eX (d7 11 (@bT _ _ _ _ _ _ (@af _ _ _ _ _ _ (@au _ _ _ _ _ _ (ae 9) (ae 12) (λ_ _=>rfl)) (@af _ _ _ _ _ _ (ae 13) (@af _ _ _ _ _ _ (ae 14) (@af _ _ _ _ _ _ (@ay _ _ _ (bU (d3 T) T.x__law_amount hr 0 4 (bp 4 (@af _ _ _ _ _ _ ah (@af _ _ _ _ _ _ (@au _ _ _ _ _ _ (ae 7) ah (λ_ _=>rfl)) ag z_) z_)))) ag z_) z_) z_) z_))))))) (@aq _ _ _ (@aC _ _ _ _ (@bT _ _ _ _ _ _ (@af _ _ _ _ _ _ (ae 10) (@af _ _ _ _ _ _ (ae 11) ag z_) z_)))))))))))))))
  vY
theorem cO:aB Ej ["_law_ring_here"] (ao rM):=⟨rfl,rfl,rfl,y_,rfl,y_,y_⟩
theorem B1(T:Tx K mg ad fd):FnOk P w K mg base CX0 1 (ad 52) (fd 52) ["_law_ring_here"] (spF K 1 oS) :=
 a7 (k:=0) T.x__law_on.f cO sF (λcdv A outer s H E hr=>(ai (az (i:=1) cO.nd rfl v6 (bI ag))
  (ai (dc PassesOwn.never rfl (bo (au (ae 0) ah (λ_ _=>rfl))) (wM rfl (cT (i:=2) cO.nd rfl v6 (cT (i:=3) cO.nd rfl v6 (cT (i:=4) cO.nd rfl v6 (cT (i:=5) cO.nd rfl v6 qN))))) (ai (az (i:=6) cO.nd rfl v6 (bI ag))
  (ai (az (i:=7) cO.nd rfl v6 (ae 3))
  (ai (hJ PassesOwn.never (QK (p5 hr.units) (ae 7) (ae 4) (aO _)) (ai (eX (d7 6 (ae 7)))
  (aq (az (i:=7) cO.nd rfl v6 (ax de (ax bA (ae 7) ah) (aI bB rfl T.z_len y_ (af (au (ae 0) ah (λ_ _=>rfl)) ag)))))))
  (aq (eX (d7 1 (ae 6))))))))
  (aq (aC (cB 1))))))
  zW
theorem bO:aB mW ["_law_some"] (ao eS):=⟨rfl,rfl,rfl,y_,rfl,y_,y_⟩
theorem tU(T:Tx K mg ad fd):FnOk P w K mg base CX0 1 (ad 53) (fd 53) ["_law_some"] (spF K 1 gD) :=
 a7 (k:=0) T.x__law_wholes.f bO iH (λcdv A outer s H E hr=>(ai (az (i:=1) bO.nd rfl v6 ah)
  (ai (dc PassesOwn.never rfl (bo (ae 0)) (cY (i:=2) bO.nd rfl v6) (ai (az (i:=3) bO.nd rfl v6 (ae 1))
  (ai (az (i:=4) bO.nd rfl v6 (au (ae 2) ah (λ_ _=>rfl)))
  (ai (hJ PassesOwn.never (QK (p5 hr.units) (ae 4) ah (aO _)) (aq (HI (i:=3) (j:=4) rfl bO.nd rfl rfl xp rfl rfl (ae 4) (ax de (ae 3) (ae 4)) rfl)))
  (aq (az (i:=1) bO.nd rfl v6 (ay (ax aU (ax i7 (ae 1) (ae 3)) (au (ae 2) ah (λ_ _=>rfl))))))))))
  (aq (aC (bT (af (ay (bC (sc:=(ao eS)) (N:=mW) (Nt:=["_law_part"]) (Nf:=["_law_bottom"]) (fi:=[1]) rfl rfl rfl (bo (ae 0)) rfl y_ y_ y_ xp rfl y_ xp (λ_ _ _ _=>(bu xp (show((["_law_part"]:List Str)++(["_law_bottom"]:List Str)).Nodup by decide +kernel) rfl (Or.inl rfl))) (λ_ _ _ _=>bg) (λ_ _ _ _=>(ax aU (au (ae 0) ah (λ_ _=>rfl)) (ax i7 (ae 1) (au (ae 0) ah (λ_ _=>rfl))))))) (af (ae 1) ag))))))))
  sG
theorem dX:aB BO ["_law_ring_here","_law_loads_here","_law_bottom"] (ao oF):=⟨rfl,rfl,rfl,y_,rfl,y_,y_⟩
theorem sS(T:Tx K mg ad fd):FnOk P w K mg base CX0 2 (ad 54) (fd 54) ["_law_ring_here","_law_loads_here","_law_bottom"] (spF K 3 iI) :=
 a7 (k:=1) T.x__law_top.f dX oT (λcdv A outer s H E hr=>(ai (az (i:=3) dX.nd rfl v6 (bT (af ah (af ah ag))))
  (ai (dc PassesOwn.never rfl (cq rfl T.z_range (aI bB rfl T.z_len y_ (af (ae 1) ag))) (cY (i:=4) dX.nd rfl v6) (ai (az (i:=5) dX.nd rfl v6 (au (au (ae 0) ah (λ_ _=>rfl)) (ae 4) (λ_ _=>rfl)))
  (ai (az (i:=6) dX.nd rfl v6 (bT (af (ay (ax aU (au (ae 1) (ae 4) (λ_ _=>rfl)) (au (ae 5) ah (λ_ _=>rfl)))) (af (ay (ax aU (ae 2) (au (ae 5) ah (λ_ _=>rfl)))) ag))))
  (aq (bS (QK tD (ax aU (au (ae 3) ah (λ_ _=>rfl)) (au (ae 6) ah (λ_ _=>rfl))) (ax aU (au (ae 6) ah (λ_ _=>rfl)) (au (ae 3) ah (λ_ _=>rfl))) (aO _)) (aq (az (i:=3) dX.nd rfl v6 (ae 6))) aT)))))
  (aq (aC (aL (l9 T) T.x__law_low hr (af (au (ae 3) ah (λ_ _=>rfl)) (af (au (ae 3) ah (λ_ _=>rfl)) ag))))))))
  xY
theorem eU:aB pC ["_law_ring_here","_law_on_here","_law_sizes","_law_ways"] (ao fY):=⟨rfl,rfl,rfl,y_,rfl,y_,y_⟩
theorem iO(T:Tx K mg ad fd):FnOk P w K mg base CX0 1 (ad 55) (fd 55) ["_law_ring_here","_law_on_here","_law_sizes","_law_ways"] (spF K 4 dB) :=
 a7 (k:=0) T.x__law_loads.f eU jM (λcdv A outer s H E hr=>(ai (k9 eU.nd (j:=4) rfl v6 (sc:=(ao fY)) (N:=pC) (Nt:=["_law_room"]) (Nf:=[]) (fi:=[]) rfl rfl rfl (bo (au (ae 0) ah (λ_ _=>rfl))) rfl y_ y_ y_ xp rfl y_ xp (λ_ _ _ _=>(bu xp (show((["_law_room"]:List Str)++([]:List Str)).Nodup by decide +kernel) rfl (Or.inl rfl))) (λ_ _ _ _=>bg) (λ_ _ _ _=>ah))
  (ai (dc PassesOwn.never rfl (cq rfl T.z_range (aI bB rfl T.z_len y_ (af (ae 3) ag))) (cY (i:=5) eU.nd rfl v6) (aq (dc PassesOwn.never rfl (cq rfl T.z_range (fS (yM 4 rfl T.z_len) (aI bB rfl T.z_len PySem.boot_len (af (ae 4) ag)))) (cY (i:=6) eU.nd rfl v6) (aq (bS (QK (dJ hr.units) (cA IX (ae 6) (au (ae 1) (ae 5) (λ_ _=>rfl)) rfl) (cA (dJ hr.units) (au (ae 3) (ae 5) (λ_ _=>rfl)) dG (aO _)) (aO _)) (aq (qQ 4 (ae 6) (ax bA (fS (i8 4 (ae 6) (λ_ _=>rfl)) (au (ae 4) (ae 6) (λ_ _=>rfl))) (au (ae 2) (ae 5) (λ_ _=>rfl))))) aT)))))
  (aq (aC (cB 4))))))
  tQ
theorem cX:aB fj ["_law_many"] (ao cH):=⟨rfl,rfl,rfl,y_,rfl,y_,y_⟩
theorem eQ(T:Tx K mg ad fd):FnOk P w K mg base CX0 1 (ad 56) (fd 56) ["_law_many"] (spF K 1 cg) :=
 a7 (k:=0) T.x__law_all_ways.f cX fH (λcdv A outer s H E hr=>(ai (az (i:=1) cX.nd rfl v6 (bI (af (ay (bI ag)) ag)))
  (ai (dc PassesOwn.never rfl (cq rfl T.z_range (ae 0)) (cY (i:=2) cX.nd rfl v6) (aq (az (i:=1) cX.nd rfl v6 (ax bA (bC (sc:=(ao cH)) (N:=fj) (Nt:=["_law_ways"]) (Nf:=[]) (fi:=[]) rfl rfl rfl (bo (ae 1)) rfl y_ y_ y_ xp rfl y_ xp (λ_ _ _ _=>(bu xp (show((["_law_ways"]:List Str)++([]:List Str)).Nodup by decide +kernel) rfl (Or.inl rfl))) (λ_ _ _ _=>bg) (λ_ _ _ _=>(ax bA (ae 0) (bI (af dG ag))))) (bC (sc:=(ao cH)) (N:=fj) (Nt:=["_law_ways"]) (Nf:=[]) (fi:=[]) rfl rfl rfl (bo (ae 1)) rfl y_ y_ y_ xp rfl y_ xp (λ_ _ _ _=>(bu xp (show((["_law_ways"]:List Str)++([]:List Str)).Nodup by decide +kernel) rfl (Or.inl rfl))) (λ_ _ _ _=>bg) (λ_ _ _ _=>(ax bA (ae 0) (bI (af dG ag)))))))))
  (aq (aC (cB 1))))))
  oU
theorem bh:aB lB ["_law_state","_law_ring_here","_law_on_here","_law_wholes_here"] (ao fk):=⟨rfl,rfl,rfl,y_,rfl,y_,y_⟩
theorem ym(T:Tx K mg ad fd):FnOk P w K mg base CX0 3 (ad 57) (fd 57) ["_law_state","_law_ring_here","_law_on_here","_law_wholes_here"] (spF K 4 jN) :=
 a7 (k:=2) T.x__law_wish.f bh lX (λcdv A outer s H E hr=>by exact(@ai _ _ _ _ _ (@az _ _ _ 4 _ _ _ bh.nd rfl v6 (@ay _ _ _ (aI bB rfl T.z_len y_ (@af _ _ _ _ _ _ (@au _ _ _ _ _ _ (ae 1) ah (λ_ _=>rfl)) ag z_))) z_ (by first | exact .inl rfl | exact .inr rfl)) (@ai _ _ _ _ _ (k9 bh.nd (j:=5) rfl v6 (sc:=(ao fk)) (N:=lB) (Nt:=[ "_law_ways" ]) (Nf:=[ "_law_ring_here" ,"_law_on_here" ,"_law_wholes_here" ]) (fi:=[1,2,3]) rfl rfl rfl (bo (aL (eQ T) T.x__law_all_ways hr (@af _ _ _ _ _ _ (ae 4) ag z_))) rfl y_ y_ y_ xp rfl y_ xp (λ_ _ _ _=>(bu xp (show(([ "_law_ways" ]:List Str)++([ "_law_ring_here" ,"_law_on_here" ,"_law_wholes_here" ]:List Str)).Nodup by decide +kernel) rfl (Or.inl rfl))) (λ_ _ _ _=>bg) (λ_ _ _ _=>(aL (sS T) T.x__law_top hr (@af _ _ _ _ _ _ (ae 1) (@af _ _ _ _ _ _ (@ay _ _ _ (aL (iO T) T.x__law_loads hr (@af _ _ _ _ _ _ (ae 1) (@af _ _ _ _ _ _ (ae 2) (@af _ _ _ _ _ _ (@au _ _ _ _ _ _ (ae 3) ah (λ_ _=>rfl)) (@af _ _ _ _ _ _ (ae 0) ag z_) z_) z_) z_))) (@af _ _ _ _ _ _ (@au _ _ _ _ _ _ (ae 3) ah (λ_ _=>rfl)) ag z_) z_) z_)))) (@ai _ _ _ _ _ (@az _ _ _ 6 _ _ _ bh.nd rfl v6 (@au _ _ _ _ _ _ (ae 5) ah (λ_ _=>rfl)) z_ (by first | exact .inl rfl | exact .inr rfl)) (@ai _ _ _ _ _ (dc PassesOwn.never rfl (bo (ae 5)) (cY (i:=7) bh.nd rfl v6) (@aq _ _ _ (@bS _ _ _ _ _ _ _ _ (QK tD (@ax _ _ _ _ _ _ _ _ aU (@au _ _ _ _ _ _ (ae 7) ah (λ_ _=>rfl)) (@au _ _ _ _ _ _ (ae 6) ah (λ_ _=>rfl))) (@ax _ _ _ _ _ _ _ _ aU (@au _ _ _ _ _ _ (ae 6) ah (λ_ _=>rfl)) (@au _ _ _ _ _ _ (ae 7) ah (λ_ _=>rfl))) (aO _)) (@aq _ _ _ (@az _ _ _ 6 _ _ _ bh.nd rfl v6 (ae 7) z_ (by first | exact .inl rfl | exact .inr rfl))) aT))) (@ai _ _ _ _ _ (@az _ _ _ 8 _ _ _ bh.nd rfl v6 (@ay _ _ _ (bU (aN T) T.x__law_take hr 0 0 (bp 0 (@af _ _ _ _ _ _ ah ag z_)))) z_ (by first | exact .inl rfl | exact .inr rfl)) (@ai _ _ _ _ _ (@az _ _ _ 9 _ _ _ bh.nd rfl v6 (cA (dJ hr.units) (bU (aN T) T.x__law_take hr 0 0 (bp 0 (@af _ _ _ _ _ _ ah ag z_))) ah (aO _)) z_ (by first | exact .inl rfl | exact .inr rfl)) (@ai _ _ _ _ _ (@az _ _ _ 7 _ _ _ bh.nd rfl v6 (@au _ _ _ _ _ _ (@bI _ _ _ _ _ (@af _ _ _ _ _ _ (ae 6) (@af _ _ _ _ _ _ (ae 6) (@af _ _ _ _ _ _ (@au _ _ _ _ _ _ (ae 5) (bU (aN T) T.x__law_take hr 0 0 (bp 0 (@af _ _ _ _ _ _ (@ay _ _ _ (aI bB rfl T.z_len y_ (@af _ _ _ _ _ _ (ae 5) ag z_))) ag z_))) (λ_ _=>rfl)) (@af _ _ _ _ _ _ (@ay _ _ _ (aL (l9 T) T.x__law_low hr (@af _ _ _ _ _ _ (@ay _ _ _ (@ax _ _ _ _ _ _ _ _ aU (@au _ _ _ _ _ _ (ae 6) ah (λ_ _=>rfl)) ah)) (@af _ _ _ _ _ _ (@ay _ _ _ (@ax _ _ _ _ _ _ _ _ aU (@au _ _ _ _ _ _ (ae 6) ah (λ_ _=>rfl)) ah)) ag z_) z_))) ag z_) z_) z_) z_)) (aI (HH rfl) rfl T.z_min y_ (@af _ _ _ _ _ _ (ae 8) (@af _ _ _ _ _ _ ah ag z_) z_)) (λ_ _=>rfl)) z_ (by first | exact .inl rfl | exact .inr rfl)) (@ai _ _ _ _ _ (@bS _ _ _ _ _ _ _ _ (QK (dJ hr.units) (ae 8) ah (aO _)) (@aq _ _ _ (@az _ _ _ 7 _ _ _ bh.nd rfl v6 (@ay _ _ _ (bU (d3 T) T.x__law_amount hr 0 0 (bp 0 (@af _ _ _ _ _ _ ah (@af _ _ _ _ _ _ ah ag z_) z_)))) z_ (by first | exact .inl rfl | exact .inr rfl))) aT) (@ai _ _ _ _ _ (k9 bh.nd (j:=10) rfl v6 (sc:=(ao fk)) (N:=lB) (Nt:=[ "_law_k" ]) (Nf:=[ "_law_state" ]) (fi:=[0]) rfl rfl rfl (cq rfl T.z_range (ae 4)) rfl y_ y_ y_ xp rfl y_ xp (λ_ _ _ _=>(bu xp (show(([ "_law_k" ]:List Str)++([ "_law_state" ]:List Str)).Nodup by decide +kernel) rfl (Or.inl rfl))) (λ_ _ _ _=>bg) (λ_ _ _ _=>(@au _ _ _ _ _ _ (@bI _ _ _ _ _ (@af _ _ _ _ _ _ dG (@af _ _ _ _ _ _ dG (@af _ _ _ _ _ _ iR ag z_) z_) z_)) (bU (aN T) T.x__law_take hr 0 1 (bp 1 (@af _ _ _ _ _ _ ah ag z_))) (λ_ _=>rfl)))) (@ai _ _ _ _ _ (@az _ _ _ 11 _ _ _ bh.nd rfl v6 (@ay _ _ _ (bU (aN T) T.x__law_take hr 0 0 (bp 0 (@af _ _ _ _ _ _ (@ay _ _ _ (@ax _ _ _ _ _ _ _ _ bA (ae 4) ah)) ag z_)))) z_ (by first | exact .inl rfl | exact .inr rfl)) (@aq _ _ _ (@aC _ _ _ _ (@bT _ _ _ _ _ _ (@af _ _ _ _ _ _ (ae 7) (@af _ _ _ _ _ _ (Lq (ae 9) (iS (cA (dJ hr.units) (ae 8) ah (aO _)))) (@af _ _ _ _ _ _ (ae 10) (@af _ _ _ _ _ _ (ae 11) ag z_) z_) z_) z_)))))))))))))))
  vZ
theorem dE:aB xN ["_law_ring_here","_law_on_here","_law_wholes_here"] (ao jm):=⟨rfl,rfl,rfl,y_,rfl,y_,y_⟩
theorem wk(T:Tx K mg ad fd):FnOk P w K mg base CX0 3 (ad 58) (fd 58) ["_law_ring_here","_law_on_here","_law_wholes_here"] (spF K 3 iK) :=
 a7 (k:=2) T.x__law_least.f dE jO (λcdv A outer s H E hr=>(ai (az (i:=3) dE.nd rfl v6 iR)
  (ai (dc PassesOwn.never rfl (bo (aL (eQ T) T.x__law_all_ways hr (af (ay (aI bB rfl T.z_len y_ (af (au (ae 0) ah (λ_ _=>rfl)) ag))) ag))) (cY (i:=4) dE.nd rfl v6) (ai (az (i:=5) dE.nd rfl v6 (ay (aL (sS T) T.x__law_top hr (af (ae 0) (af (ay (aL (iO T) T.x__law_loads hr (af (ae 0) (af (ae 1) (af (au (ae 2) ah (λ_ _=>rfl)) (af (ae 4) ag)))))) (af (au (ae 2) ah (λ_ _=>rfl)) ag))))))
  (aq (bS (QI.pb (pd (QK yP (ae 3) iR (aO _)) (kY (QK tD (ax aU (au (ae 5) ah (λ_ _=>rfl)) (au (ae 3) ah (λ_ _=>rfl))) (ax aU (au (ae 3) ah (λ_ _=>rfl)) (au (ae 5) ah (λ_ _=>rfl))) (aO _))))) (aq (az (i:=3) dE.nd rfl v6 (ae 5))) aT))))
  (aq (aC (cB 3))))))
  tR
theorem yn:aB lC ["_law_thing"] (ao fm):=⟨rfl,rfl,rfl,y_,rfl,y_,y_⟩
theorem iP(T:Tx K mg ad fd):∀ n,FnOk P w K mg base CX0 (1+n) (ad 59) (fd 59) ["_law_thing"] (spF K 1 (cM n))
 |0=>C6 xZ
 | n+1=>a7 (k:=1+n) T.x__law_copy.f yn (lY (cM n)) (λcdv A outer s H E hr=>(ai (bS (cf (kr Ap rfl T.z_isinstance rfl T.z_list y_ (ae 0))) (aq (aC (bC (sc:=(ao fm)) (N:=lC) (Nt:=["_law_one"]) (Nf:=[]) (fi:=[]) rfl rfl rfl (bo (ae 0)) rfl y_ y_ y_ xp rfl y_ xp (λ_ _ _ _=>(bu xp (show((["_law_one"]:List Str)++([]:List Str)).Nodup by decide +kernel) rfl (Or.inl rfl))) (λ_ _ _ _=>bg) (λ_ _ _ _=>(aL (iP T n) T.x__law_copy hr (af (ae 0) ag) (hk:=by omega)))))) aT)
  (ai (bS (cf (kr mD rfl T.z_isinstance rfl T.z_tuple y_ (ae 0))) (aq (aC (Ge (Gc (sc:=(ao fm)) (N:=lC) (Nt:=["_law_one"]) (Nf:=[]) (fi:=[]) rfl rfl rfl (bo (ae 0)) rfl y_ y_ y_ xp rfl y_ xp (λ_ _ _ _=>(bu xp (show((["_law_one"]:List Str)++([]:List Str)).Nodup by decide +kernel) rfl (Or.inl rfl))) (λ_ _ _ _=>bg) (λ_ _ _ _=>(aL (iP T n) T.x__law_copy hr (af (ae 0) ag) (hk:=by omega)))) rfl T.z_tuple))) aT)
  (aq (aC (cB 0))))))
  (v3 n)
theorem pV(T:Tx K mg ad fd):FnOk P w K mg base CX0 10 (ad 59) (fd 59) ["_law_thing"] (spF K 1 jP):=iP T 9
theorem cj:aB rN ["_law_ring_here","_law_loads_here","_law_bottom","_law_top_here","_law_strict"] (ao fo):=⟨rfl,rfl,rfl,y_,rfl,y_,y_⟩
theorem qq(T:Tx K mg ad fd):FnOk P w K mg base CX0 1 (ad 60) (fd 60) ["_law_ring_here","_law_loads_here","_law_bottom","_law_top_here","_law_strict"] (spF K 5 eO) :=
 a7 (k:=0) T.x__law_strained.f cj fJ (λcdv A outer s H E hr=>(ai (dc PassesOwn.never rfl (cq rfl T.z_range (aI bB rfl T.z_len y_ (af (ae 1) ag))) (cY (i:=5) cj.nd rfl v6) (ai (az (i:=6) cj.nd rfl v6 (au (au (ae 0) ah (λ_ _=>rfl)) (ae 5) (λ_ _=>rfl)))
  (ai (az (i:=7) cj.nd rfl v6 (ay (ax aU (ax aU (au (ae 1) (ae 5) (λ_ _=>rfl)) (au (ae 6) ah (λ_ _=>rfl))) (au (ae 3) ah (λ_ _=>rfl)))))
  (ai (az (i:=8) cj.nd rfl v6 (ay (ax aU (ax aU (au (ae 3) ah (λ_ _=>rfl)) (au (ae 6) ah (λ_ _=>rfl))) (ae 2))))
  (aq (bS (QI.pb (pd (QK yK (ae 7) (ae 8) (aO _)) (kY (QI.pb (uQ (cf (ae 4)) (qu (QK (dJ hr.units) (ae 7) (ae 8) (aO _)))))))) (aq (aC (cB 5))) aT))))))
  (aq (aC iR))))
  oV
theorem tV:aB mX ["_law_elder","_law_ways"] (ao eT):=⟨rfl,rfl,rfl,y_,rfl,y_,y_⟩
theorem tX(T:Tx K mg ad fd):FnOk P w K mg base CX0 1 (ad 61) (fd 61) ["_law_elder","_law_ways"] (spF K 2 gE) :=
 a7 (k:=0) T.x__law_turned.f tV iL (λcdv A outer s H E hr=>(aq (aC (bC (sc:=(ao eT)) (N:=mX) (Nt:=["_law_k"]) (Nf:=["_law_elder","_law_ways"]) (fi:=[0,1]) rfl rfl rfl (cq rfl T.z_range (aI bB rfl T.z_len y_ (af (ae 1) ag))) rfl y_ y_ y_ xp rfl y_ xp (λ_ _ _ _=>(bu xp (show((["_law_k"]:List Str)++(["_law_elder","_law_ways"]:List Str)).Nodup by decide +kernel) rfl (Or.inl rfl))) (λ_ _ _ _=>(yO (QI.pb (uQ (QK IX (au (ae 1) (ae 0) (λ_ _=>rfl)) (bT (af dG (af dG ag))) rfl) (qu (QK (p5 hr.units) (au (ae 1) (ae 0) (λ_ _=>rfl)) (au (ae 2) (ae 0) (λ_ _=>rfl)) (aO _))))))) (λ_ _ _ _=>(ae 0))))))
  sH
theorem pW:aB zG ["_law_ring_here","_law_on_here","_law_wholes_here","_law_wish_here","_law_ways"] (ao lD):=⟨rfl,rfl,rfl,y_,rfl,y_,y_⟩
theorem pX(T:Tx K mg ad fd):FnOk P w K mg base CX0 2 (ad 62) (fd 62) ["_law_ring_here","_law_on_here","_law_wholes_here","_law_wish_here","_law_ways"] (spF K 5 gi) :=
 a7 (k:=1) T.x__law_kept.f pW lZ (λcdv A outer s H E hr=>(ai (az (i:=5) pW.nd rfl v6 (ay (aL (iO T) T.x__law_loads hr (af (ae 0) (af (ae 1) (af (au (ae 2) ah (λ_ _=>rfl)) (af (ae 4) ag)))))))
  (ai (bS (QK uX (aL (qq T) T.x__law_strained hr (af (ae 0) (af (ae 5) (af (au (ae 2) ah (λ_ _=>rfl)) (af (au (ae 3) ah (λ_ _=>rfl)) (af (au (ae 3) ah (λ_ _=>rfl)) ag)))))) iR (aO _)) (aq (aC qJ)) aT)
  (aq (aC (cA IQ (aI bB rfl T.z_len y_ (af (ay (aL (tX T) T.x__law_turned hr (af (au (ae 3) ah (λ_ _=>rfl)) (af (ae 4) ag)))) ag)) (au (ae 3) ah (λ_ _=>rfl)) (aO _)))))))
  v5
theorem yo:aB zH ["_law_ring_here","_law_wish_here","_law_tree"] (ao lE):=⟨rfl,rfl,rfl,y_,rfl,y_,y_⟩
theorem yp(T:Tx K mg ad fd):FnOk P w K mg base CX0 7 (ad 63) (fd 63) ["_law_ring_here","_law_wish_here","_law_tree"] (spF K 3 jR) :=
 a7 (k:=6) T.x__law_lets.f yo l4 (λcdv A outer s H E hr=>(ai (Mb (λ_ _ z=>z) (aq (eX (aL (sQ T) T.x_look_at_tree hr (af (ae 0) (af (ae 1) (af (ae 2) ag)))))))
  (aq (aC qJ))))
  v7
theorem qr:aB jo ["_law_thing","_law_many"] (ao dk):=⟨rfl,rfl,rfl,y_,rfl,y_,y_⟩
theorem qt(T:Tx K mg ad fd):FnOk P w K mg base CX0 1 (ad 64) (fd 64) ["_law_thing","_law_many"] (spF K 2 eP) :=
 a7 (k:=0) T.x__law_are_ways.f qr fK (λcdv A outer s H E hr=>(ai (bS (QI.pb (pd (qK (cf (kr Ap rfl T.z_isinstance rfl T.z_list y_ (ae 0)))) (kY (QK (p5 hr.units) (aI bB rfl T.z_len y_ (af (ae 0) ag)) (ae 1) (aO _))))) (aq (aC qJ)) aT)
  (aq (aC (aI (LV rfl) rfl T.z_all y_ (af (ay (bC (sc:=(ao dk)) (N:=jo) (Nt:=["_law_way"]) (Nf:=[]) (fi:=[]) rfl rfl rfl (bo (ae 0)) rfl y_ y_ y_ xp rfl y_ xp (λ_ _ _ _=>(bu xp (show((["_law_way"]:List Str)++([]:List Str)).Nodup by decide +kernel) rfl (Or.inl rfl))) (λ_ _ _ _=>bg) (λ_ _ _ _=>(gL (kr CH rfl T.z_isinstance rfl T.z_str y_ (ae 0)) (iS (cA IX (ae 0) (bT (af dG (af dG ag))) rfl)))))) ag))))))
  oW
theorem yq:aB zJ ["_law_ring_here","_law_on_here","_law_wholes_here","_law_wish_here","_law_found","_law_keeps"] (ao lF):=⟨rfl,rfl,rfl,y_,rfl,y_,y_⟩
theorem pY(T:Tx K mg ad fd):FnOk P w K mg base CX0 8 (ad 65) (fd 65) ["_law_ring_here","_law_on_here","_law_wholes_here","_law_wish_here","_law_found","_law_keeps"] (spF K 6 gj) :=
 a7 (k:=7) T.x__law_good.f yq l5 (λcdv A outer s H E hr=>by exact(@ai _ _ _ _ _ (@bS _ _ _ _ _ _ _ _ (QI.pb (pd (qK (cf (kr mD rfl T.z_isinstance rfl T.z_tuple y_ (ae 4)))) (pd (QK (p5 hr.units) (aI bB rfl T.z_len y_ (@af _ _ _ _ _ _ (ae 4) ag z_)) ah (aO _)) (kY (QK (p5 hr.units) (@au _ _ _ _ _ _ (ae 4) ah (λ_ _=>rfl)) (@au _ _ _ _ _ _ (@bI _ _ _ _ _ (@af _ _ _ _ _ _ dG (@af _ _ _ _ _ _ dG ag z_) z_)) (e8 t8 rfl T.z_int y_ (@af _ _ _ _ _ _ (ae 5) ag z_)) (λ_ _=>rfl)) (aO _)))))) (@aq _ _ _ (@aC _ _ _ _ qJ)) aT) (@ai _ _ _ _ _ (@bS _ _ _ _ _ _ _ _ (qK (cf (ae 5))) (@aq _ _ _ (@aC _ _ _ _ (aL (yp T) T.x__law_lets hr (@af _ _ _ _ _ _ (ae 0) (@af _ _ _ _ _ _ (ae 3) (@af _ _ _ _ _ _ (@au _ _ _ _ _ _ (ae 4) ah (λ_ _=>rfl)) ag z_) z_) z_)))) aT) (@aq _ _ _ (@aC _ _ _ _ (gL (aL (qt T) T.x__law_are_ways hr (@af _ _ _ _ _ _ (@au _ _ _ _ _ _ (ae 4) ah (λ_ _=>rfl)) (@af _ _ _ _ _ _ (@ay _ _ _ (aI bB rfl T.z_len y_ (@af _ _ _ _ _ _ (@au _ _ _ _ _ _ (ae 0) ah (λ_ _=>rfl)) ag z_))) ag z_) z_)) (iS (aL (pX T) T.x__law_kept hr (@af _ _ _ _ _ _ (ae 0) (@af _ _ _ _ _ _ (ae 1) (@af _ _ _ _ _ _ (ae 2) (@af _ _ _ _ _ _ (ae 3) (@af _ _ _ _ _ _ (@au _ _ _ _ _ _ (ae 4) ah (λ_ _=>rfl)) ag z_) z_) z_) z_) z_)))))))))
  v8
theorem jW:aB Ki ["_law_script"] (ao BP):=⟨rfl,rfl,rfl,y_,rfl,y_,y_⟩
theorem MV(T:Tx K mg ad fd):FnOk P w K mg base CX0 17 (ad 66) (fd 66) ["_law_script"] (spF K 1 fs_law) :=
 a7 (k:=16) T.x_law.f jW Kp (λcdv A outer s H E hr=>by exact(@ai _ _ _ _ _ (@az _ _ _ 1 _ _ _ jW.nd rfl v6 (aL (dC T) T.x__law_begun hr (@af _ _ _ _ _ _ (ae 0) (@af _ _ _ _ _ _ ah ag z_) z_)) z_ (by first | exact .inl rfl | exact .inr rfl)) (@ai _ _ _ _ _ (@az _ _ _ 2 _ _ _ jW.nd rfl v6 (cA (dJ hr.units) (bU (aN T) T.x__law_take hr 0 1 (bp 1 (@af _ _ _ _ _ _ ah ag z_))) ah (aO _)) z_ (by first | exact .inl rfl | exact .inr rfl)) (@ai _ _ _ _ _ (@az _ _ _ 3 _ _ _ jW.nd rfl v6 (@ay _ _ _ (aL (yl T) T.x__law_ring hr (@af _ _ _ _ _ _ (ae 0) (@af _ _ _ _ _ _ ah (@af _ _ _ _ _ _ (@au _ _ _ _ _ _ (@bI _ _ _ _ _ (@af _ _ _ _ _ _ ah (@af _ _ _ _ _ _ ah ag z_) z_)) (e8 t8 rfl T.z_int y_ (@af _ _ _ _ _ _ (ae 2) ag z_)) (λ_ _=>rfl)) (@af _ _ _ _ _ _ (@au _ _ _ _ _ _ (@bI _ _ _ _ _ (@af _ _ _ _ _ _ ah (@af _ _ _ _ _ _ ah ag z_) z_)) (e8 t8 rfl T.z_int y_ (@af _ _ _ _ _ _ (ae 2) ag z_)) (λ_ _=>rfl)) ag z_) z_) z_) z_))) z_ (by first | exact .inl rfl | exact .inr rfl)) (@ai _ _ _ _ _ (@az _ _ _ 4 _ _ _ jW.nd rfl v6 (@ay _ _ _ (aL (B1 T) T.x__law_on hr (@af _ _ _ _ _ _ (ae 3) ag z_))) z_ (by first | exact .inl rfl | exact .inr rfl)) (@ai _ _ _ _ _ (@az _ _ _ 5 _ _ _ jW.nd rfl v6 (@ay _ _ _ (aL (tU T) T.x__law_wholes hr (@af _ _ _ _ _ _ (@ay _ _ _ (bC (sc:=(ao BP)) (N:=Ki) (Nt:=[ "_law_ask" ]) (Nf:=[]) (fi:=[]) rfl rfl rfl (bo (@au _ _ _ _ _ _ (ae 3) ah (λ_ _=>rfl))) rfl y_ y_ y_ xp rfl y_ xp (λ_ _ _ _=>(bu xp (show(([ "_law_ask" ]:List Str)++([]:List Str)).Nodup by decide +kernel) rfl (Or.inl rfl))) (λ_ _ _ _=>bg) (λ_ _ _ _=>(@au _ _ _ _ _ _ (ae 0) ah (λ_ _=>rfl))))) ag z_))) z_ (by first | exact .inl rfl | exact .inr rfl)) (@ai _ _ _ _ _ (@bS _ _ _ _ _ _ _ _ (QI.pb (uQ (cf (ae 2)) (qu (QK (dJ hr.units) (bU (aN T) T.x__law_take hr 0 1 (bp 1 (@af _ _ _ _ _ _ ah ag z_))) ah (aO _))))) (@aq _ _ _ (@aC _ _ _ _ (cA (dJ hr.units) (@au _ _ _ _ _ _ (aL (yj T) T.x_best_ways hr (@af _ _ _ _ _ _ (ae 3) ag z_)) ah (λ_ _=>rfl)) (aL (wk T) T.x__law_least hr (@af _ _ _ _ _ _ (ae 3) (@af _ _ _ _ _ _ (ae 4) (@af _ _ _ _ _ _ (ae 5) ag z_) z_) z_)) (aO _)))) aT) (@ai _ _ _ _ _ (dc PassesOwn.never rfl (Am rfl T.z_range ah (@au _ _ _ _ _ _ (@bI _ _ _ _ _ (@af _ _ _ _ _ _ (@ay _ _ _ (aI (Ly rfl) rfl T.z_max y_ (@af _ _ _ _ _ _ ah (@af _ _ _ _ _ _ (@ay _ _ _ (aI (HH rfl) rfl T.z_min y_ (@af _ _ _ _ _ _ (@ay _ _ _ (aI bB rfl T.z_len y_ (@af _ _ _ _ _ _ (ae 0) ag z_))) (@af _ _ _ _ _ _ ah ag z_) z_))) ag z_) z_))) (@af _ _ _ _ _ _ ah ag z_) z_)) (e8 t8 rfl T.z_int y_ (@af _ _ _ _ _ _ (ae 2) ag z_)) (λ_ _=>rfl))) (cY (i:=6) jW.nd rfl v6) (@ai _ _ _ _ _ (@az _ _ _ 7 _ _ _ jW.nd rfl v6 (@ay _ _ _ (aL (ym T) T.x__law_wish hr (@af _ _ _ _ _ _ (aL (dC T) T.x__law_begun hr (@af _ _ _ _ _ _ (ae 0) (@af _ _ _ _ _ _ (ae 6) ag z_) z_)) (@af _ _ _ _ _ _ (ae 3) (@af _ _ _ _ _ _ (ae 4) (@af _ _ _ _ _ _ (ae 5) ag z_) z_) z_) z_))) z_ (by first | exact .inl rfl | exact .inr rfl)) (@ai _ _ _ _ _ (@az _ _ _ 8 _ _ _ jW.nd rfl v6 (@ay _ _ _ (aI (LW rfl) rfl T.z_any y_ (@af _ _ _ _ _ _ (@ay _ _ _ (bC (sc:=(ao BP)) (N:=Ki) (Nt:=[ "_law_ways" ]) (Nf:=[ "_law_ring_here" ,"_law_on_here" ,"_law_wholes_here" ,"_law_wish_here" ]) (fi:=[3,4,5,7]) rfl rfl rfl (bo (aL (eQ T) T.x__law_all_ways hr (@af _ _ _ _ _ _ (@ay _ _ _ (aI bB rfl T.z_len y_ (@af _ _ _ _ _ _ (@au _ _ _ _ _ _ (ae 3) ah (λ_ _=>rfl)) ag z_))) ag z_))) rfl y_ y_ y_ xp rfl y_ xp (λ_ _ _ _=>(bu xp (show(([ "_law_ways" ]:List Str)++([ "_law_ring_here" ,"_law_on_here" ,"_law_wholes_here" ,"_law_wish_here" ]:List Str)).Nodup by decide +kernel) rfl (Or.inl rfl))) (λ_ _ _ _=>bg) (λ_ _ _ _=>(aL (pX T) T.x__law_kept hr (@af _ _ _ _ _ _ (ae 1) (@af _ _ _ _ _ _ (ae 2) (@af _ _ _ _ _ _ (ae 3) (@af _ _ _ _ _ _ (ae 4) (@af _ _ _ _ _ _ (ae 0) ag z_) z_) z_) z_) z_))))) ag z_))) z_ (by first | exact .inl rfl | exact .inr rfl)) (@ai _ _ _ _ _ (@az _ _ _ 9 _ _ _ jW.nd rfl v6 (@ay _ _ _ (@bI _ _ _ _ _ (@af _ _ _ _ _ _ (@ay _ _ _ (aL (pV T) T.x__law_copy hr (@af _ _ _ _ _ _ (ae 3) ag z_))) (@af _ _ _ _ _ _ (@ay _ _ _ (aL (pV T) T.x__law_copy hr (@af _ _ _ _ _ _ (ae 7) ag z_))) ag z_) z_))) z_ (by first | exact .inl rfl | exact .inr rfl)) (@ai _ _ _ _ _ (@az _ _ _ 10 _ _ _ jW.nd rfl v6 (aL (l8 T) T.x_ways_for hr (@af _ _ _ _ _ _ (@au _ _ _ _ _ _ (ae 9) ah (λ_ _=>rfl)) (@af _ _ _ _ _ _ (@au _ _ _ _ _ _ (ae 9) ah (λ_ _=>rfl)) ag z_) z_)) z_ (by first | exact .inl rfl | exact .inr rfl)) (@ai _ _ _ _ _ (@bS _ _ _ _ _ _ _ _ (QI.pb (pd (qK (cf (oi 10 (aL (pY T) T.x__law_good hr (@af _ _ _ _ _ _ (ae 3) (@af _ _ _ _ _ _ (ae 4) (@af _ _ _ _ _ _ (ae 5) (@af _ _ _ _ _ _ (ae 7) (@af _ _ _ _ _ _ (ae 10) (@af _ _ _ _ _ _ (ae 8) ag z_) z_) z_) z_) z_) z_))))) (kY (QK (p5 hr.units) (ae 9) (@bI _ _ _ _ _ (@af _ _ _ _ _ _ (ae 3) (@af _ _ _ _ _ _ (ae 7) ag z_) z_)) (aO _))))) (@aq _ _ _ (@aC _ _ _ _ qJ)) aT) (@aq _ _ _ (@bS _ _ _ _ _ _ _ _ (cf (ae 8)) (@ai _ _ _ _ _ (eX (FZ 10 ah dG (λ_ _=>rfl))) (@ai _ _ _ _ _ (@bS _ _ _ _ _ _ _ _ (QK (p5 hr.units) (ae 9) (@bI _ _ _ _ _ (@af _ _ _ _ _ _ (ae 3) (@af _ _ _ _ _ _ (ae 7) ag z_) z_)) (aO _)) (@aq _ _ _ (@aC _ _ _ _ qJ)) aT) (@aq _ _ _ (@bS _ _ _ _ _ _ _ _ (qK (cf (aL (pY T) T.x__law_good hr (@af _ _ _ _ _ _ (ae 3) (@af _ _ _ _ _ _ (ae 4) (@af _ _ _ _ _ _ (ae 5) (@af _ _ _ _ _ _ (ae 7) (@af _ _ _ _ _ _ (@ay _ _ _ (aL (l8 T) T.x_ways_for hr (@af _ _ _ _ _ _ (ae 3) (@af _ _ _ _ _ _ (ae 7) ag z_) z_))) (@af _ _ _ _ _ _ (ae 8) ag z_) z_) z_) z_) z_) z_)))) (@aq _ _ _ (@aC _ _ _ _ qJ)) aT)))) aT)))))))) (@aq _ _ _ (@aC _ _ _ _ qJ))))))))))
  Ku
end
noncomputable def Ub(i:Nat):Addr:=([21,28,35,42,49,56,127,134,141,148,155,162,169,176,183,190,195,207,212,200,219,226,233,238,243,248,255,260,267,272,279,286,293,322,317,312,305,298,344,337,332,327,349,354,361,368,387,375,382,394,401,408,420,413,439,425,449,454,475,485,432,444,461,468,480,492,497]:List Addr).getD i 0
noncomputable abbrev Uc:Value:=(.str "ringloads.divisors" 187)
noncomputable abbrev Ud:Value:=(.str "ringloads.names" 206)
noncomputable abbrev Ue:Value:=(.str "ringloads.ratios" 324)
noncomputable abbrev Ug:Value:=(.str "ringloads.cuts" 387)
noncomputable abbrev Uh:Value:=(.str "ringloads.units" 420)
noncomputable abbrev Ui:Value:=(.str "ringloads.ways" 443)
noncomputable abbrev Uj:Value:=(.str "ringloads.loads" 470)
noncomputable abbrev Uk:Value:=(.str "ringloads.sendings" 512)
noncomputable abbrev Ul:Value:=(.str "ringloads.wishes" 528)
noncomputable abbrev Um:Value:=(.str "ringloads.trees" 553)
noncomputable abbrev HV:Value:=(.str "ringloads.search" 609)
noncomputable abbrev Nm:Value:=(.str "ringloads.best" 643)
noncomputable abbrev fM:Value:=(.str "law_ringloads_k48_ways_for_a_wish" 657)
noncomputable def Uo(i:Nat):FuncData:=[Q9 "greatest_shared" dO Uc 20,Q9 "least_common" gp Uc 27,Q9 "is_whole" oB Ud 34,Q9 "is_number_below" dP Ud 41,Q9 "are_two_wholes" eI Ud 48,Q9 "is_told_as" jf Ud 55,Q9 "lowest" vw Ue 126,Q9 "plus" Eg Ue 133,Q9 "minus" zt Ue 140,Q9 "times" zu Ue 147,Q9 "over" Eh Ue 154,Q9 "under" zw Ue 161,Q9 "sum_of" vx Ue 168,Q9 "is_cut" vz Ug 175,Q9 "is_within" lj Ug 182,Q9 "parts_places" gq Ug 189,Q9 "all_cuts" j7 Ug 194,Q9 "common_bottom" fg Uh 206,Q9 "in_units" j8 Uh 211,Q9 "weighed" jg Uh 199,Q9 "other_way" lp Ui 218,Q9 "is_over" rJ Ui 225,Q9 "sent_over" lq Uj 232,Q9 "load_of" mT Uj 237,Q9 "loads_of" j9 Uj 242,Q9 "strains_of" fW Uj 247,Q9 "top_of" vA Uj 254,Q9 "sent_by" mU Uk 259,Q9 "top_by" vB Uk 266,Q9 "turned_by" ik Ul 271,Q9 "is_too_much" ip Ul 278,Q9 "are_too_many" gu Ul 285,Q9 "is_split" oD Um 292,Q9 "times_over" fX Um 321,Q9 "is_too_full" eR Um 316,Q9 "can_stand" lr Um 311,Q9 "branch_of" lu Um 304,Q9 "look_at_tree" dY Um 297,Q9 "reason_against" eK HV 343,Q9 "searched" ka HV 336,Q9 "bounds_of" fh HV 331,Q9 "ways_for" kc HV 326,Q9 "wish_for_less" dj Nm 348,Q9 "best_ways" iq Nm 353,Q9 "_law_begun" ji fM 360,Q9 "_law_take" ly fM 367,Q9 "_law_names" ee fM 386,Q9 "_law_low" oE fM 374,Q9 "_law_amount" ir fM 381,Q9 "_law_rooms" jk fM 393,Q9 "_law_ends" lz fM 400,Q9 "_law_ring" lA fM 407,Q9 "_law_on" rM fM 419,Q9 "_law_wholes" eS fM 412,Q9 "_law_top" oF fM 438,Q9 "_law_loads" fY fM 424,Q9 "_law_all_ways" cH fM 448,Q9 "_law_wish" fk fM 453,Q9 "_law_least" jm fM 474,Q9 "_law_copy" fm fM 484,Q9 "_law_strained" fo fM 431,Q9 "_law_turned" eT fM 443,Q9 "_law_kept" lD fM 460,Q9 "_law_lets" lE fM 467,Q9 "_law_are_ways" dk fM 479,Q9 "_law_good" lF fM 491,Q9 "law" BP fM 496].getD i (Q9 "law" BP Uc 0)
theorem tx{Pm:Params}{h:Heap}{mg:Str->Option Value}(X:(Hd.Kf Pm).In h)(G:h.Ns mainGlobals mg):Tx (Hd.Kf Pm) mg Ub Uo where
 x_greatest_shared:=FX.mk' X G (a:=21) (c:=20) (md:=Uc) z_ z_ z_ z_ λ_ _ _ _ _ _ u l=>match u,l with | [_,_],_=>rfl
 x_least_common:=FX.mk' X G (a:=28) (c:=27) (md:=Uc) z_ z_ z_ z_ λ_ _ _ _ _ _ u l=>match u,l with | [_,_],_=>rfl
 x_is_whole:=FX.mk' X G (a:=35) (c:=34) (md:=Ud) z_ z_ z_ z_ λ_ _ _ _ _ _ u l=>match u,l with | [_],_=>rfl
 x_is_number_below:=FX.mk' X G (a:=42) (c:=41) (md:=Ud) z_ z_ z_ z_ λ_ _ _ _ _ _ u l=>match u,l with | [_,_],_=>rfl
 x_are_two_wholes:=FX.mk' X G (a:=49) (c:=48) (md:=Ud) z_ z_ z_ z_ λ_ _ _ _ _ _ u l=>match u,l with | [_],_=>rfl
 x_is_told_as:=FX.mk' X G (a:=56) (c:=55) (md:=Ud) z_ z_ z_ z_ λ_ _ _ _ _ _ u l=>match u,l with | [_,_,_],_=>rfl
 x_lowest:=FX.mk' X G (a:=127) (c:=126) (md:=Ue) z_ z_ z_ z_ λ_ _ _ _ _ _ u l=>match u,l with | [_,_],_=>rfl
 x_plus:=FX.mk' X G (a:=134) (c:=133) (md:=Ue) z_ z_ z_ z_ λ_ _ _ _ _ _ u l=>match u,l with | [_,_],_=>rfl
 x_minus:=FX.mk' X G (a:=141) (c:=140) (md:=Ue) z_ z_ z_ z_ λ_ _ _ _ _ _ u l=>match u,l with | [_,_],_=>rfl
 x_times:=FX.mk' X G (a:=148) (c:=147) (md:=Ue) z_ z_ z_ z_ λ_ _ _ _ _ _ u l=>match u,l with | [_,_],_=>rfl
 x_over:=FX.mk' X G (a:=155) (c:=154) (md:=Ue) z_ z_ z_ z_ λ_ _ _ _ _ _ u l=>match u,l with | [_,_],_=>rfl
 x_under:=FX.mk' X G (a:=162) (c:=161) (md:=Ue) z_ z_ z_ z_ λ_ _ _ _ _ _ u l=>match u,l with | [_,_],_=>rfl
 x_sum_of:=FX.mk' X G (a:=169) (c:=168) (md:=Ue) z_ z_ z_ z_ λ_ _ _ _ _ _ u l=>match u,l with | [_],_=>rfl
 x_is_cut:=FX.mk' X G (a:=176) (c:=175) (md:=Ug) z_ z_ z_ z_ λ_ _ _ _ _ _ u l=>match u,l with | [_,_],_=>rfl
 x_is_within:=FX.mk' X G (a:=183) (c:=182) (md:=Ug) z_ z_ z_ z_ λ_ _ _ _ _ _ u l=>match u,l with | [_,_],_=>rfl
 x_parts_places:=FX.mk' X G (a:=190) (c:=189) (md:=Ug) z_ z_ z_ z_ λ_ _ _ _ _ _ u l=>match u,l with | [_,_,_],_=>rfl
 x_all_cuts:=FX.mk' X G (a:=195) (c:=194) (md:=Ug) z_ z_ z_ z_ λ_ _ _ _ _ _ u l=>match u,l with | [_],_=>rfl
 x_common_bottom:=FX.mk' X G (a:=207) (c:=206) (md:=Uh) z_ z_ z_ z_ λ_ _ _ _ _ _ u l=>match u,l with | [_],_=>rfl
 x_in_units:=FX.mk' X G (a:=212) (c:=211) (md:=Uh) z_ z_ z_ z_ λ_ _ _ _ _ _ u l=>match u,l with | [_,_],_=>rfl
 x_weighed:=FX.mk' X G (a:=200) (c:=199) (md:=Uh) z_ z_ z_ z_ λ_ _ _ _ _ _ u l=>match u,l with | [_,_],_=>rfl
 x_other_way:=FX.mk' X G (a:=219) (c:=218) (md:=Ui) z_ z_ z_ z_ λ_ _ _ _ _ _ u l=>match u,l with | [_],_=>rfl
 x_is_over:=FX.mk' X G (a:=226) (c:=225) (md:=Ui) z_ z_ z_ z_ λ_ _ _ _ _ _ u l=>match u,l with | [_,_,_,_],_=>rfl
 x_sent_over:=FX.mk' X G (a:=233) (c:=232) (md:=Uj) z_ z_ z_ z_ λ_ _ _ _ _ _ u l=>match u,l with | [_,_,_,_],_=>rfl
 x_load_of:=FX.mk' X G (a:=238) (c:=237) (md:=Uj) z_ z_ z_ z_ λ_ _ _ _ _ _ u l=>match u,l with | [_,_,_],_=>rfl
 x_loads_of:=FX.mk' X G (a:=243) (c:=242) (md:=Uj) z_ z_ z_ z_ λ_ _ _ _ _ _ u l=>match u,l with | [_,_],_=>rfl
 x_strains_of:=FX.mk' X G (a:=248) (c:=247) (md:=Uj) z_ z_ z_ z_ λ_ _ _ _ _ _ u l=>match u,l with | [_,_],_=>rfl
 x_top_of:=FX.mk' X G (a:=255) (c:=254) (md:=Uj) z_ z_ z_ z_ λ_ _ _ _ _ _ u l=>match u,l with | [_,_],_=>rfl
 x_sent_by:=FX.mk' X G (a:=260) (c:=259) (md:=Uk) z_ z_ z_ z_ λ_ _ _ _ _ _ u l=>match u,l with | [_,_],_=>rfl
 x_top_by:=FX.mk' X G (a:=267) (c:=266) (md:=Uk) z_ z_ z_ z_ λ_ _ _ _ _ _ u l=>match u,l with | [_,_],_=>rfl
 x_turned_by:=FX.mk' X G (a:=272) (c:=271) (md:=Ul) z_ z_ z_ z_ λ_ _ _ _ _ _ u l=>match u,l with | [_,_],_=>rfl
 x_is_too_much:=FX.mk' X G (a:=279) (c:=278) (md:=Ul) z_ z_ z_ z_ λ_ _ _ _ _ _ u l=>match u,l with | [_,_,_],_=>rfl
 x_are_too_many:=FX.mk' X G (a:=286) (c:=285) (md:=Ul) z_ z_ z_ z_ λ_ _ _ _ _ _ u l=>match u,l with | [_,_],_=>rfl
 x_is_split:=FX.mk' X G (a:=293) (c:=292) (md:=Um) z_ z_ z_ z_ λ_ _ _ _ _ _ u l=>match u,l with | [_],_=>rfl
 x_times_over:=FX.mk' X G (a:=322) (c:=321) (md:=Um) z_ z_ z_ z_ λ_ _ _ _ _ _ u l=>match u,l with | [_,_,_,_],_=>rfl
 x_is_too_full:=FX.mk' X G (a:=317) (c:=316) (md:=Um) z_ z_ z_ z_ λ_ _ _ _ _ _ u l=>match u,l with | [_,_,_,_,_],_=>rfl
 x_can_stand:=FX.mk' X G (a:=312) (c:=311) (md:=Um) z_ z_ z_ z_ λ_ _ _ _ _ _ u l=>match u,l with | [_,_,_,_,_],_=>rfl
 x_branch_of:=FX.mk' X G (a:=305) (c:=304) (md:=Um) z_ z_ z_ z_ λ_ _ _ _ _ _ u l=>match u,l with | [_,_],_=>rfl
 x_look_at_tree:=FX.mk' X G (a:=298) (c:=297) (md:=Um) z_ z_ z_ z_ λ_ _ _ _ _ _ u l=>match u,l with | [_,_,_],_=>rfl
 x_reason_against:=FX.mk' X G (a:=344) (c:=343) (md:=HV) z_ z_ z_ z_ λ_ _ _ _ _ _ u l=>match u,l with | [_,_,_,_],_=>rfl
 x_searched:=FX.mk' X G (a:=337) (c:=336) (md:=HV) z_ z_ z_ z_ λ_ _ _ _ _ _ u l=>match u,l with | [_,_,_,_,_,_],_=>rfl
 x_bounds_of:=FX.mk' X G (a:=332) (c:=331) (md:=HV) z_ z_ z_ z_ λ_ _ _ _ _ _ u l=>match u,l with | [_,_],_=>rfl
 x_ways_for:=FX.mk' X G (a:=327) (c:=326) (md:=HV) z_ z_ z_ z_ λ_ _ _ _ _ _ u l=>match u,l with | [_,_],_=>rfl
 x_wish_for_less:=FX.mk' X G (a:=349) (c:=348) (md:=Nm) z_ z_ z_ z_ λ_ _ _ _ _ _ u l=>match u,l with | [_,_],_=>rfl
 x_best_ways:=FX.mk' X G (a:=354) (c:=353) (md:=Nm) z_ z_ z_ z_ λ_ _ _ _ _ _ u l=>match u,l with | [_],_=>rfl
 x__law_begun:=FX.mk' X G (a:=361) (c:=360) (md:=fM) z_ z_ z_ z_ λ_ _ _ _ _ _ u l=>match u,l with | [_,_],_=>rfl
 x__law_take:=FX.mk' X G (a:=368) (c:=367) (md:=fM) z_ z_ z_ z_ λ_ _ _ _ _ _ u l=>match u,l with | [_,_],_=>rfl
 x__law_names:=FX.mk' X G (a:=387) (c:=386) (md:=fM) z_ z_ z_ z_ λ_ _ _ _ _ _ u l=>match u,l with | [_,_],_=>rfl
 x__law_low:=FX.mk' X G (a:=375) (c:=374) (md:=fM) z_ z_ z_ z_ λ_ _ _ _ _ _ u l=>match u,l with | [_,_],_=>rfl
 x__law_amount:=FX.mk' X G (a:=382) (c:=381) (md:=fM) z_ z_ z_ z_ λ_ _ _ _ _ _ u l=>match u,l with | [_,_,_],_=>rfl
 x__law_rooms:=FX.mk' X G (a:=394) (c:=393) (md:=fM) z_ z_ z_ z_ λ_ _ _ _ _ _ u l=>match u,l with | [_,_,_],_=>rfl
 x__law_ends:=FX.mk' X G (a:=401) (c:=400) (md:=fM) z_ z_ z_ z_ λ_ _ _ _ _ _ u l=>match u,l with | [_,_,_,_],_=>rfl
 x__law_ring:=FX.mk' X G (a:=408) (c:=407) (md:=fM) z_ z_ z_ z_ λ_ _ _ _ _ _ u l=>match u,l with | [_,_,_,_],_=>rfl
 x__law_on:=FX.mk' X G (a:=420) (c:=419) (md:=fM) z_ z_ z_ z_ λ_ _ _ _ _ _ u l=>match u,l with | [_],_=>rfl
 x__law_wholes:=FX.mk' X G (a:=413) (c:=412) (md:=fM) z_ z_ z_ z_ λ_ _ _ _ _ _ u l=>match u,l with | [_],_=>rfl
 x__law_top:=FX.mk' X G (a:=439) (c:=438) (md:=fM) z_ z_ z_ z_ λ_ _ _ _ _ _ u l=>match u,l with | [_,_,_],_=>rfl
 x__law_loads:=FX.mk' X G (a:=425) (c:=424) (md:=fM) z_ z_ z_ z_ λ_ _ _ _ _ _ u l=>match u,l with | [_,_,_,_],_=>rfl
 x__law_all_ways:=FX.mk' X G (a:=449) (c:=448) (md:=fM) z_ z_ z_ z_ λ_ _ _ _ _ _ u l=>match u,l with | [_],_=>rfl
 x__law_wish:=FX.mk' X G (a:=454) (c:=453) (md:=fM) z_ z_ z_ z_ λ_ _ _ _ _ _ u l=>match u,l with | [_,_,_,_],_=>rfl
 x__law_least:=FX.mk' X G (a:=475) (c:=474) (md:=fM) z_ z_ z_ z_ λ_ _ _ _ _ _ u l=>match u,l with | [_,_,_],_=>rfl
 x__law_copy:=FX.mk' X G (a:=485) (c:=484) (md:=fM) z_ z_ z_ z_ λ_ _ _ _ _ _ u l=>match u,l with | [_],_=>rfl
 x__law_strained:=FX.mk' X G (a:=432) (c:=431) (md:=fM) z_ z_ z_ z_ λ_ _ _ _ _ _ u l=>match u,l with | [_,_,_,_,_],_=>rfl
 x__law_turned:=FX.mk' X G (a:=444) (c:=443) (md:=fM) z_ z_ z_ z_ λ_ _ _ _ _ _ u l=>match u,l with | [_,_],_=>rfl
 x__law_kept:=FX.mk' X G (a:=461) (c:=460) (md:=fM) z_ z_ z_ z_ λ_ _ _ _ _ _ u l=>match u,l with | [_,_,_,_,_],_=>rfl
 x__law_lets:=FX.mk' X G (a:=468) (c:=467) (md:=fM) z_ z_ z_ z_ λ_ _ _ _ _ _ u l=>match u,l with | [_,_,_],_=>rfl
 x__law_are_ways:=FX.mk' X G (a:=480) (c:=479) (md:=fM) z_ z_ z_ z_ λ_ _ _ _ _ _ u l=>match u,l with | [_,_],_=>rfl
 x__law_good:=FX.mk' X G (a:=492) (c:=491) (md:=fM) z_ z_ z_ z_ λ_ _ _ _ _ _ u l=>match u,l with | [_,_,_,_,_,_],_=>rfl
 x_law:=FX.mk' X G (a:=497) (c:=496) (md:=fM) z_ z_ z_ z_ λ_ _ _ _ _ _ u l=>match u,l with | [_],_=>rfl
 z_abs:=PySem.W.mg_none_of X G z_
 z_all:=PySem.W.mg_none_of X G z_
 z_any:=PySem.W.mg_none_of X G z_
 z_bool:=PySem.W.mg_none_of X G z_
 z_enumerate:=PySem.W.mg_none_of X G z_
 z_int:=PySem.W.mg_none_of X G z_
 z_isinstance:=PySem.W.mg_none_of X G z_
 z_len:=PySem.W.mg_none_of X G z_
 z_list:=PySem.W.mg_none_of X G z_
 z_max:=PySem.W.mg_none_of X G z_
 z_min:=PySem.W.mg_none_of X G z_
 z_range:=PySem.W.mg_none_of X G z_
 z_reversed:=PySem.W.mg_none_of X G z_
 z_str:=PySem.W.mg_none_of X G z_
 z_sum:=PySem.W.mg_none_of X G z_
 z_tuple:=PySem.W.mg_none_of X G z_
 z_zip:=PySem.W.mg_none_of X G z_
 g_BACK:=mE (PySem.W.mg_of X G (v:=(.str "back" 447)) z_)
 g_CUT:=mE (PySem.W.mg_of X G (v:=(.str "cut" 555)) z_)
 g_MOST_SEARCHED:=Aq (PySem.W.mg_of X G (v:=(.int 7 611)) z_)
 g_MOST_WALKED:=Aq (PySem.W.mg_of X G (v:=(.int 300 561)) z_)
 g_NOUGHT:=FO (PySem.W.mg_of X G (v:=.ref 120) z_) (show(Hd.Kf Pm).lookup 120=some (Obj.mk (.type "tuple") none (.seq #[(.int 0 326),(.int 1 327)] 0) #[]) by kernel_rfl) ⟨_,_,[L2.V.int 0,L2.V.int 1],_,rfl,rfl,rfl,xp,(.cons ⟨_,rfl⟩ (.cons ⟨_,rfl⟩ .nil)),λK H=>(.cons (.int _) (.cons (.int _) .nil))⟩
 g_ON:=mE (PySem.W.mg_of X G (v:=(.str "on" 445)) z_)
 g_SPLIT:=mE (PySem.W.mg_of X G (v:=(.str "split" 559)) z_)
 g_TURNED:=mE (PySem.W.mg_of X G (v:=(.str "turned" 557)) z_)
theorem walkF(w:World)(mg:Str→Option Value)(fa:Addr)(h:Heap)(X:(Hd.Kf w.params).In h)(G:h.Ns mainGlobals mg) (hmg:mg "law"=some (.ref fa)) :
  ∃ fd:FuncData,(∀(s:Shared)(u:Value),BindsTo s fd ⟨[u],[]⟩ [("_law_script",u)])∧∀ base:Heap,(Hd.Kf w.params).In base→base.Ns mainGlobals mg→FnOk PySem.Challenge.pw_ringloads_k48_ways_for_a_wish w (Hd.Kf w.params) mg base CX0 17 fa fd ["_law_script"] (spF (Hd.Kf w.params) 1 fs_law):=by
 have T:=tx X G
 have e:=hmg.symm.trans T.x_law.m
 cases e
 exact⟨_,fun s v=>.of_eq rfl,fun base _ _=>MV T⟩
theorem tabR(w:World):∀x∈L2.lamNames,PySem.W.tabIn (Hd.Kf w.params) x=none∨((PyProof.Rows.recsOf Hd.q).find? λe=>e.name == x).isSome=true:=by
 intro x hx;simp only[L2.lamNames,Uq,List.not_mem_nil,or_false]at hx;rcases hx with rfl|rfl|rfl
 . exact .inl z_
 . exact .inl z_
 . exact .inl z_
theorem walk{l:PySem.W.OpenLaw}{q:Program}{loose:List Str}{XP:(Str->Option Value)->Heap->Prop}{YP:World->Heap->Prop}{d:DefRec}{K:Params->PySem.W.Frag}(hn:l.most=some 63)(hq:PyProof.Rows.importsNone q=true)(hdf:d.params.defaults=[])
  (hY:∀(w:World)(h:Heap),YP w h->(K w.params).In h) (hto:∀w:World,L2.tabsOk (K w.params)=true) (hrc:∀(w:World),∀x∈L2.lamNames,PySem.W.tabIn (K w.params) x=none∨((PyProof.Rows.recsOf q).find? λe=>e.name == x).isSome=true)
  (F:∀(w:World)(mg:Str->Option Value)(fa:Addr)(h:Heap),(K w.params).In h->h.Ns mainGlobals mg->mg d.name=some (.ref fa) ->
   ∃ fd:FuncData,(∀(s:Shared)(u:Value),BindsTo s fd ⟨[u],[]⟩ [("_law_script",u)])/\∀ base:Heap,(K w.params).In base->base.Ns mainGlobals mg->FnOk l.prog w (K w.params) mg base CX0 17 fa fd ["_law_script"] (spF (K w.params) 1 fs_law)) :
  PySem.W.WalkO q loose XP YP l.row.toRowW d [] (λf vs=>PySem.call f vs) :=
 L2.walk_of (n:=63) (k:=17) (x:="_law_script") (CX:=λ_=>CX0) (sp:=λw=>spF (K w.params) 1 fs_law) hn hq xp hdf ⟨rfl,xp,xp,rfl⟩ hY hto hrc F (λ_ H a ns hl hO hS=>CI hl hO hS (Ez hl)) λ_ _ _ _ _ z=>z
end My
open PySem PySem.W PyProof.Rows
noncomputable abbrev PySem.W.Fast.tw15485327292401816557:PySem.Program:=PySem.Challenge.pw_ringloads_k48_ways_for_a_wish
theorem PySem.W.Fast.te15485327292401816557:PySem.Challenge.pw_ringloads_k48_ways_for_a_wish=PySem.W.Fast.tw15485327292401816557:=rfl
set_option maxRecDepth 100000 in
theorem PySem.Challenge.cw_ringloads_k48_ways_for_a_wish_holds : PySem.Challenge.rw_ringloads_k48_ways_for_a_wish.Holds := by
 w_on;o_law
 refine PySem.W.holds_open (q:=Hd.q) (loose:=Hd.loose) (Xt:=Hd.Xt) (XP:=XL Hd.q []) (Yf:=Hook.obs Hd.Hk) (Ya:=Hook.val Hd.Hk) (YP:=Hook.says Hd.Hk) (N:=_) Hd.left (Hook.of Hd.Hk) (Hook.keeps Hd.Hk) (fun s e=>xl_of s (Bool.and_eq_true_iff.mp e).1) XL.keeps (by rfl) (by rfl) (by rfl) (fun s e=>recFacts_of (Bool.and_eq_true_iff.mp e).2) (by rfl) (by assumption) y_ ⟨rfl,rfl,rfl,rfl,rfl,y_⟩ ?hw ?hc
 case hw=>w_witness2
 case hc=>exact My.walk (l:=PySem.Challenge.rw_ringloads_k48_ways_for_a_wish) (K:=Hd.Kf) rfl y_ rfl (fun w h Y=>PySem.W.kIn_of Y) (fun w=>by kernel_rfl) My.tabR My.walkF