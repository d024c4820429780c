import PyProof.Rows.All
import Wide.All
import OpenK.AllK
import Wide.FinOn
import Lean
import PyProof.EqAt
import PyProof.EqKinds
import PyProof.TupleCall
import PyProof.ExcArgs
import KE.KSortKey
import KE.KIsAll
import PyProof.ExcInit
import PyProof.StationsW
import PyProof.NsDelKeeps
import PyProof.RulesAs
import PyProof.PassesOwn
import PyProof.ExcBaseAll.ValueError
import PyProof.InstStoreFacts
import PyProof.Rows.EqDataRows
import PyProof.ReprRoads
import PyProof.Rows.Range3
import PyProof.ConsumeWalk
import PyProof.FString5
import PyProof.ReprLen
import PyProof.Rows.TupAdd
import PyProof.Rows.RuleIs
import PyProof.ListNew
import KE.KRevIter
import PyProof.Rows.SeqMore2
import PyProof.ListRange
import KE.KEqDict
import PyProof.NeKinds
import PyProof.CallStr
import PyProof.ListMulAny
import PyProof.Rows.SetFrom
import PyProof.SetRoads
import KE.KSortTup
import PySem.Challenge.RW_ringloads_k47_whole_trees_bar_all
set_option Elab.async false
set_option linter.all false
set_option maxRecDepth 100000
set_option maxHeartbeats 0
theorem z_ {α:Sort _} {a b:α} (h:a=b:=by kernel_rfl):a=b:=h
theorem y_ {p:Prop} [Decidable p] (h:decide p=true:=by decide +kernel):p:=of_decide_eq_true h
theorem x_ {p:Prop} [Decidable p] (h:decide p=true:=by decide):p:=of_decide_eq_true h
theorem xL{p:Prop}(h:p:=by omega):p:=h
theorem v6{p:Prop}(h:p:=by simp):p:=h
section
open PySem PySem.Spec PyProof.Rows PySem.W
theorem kS:type_of% @wpAny_bind:=@wpAny_bind
theorem so:type_of% @List.getElem?_eq_getElem:=@List.getElem?_eq_getElem
theorem tu:type_of% @Heap.get?_push_of_some:=@Heap.get?_push_of_some
theorem SA:type_of% @List.getD_eq_getElem?_getD:=@List.getD_eq_getElem?_getD
theorem SB:type_of% @List.getElem?_eq_some_iff:=@List.getElem?_eq_some_iff
theorem SC:type_of% @List.mem_cons_of_mem:=@List.mem_cons_of_mem
theorem SD:type_of% @Nat.lt_of_lt_of_le:=@Nat.lt_of_lt_of_le
theorem SE:type_of% @List.mem_cons_self:=@List.mem_cons_self
theorem SG:type_of% @wpAny_pure:=@wpAny_pure
theorem SH:type_of% @List.length_map:=@List.length_map
theorem SI:type_of% @Heap.lt_size:=@Heap.lt_size
theorem SJ:type_of% @Nat.le_trans:=@Nat.le_trans
theorem SK:type_of% @List.mem_cons:=@List.mem_cons
theorem SL:type_of% @Nat.pow_le_pow_right:=@Nat.pow_le_pow_right
theorem SN:type_of% @Nat.le_refl:=@Nat.le_refl
theorem SO:type_of% @Nat.lt_of_le_of_lt:=@Nat.lt_of_le_of_lt
end
namespace L2
open PySem PySem.Spec PyProof.Rows
noncomputable abbrev Of:=Sum Int Str
noncomputable def uZ:Of->Value->Bool
 |.inl k,v=>Value.isInt k v
 |.inr x,v=>Value.isStrOf x v
noncomputable def NC(w:World):Of->Int
 |.inl k=>hashInt k
 |.inr x=>hashStr w x
theorem bW:∀{k:Of}{v:Value},uZ k v=true->(∃i t,k=Sum.inl i/\v=Value.int i t)∨(∃x t,k=Sum.inr x/\v=Value.str x t)
 | .inl i,v,h=>by obtain⟨t,e⟩:=Value.isInt_shape (k:=i) (v:=v) h;exact .inl ⟨i,t,rfl,e⟩
 | .inr x,v,h=>by obtain⟨t,e⟩:=Value.isStrOf_shape (x:=x) (v:=v) h;exact .inr ⟨x,t,rfl,e⟩
theorem AM(i:Int)(t:Tok):uZ (.inl i) (.int i t)=true:=by simp[uZ,Value.isInt]
theorem AN(x:Str)(t:Tok):uZ (.inr x) (.str x t)=true:=by simp[uZ,Value.isStrOf]
theorem Jr(a b:Int):decide ((Sum.inl a:Of)=Sum.inl b)=(a == b):=by
 by_cases e:a=b
 . subst e;simp
 . have h:¬(Sum.inl a:Of)=Sum.inl b:=λq=>e (Sum.inl.inj q);rw[decide_eq_false h];exact(beq_eq_false_iff_ne.mpr e).symm
theorem Js(a b:Str):decide ((Sum.inr a:Of)=Sum.inr b)=decide (a=b):=by
 by_cases e:a=b
 . subst e;simp
 . have h:¬(Sum.inr a:Of)=Sum.inr b:=λq=>e (Sum.inr.inj q);rw[decide_eq_false h,decide_eq_false e]
theorem Jt(a:Int)(b:Str):decide ((Sum.inl a:Of)=Sum.inr b)=false:=decide_eq_false (λq=>nomatch q)
theorem Ju(a:Str)(b:Int):decide ((Sum.inr a:Of)=Sum.inl b)=false:=decide_eq_false (λq=>nomatch q)
noncomputable def da(prog:Program)(w:World):PySem.KeyKind prog w Of where
 is:=uZ
 hash:=NC w
 inj:=λv a b ha hb=>by
  rcases bW ha with⟨i,t,rfl,rfl⟩|⟨x,t,rfl,rfl⟩
  .
   rcases bW hb with⟨j,u,rfl,e⟩|⟨y,u,rfl,e⟩
   . injection e with e1 _;rw[e1]
   . exact nomatch e
  .
   rcases bW hb with⟨j,u,rfl,e⟩|⟨y,u,rfl,e⟩
   . exact nomatch e
   . injection e with e1 _;rw[e1]
 byValue:=λk v h=>by rcases bW h with⟨i,t,rfl,rfl⟩|⟨x,t,rfl,rfl⟩<;>rfl
 pyHash:=λhv h=>by
  rcases bW hv with⟨i,t,rfl,rfl⟩|⟨x,t,rfl,rfl⟩
  . exact wpAny_pyHash_int h
  . exact wpAny_pyHash_str h
 eqBool:=λhu hv h=>by
  rcases bW hu with⟨i,t,rfl,rfl⟩|⟨x,t,rfl,rfl⟩
  .
   rcases bW hv with⟨j,u,rfl,rfl⟩|⟨y,u,rfl,rfl⟩
   . rw[Jr]at h;exact wpAny_eqBool_int h
   . rw[Jt]at h;exact SeqAt.EqAt.int_str i t y u _ _ _ _ h
  .
   rcases bW hv with⟨j,u,rfl,rfl⟩|⟨y,u,rfl,rfl⟩
   . rw[Ju]at h;exact SeqAt.EqAt.str_int x t j u _ _ _ _ h
   . rw[Js]at h;exact wpAny_eqBool_str h
 «strs»:=λk x t v h=>by
  rcases bW h with⟨i,u,rfl,e⟩|⟨y,u,rfl,e⟩
  . exact nomatch e
  . injection e with e1 _;subst e1;cases v<;>rfl
theorem wN(prog:Program)(w:World)(i:Int)(t:Tok):(da prog w).is (.inl i) (.int i t)=true:=AM i t
theorem wO(prog:Program)(w:World)(x:Str)(t:Tok):(da prog w).is (.inr x) (.str x t)=true:=AN x t
inductive V where
 |non|bl (b:Bool)|int (i:Int)|str (x:Str)|byt (b:Array UInt8)|flt (b:UInt64)|ref (a:Addr)|ty (n:String)
 deriving DecidableEq
def bU:V->Value->Prop
 |.non,u=>u=Value.none
 |.bl b,u=>u=Value.bool b
 |.int i,u=>∃t,u=Value.int i t
 |.str x,u=>∃t,u=Value.str x t
 |.byt b,u=>∃t,u=Value.bytes b t
 |.flt b,u=>∃t,u=Value.float b t
 |.ref a,u=>u=Value.ref a
 |.ty n,u=>u=Value.type n
abbrev bZ:List V->List Value->Prop:=Paired bU
theorem bZ.length{xs:List V}{us:List Value}(r:bZ xs us):xs.length=us.length:=Paired.length r
theorem bZ.get:∀{xs:List V}{us:List Value}{i:Nat}{x:V},bZ xs us->xs[i]?=some x->∃u,us[i]?=some u/\bU x u
 |_,_,_,_,.nil,e=>by simp at e
 |_,_,0,_,.cons r _,e=>by simp at e;subst e;exact⟨_,rfl,r⟩
 | _,_,i+1,x,.cons _ t,e=>by obtain⟨u,h1,h2⟩:=bZ.get (i:=i) (x:=x) t (by simpa using e);exact⟨u,by simpa using h1,h2⟩
theorem bZ.set{x:V}{u:Value}(r:bU x u):∀{xs:List V}{us:List Value}(i:Nat),bZ xs us->bZ (xs.set i x) (us.set i u)
 |_,_,_,.nil=>.nil
 |_,_,0,.cons _ t=>.cons r t
 |_,_,i+1,.cons q t=>.cons q (bZ.set r i t)
theorem bZ.append:∀{xs ys:List V}{us ws:List Value},bZ xs us->bZ ys ws->bZ (xs++ys) (us++ws)
 |_,_,_,_,.nil,s=>s
 |_,_,_,_,.cons r t,s=>.cons r (bZ.append t s)
theorem bZ.take:∀{xs:List V}{us:List Value}(n:Nat),bZ xs us->bZ (xs.take n) (us.take n)
 |_,_,0,_=>.nil
 |_,_,_+1,.nil=>.nil
 |_,_,n+1,.cons r t=>.cons r (bZ.take n t)
theorem bZ.drop:∀{xs:List V}{us:List Value}(n:Nat),bZ xs us->bZ (xs.drop n) (us.drop n)
 |_,_,0,r=>r
 |_,_,_+1,.nil=>.nil
 |_,_,n+1,.cons _ t=>bZ.drop n t
def wM:Option V->Option Value->Prop
 |some v,some u=>bU v u
 |none,none=>True
 |_,_=>False
def KV{κ:Type}:List (κ×V)->List (κ×Value)->Prop:=Paired λ(p:κ×V) (q:κ×Value)=>p.1=q.1/\bU p.2 q.2
noncomputable def kV:Of->V
 |.inl i=>.int i
 |.inr x=>.str x
inductive HO where
 |lst (xs:List V)
 |tup (xs:List V)
 |dK (kvs:List (Of×V))|dT (kvs:List (List Of×V))
 |set (S:Int->Bool) (n:Nat)
 |ins (C dx:Addr) (fs:List (Str×V))
 |own (x:Addr)
 |xd (fs:List (Str×V))
 |met (f x:Addr)
 |rng (lo hi:Int)
 |frz (o:Obj) (u:HO)
 |tbl (q:Str)
 |ext (φ:Heap->Prop)
noncomputable abbrev Hp:=Addr->Option HO
noncomputable def Og(H:Hp)(a:Addr)(o:HO):Hp:=λb=>if b=a then some o else H b
theorem aY{H:Hp}{a:Addr}{o:HO}:Og H a o a=some o:=by unfold Og;rw[if_pos rfl]
theorem aD{H:Hp}{a b:Addr}{o:HO}(h:b≠a):Og H a o b=H b:=by unfold Og;rw[if_neg h]
theorem Gz{H:Hp}{a:Addr}{o u:HO}:Og (Og H a o) a u=Og H a u:=by
 funext b;unfold Og;split<;>rfl
theorem bq{H:Hp}{a b:Addr}{o:HO}(h:H a=some o)(h':H b=none):a≠b:=by intro e;subst e;rw[h]at h';cases h'
def u4(oc:Obj)(q:Str):Prop:=∃vs t,oc.data=.fields vs/\vs[1]?=some (.str q t)
section
variable(P:Program)(w:World)
def dB(H:Hp)(h:Heap)(a:Addr):HO->Prop
 |.lst xs=>xs.length<=sizeLine/\∃(its:List Value)(n:Nat),bZ xs its/\h.get? a=some {cls:=.type "list",data:=.seq its.toArray n}
 |.tup xs=>xs.length<=sizeLine/\∃its:List Value,bZ xs its/\IsTup h a its.toArray
 |.dK kvs=>kvs.length<=sizeLine/\(a == sysModules)=false/\∃vs,KV kvs vs/\h.DictOf (da P w) a vs
 | .dT kvs=>kvs.length<=sizeLine/\(a == sysModules)=false/\∃xs:List (List Of×Addr×Value),
   Paired (λ(p:List Of×V) (q:List Of×Addr×Value)=>p.1=q.1/\H q.2.1=some (.tup (p.1.map kV))/\bU p.2 q.2.2) kvs xs /\
   ∃o es ep,h.get? a=some o/\o.ExactDict/\o.data=.dict es ep/\es.toList=xs.map (entryOfKey (tupleKind (da P w)))/\(xs.map (·.1)).Nodup
 |.set S n=>h.SetOf (intKind P w) a S n
 | .ins C dx fs=>H dx=some (.own a)/\fs.length<=1000/\dx≠a/\h.get? a=some (PySem.W.instObj C dx) /\
   ∃mA,h.Ns1 dx mA/\(∀f,wM (fs.lookup f) (mA f))/\PySem.Within mA (fs.map (·.1))
 |.own _=>∃o,h.get? a=some o
 |.xd fs=>∃mA,h.Ns1 a mA/\∀f,wM (fs.lookup f) (mA f)
 |.rng lo hi=>∃ t u v,h.get? a=some {cls:=.type "range",data:=.fields #[.int lo t,.int hi u,.int 1 v] }
 |.frz o u=>h.get? a=some o/\dB H h a u
 |.tbl q=>∃ps:Array Value,h.get? a=some {cls:=.none,data:=.fields ps}/\TriplesOk ps.toList/\∀pos cv,codeAmong pos ps.toList=some cv->∃c' oc,cv=.ref c'/\H c'=some (.frz oc (.own c'))/\u4 oc q
 |.met f x=>h.get? a=some (PySem.W.methodObj (.ref f) (.ref x))
 |.ext φ=>φ h/\(∃o,h.get? a=some o)/\∀h1 h2:Heap,φ h1->(∀o,h1.get? a=some o->h2.get? a=some o)->φ h2
def Oh(H:Hp)(h:Heap):Prop:=∀a o,H a=some o->dB P w H h a o
end
section
variable{P:Program}{w:World}{H H':Hp}{h h':Heap}{a:Addr}{o:HO}
theorem dB.lt(x:dB P w H h a o):a<h.objs.size:=by
 cases o with
 |lst xs=>obtain⟨_,_,_,_,e⟩:=x;exact SI e
 |tup xs=>obtain⟨_,_,_,p⟩:=x;exact p.lt
 |dK kvs=>obtain⟨_,_,_,_,o,_,_,e,_⟩:=x;exact SI e
 |dT kvs=>obtain⟨_,_,_,_,o,_,_,e,_⟩:=x;exact SI e
 |set S n=>obtain⟨o,_,_,_,e,_⟩:=x;exact SI e
 |ins C dx fs=>obtain⟨_,_,_,e,_⟩:=x;exact SI e
 |own y=>obtain⟨_,e⟩:=x;exact SI e
 |xd fs=>obtain⟨_,⟨_,_,_,e,_⟩,_⟩:=x;exact SI e
 |rng lo hi=>obtain⟨_,_,_,e⟩:=x;exact SI e
 |frz ob u=>obtain⟨e,_⟩:=x;exact SI e
 |tbl q=>obtain⟨_,e,_⟩:=x;exact SI e
 |met f y=>exact SI (show h.get? a=some _ from x)
 |ext φ=>obtain⟨_,⟨_,e⟩,_⟩:=x;exact SI e
theorem Paired.mapP{α β:Type}{F G:α->β->Prop}:∀{l₁:List α}{l₂:List β},Paired F l₁ l₂->(∀a b,F a b->G a b)->Paired G l₁ l₂
 |_,_,.nil,_=>.nil
 |_,_,.cons r t,f=>.cons (f _ _ r) (Paired.mapP t f)
theorem dB.stay(x:dB P w H h a o)(k:∀b u,(b=a∨H b=some (.own a))->h.get? b=some u->h'.get? b=some u)
  (ho:∀b,H b=some (.own a)->H' b=some (.own a)) (ht:∀b xs,H b=some (.tup xs)->H' b=some (.tup xs)) (hf:∀b o q,u4 o q->H b=some (.frz o (.own b))->H' b=some (.frz o (.own b))):dB P w H' h' a o:=by
 induction o with
 |lst xs=>obtain⟨z,its,n,r,e⟩:=x;exact⟨z,its,n,r,k _ _ (.inl rfl) e⟩
 |tup xs=>obtain⟨z,its,r,ob,e,c⟩:=x;exact⟨z,its,r,ob,k _ _ (.inl rfl) e,c⟩
 |dK kvs=>obtain⟨z,y,vs,r,ob,es,ep,e,c⟩:=x;exact⟨z,y,vs,r,ob,es,ep,k _ _ (.inl rfl) e,c⟩
 | dT kvs =>
  obtain⟨z,y,xs,r,ob,es,ep,e,c⟩:=x;exact⟨z,y,xs,Paired.mapP r λp q z=>⟨z.1,ht _ _ z.2.1,z.2.2⟩,ob,es,ep,k _ _ (.inl rfl) e,c⟩
 |set S n=>obtain⟨ob,es,ep,t,e,c⟩:=x;exact⟨ob,es,ep,t,k _ _ (.inl rfl) e,c⟩
 | ins C dx fs =>
  obtain⟨d,z,ne,e,mA,⟨od,es,ep,e2,c⟩,r⟩:=x;exact⟨ho _ d,z,ne,k _ _ (.inl rfl) e,mA,⟨od,es,ep,k _ _ (.inr d) e2,c⟩,r⟩
 |own y=>obtain⟨ob,e⟩:=x;exact⟨ob,k _ _ (.inl rfl) e⟩
 |xd fs=>obtain⟨mA,⟨od,es,ep,e,c⟩,r⟩:=x;exact⟨mA,⟨od,es,ep,k _ _ (.inl rfl) e,c⟩,r⟩
 |rng lo hi=>obtain⟨t,u,v,e⟩:=x;exact⟨t,u,v,k _ _ (.inl rfl) e⟩
 |frz ob u ih=>obtain⟨e,q⟩:=x;exact⟨k _ _ (.inl rfl) e,ih q⟩
 | tbl q =>
  obtain⟨ps,e,tr,m⟩:=x
  exact⟨ps,k a _ (.inl rfl) e,tr,λpos cv z=>let ⟨c',oc,a1,a2,a3⟩:=m pos cv z;⟨c',oc,a1,hf _ _ _ a3 a2,a3⟩⟩
 | met f y =>
  have e:h.get? a=some (PySem.W.methodObj (.ref f) (.ref y)):=x;show h'.get? a=some (PySem.W.methodObj (.ref f) (.ref y));exact k a _ (.inl rfl) e
 |ext φ=>obtain⟨p,⟨o,e⟩,st⟩:=x;exact⟨st _ _ p λo q=>k _ _ (.inl rfl) q,⟨o,k _ _ (.inl rfl) e⟩,st⟩
theorem Oh.lt(x:Oh P w H h)(e:H a=some o):a<h.objs.size:=(x a o e).lt
theorem Oh.fresh(x:Oh P w H h)(e:h.objs.size<=a):H a=none:=by
 cases q:H a with
 |none=>rfl
 |some u=>exact absurd (SD (x.lt q) e) (Nat.lt_irrefl _)
theorem Oh.kept(x:Oh P w H h)(k:∀b u,h.get? b=some u->h'.get? b=some u):Oh P w H h':=λa o e =>
 (x a o e).stay (λb u _ q=>k b u q) (λ_ q=>q) (λ_ _ q=>q) λ_ _ _ _ q=>q
theorem Oh.laid(x:Oh P w H h)(k:∀b u,h.get? b=some u->h'.get? b=some u)(hp:h.objs.size<=a)(new:dB P w (Og H a o) h' a o):Oh P w (Og H a o) h':=λb u e=>by
 have hn:=x.fresh hp;by_cases hb:b=a
 . subst hb;rw[aY]at e;cases e;exact new
 . rw[aD hb]at e;exact(x b u e).stay (λc v _ q=>k c v q) (λc q=>by rw[aD (bq q hn)];exact q) (λc xs q=>by rw[aD (bq q hn)];exact q) λc ob _ _ q=>by rw[aD (bq q hn)];exact q
end
def Rd(H:Hp)(a:Addr)(u:HO):Prop:=H a=some u∨∃o,H a=some (.frz o u)
theorem Rd.ok{P:Program}{w:World}{H:Hp}{h:Heap}{a:Addr}{u:HO}(r:Rd H a u)(x:Oh P w H h):dB P w H h a u:=by
 rcases r with r|⟨o,r⟩
 . exact x a u r
 . obtain⟨_,q⟩:=x a _ r;exact q
def Oi:Option HO->Prop
 |some (.lst _)=>True
 |some (.dK _)=>True
 |some (.dT _)=>True
 |some (.set _ _)=>True
 |some (.ins _ _ _)=>True
 |some (.ext _)=>True
 |_=>False
section
variable{P:Program}{w:World}{H:Hp}{h h':Heap}{x e:Addr}{o':HO}
theorem Oh.write(ok:Oh P w H h)(mu:Oi (H x))(he:e=x∨H e=some (.own x))(k:∀b u,b≠e->h.get? b=some u->h'.get? b=some u)(heo:∃u,h'.get? e=some u)
  (new:dB P w (Og H x o') h' x o'):Oh P w (Og H x o') h':=λb u q=>by
 have nown:∀c y,H c=some (.own y)->c≠x:=λc y r z=>by subst z;rw[r]at mu;exact mu
 have ntup:∀c xs,H c=some (.tup xs)->c≠x:=λc xs r z=>by subst z;rw[r]at mu;exact mu
 have nfrz:∀c o u,H c=some (.frz o u)->c≠x:=λc o u r z=>by subst z;rw[r]at mu;exact mu
 by_cases hb:b=x
 . subst hb;rw[aY]at q;cases q;exact new
 .
  rw[aD hb]at q;by_cases hbe:b=e
  .
   have q':H b=some (.own x):=by
    rcases he with z|z
    . exact absurd (hbe.trans z) hb
    . rw[hbe];exact z
   rw[q]at q';cases q';obtain⟨v,hv⟩:=heo;exact⟨v,by rw[hbe];exact hv⟩
  .
   refine(ok b u q).stay (λc v hc r=>k c v ?_ r) (λc r=>by rw[aD (nown c b r)];exact r) (λc xs r=>by rw[aD (ntup c xs r)];exact r) λc ob _ _ r=>by rw[aD (nfrz c ob _ r)];exact r
   rcases hc with rfl|hc
   . exact hbe
   .
    rintro rfl;rcases he with z|z
    . exact nown c b hc z
    . rw[hc]at z;cases z;exact hb rfl
end
structure Un (fs ex:List Addr) (H H':Hp) (h h':Heap):Prop where
 keep:∀b o,h.get? b=some o->H b=none->b∉fs->b∉ex->h'.get? b=some o
 slot:∀b o,h.get? b=some o->H b=none->b∈fs->b∉ex->∃sl,h'.get? b=some {o with slots:=sl}
 free:∀b o,h.get? b=some o->H b=none->b∉ex->H' b=none
 there:∀b o,h.get? b=some o->b∉ex->∃o',h'.get? b=some o'
 tups:∀b xs,H b=some (.tup xs)->H' b=some (.tup xs)
 frzs:∀b o u,H b=some (.frz o u)->H' b=some (.frz o u)
 tbls:∀b q,H b=some (.tbl q)->H' b=some (.tbl q)
section
variable{fs ex:List Addr}{H H1:Hp}{h h1 h':Heap}{a x e:Addr}{o:HO}
theorem Un.any(u:Un fs ex H H1 h h1){b:Addr}{ob:Obj}(q:h.get? b=some ob)(n:H b=none)(hx:b∉ex):∃sl,h1.get? b=some {ob with slots:=sl}:=by
 by_cases hb:b∈fs
 . exact u.slot b ob q n hb hx
 . exact⟨ob.slots,u.keep b ob q n hb hx⟩
theorem Un.kept(k:∀b u,h.get? b=some u->h'.get? b=some u):Un fs ex H H h h' :=
 ⟨λb ob q _ _ _=>k b ob q,λb ob q _ _ _=>⟨ob.slots,k b ob q⟩,λ_ _ _ n _=>n,λb ob q _=>⟨ob,k b ob q⟩,λ_ _ q=>q,λ_ _ _ q=>q,λ_ _ q=>q⟩
theorem Un.refl:Un fs ex H H h h:=Un.kept λ_ _ q=>q
theorem Un.laid(k:∀b u,h.get? b=some u->h'.get? b=some u)(hp:h.objs.size<=a)(hn:H a=none):Un fs ex H (Og H a o) h h' where
 keep:=λb u q _ _ _=>k b u q
 slot:=λb u q _ _ _=>⟨u.slots,k b u q⟩
 free:=λb u q n _=>by rw[aD (Nat.ne_of_lt (SD (SI q) hp))];exact n
 there:=λb u q _=>⟨u,k b u q⟩
 tups:=λb xs q=>by rw[aD (bq q hn)];exact q
 frzs:=λb u xs q=>by rw[aD (bq q hn)];exact q
 tbls:=λb ps q=>by rw[aD (bq q hn)];exact q
theorem Un.write(mu:Oi (H x))(he:e=x∨H e=some (.own x))(k:∀b u,b≠e->h.get? b=some u->h'.get? b=some u)(heo:∃u,h'.get? e=some u):Un fs ex H (Og H x o) h h':=by
 have hx:∀b,H b=none->b≠x:=λb n z=>by subst z;rw[n]at mu;exact mu
 have hb:∀b,H b=none->b≠e:=λb n z=>by
  subst z;rcases he with r|r
  . exact hx b n r
  . rw[n]at r;cases r
 have hm:∀b u,H b=some u->¬Oi (some u)->b≠x:=λb u q nm z=>by subst z;rw[q]at mu;exact nm mu
 refine⟨λb u q n _ _=>k b u (hb b n) q,λb u q n _ _=>⟨u.slots,k b u (hb b n) q⟩,λb u q n _=>by rw[aD (hx b n)];exact n,λb u q _=>?_,
  λb xs q=>by rw[aD (hm b _ q λz=>z)];exact q,λb u xs q=>by rw[aD (hm b _ q λz=>z)];exact q,λb ps q=>by rw[aD (hm b _ q λz=>z)];exact q⟩
 by_cases hbe:b=e
 . subst hbe;exact heo
 . exact⟨u,k b u hbe q⟩
end
noncomputable def Oj(h:Heap)(H:Hp):List Addr:=(List.range h.objs.size).filter λa=>(H a).isSome
noncomputable def Dq(h:Heap)(H:Hp):Heap:=PySem.W.hideAll h (Oj h H)
theorem AO(h:Heap)(H:Hp):(Dq h H).objs.size=h.objs.size:=PySem.W.hideAll_size _ _
theorem Dr{h:Heap}{H:Hp}{b:Addr}{o:Obj}(e:h.get? b=some o)(n:H b=none):(Dq h H).get? b=some o :=
 PySem.W.hideAll_get _ e λhm=>by have q:(H b).isSome=true:=(List.mem_filter.mp hm).2;rw[n]at q;simp at q
theorem GA{h:Heap}{H:Hp}{b:Addr}{o:Obj}(e:(Dq h H).get? b=some o):h.get? b=some o/\H b=none:=by
 have e':h.get? b=some o:=PySem.W.of_hideAll (Oj h H) e;refine⟨e',?_⟩
 cases q:H b with
 |none=>rfl
 | some x =>
  have hm:b∈Oj h H:=List.mem_filter.mpr ⟨List.mem_range.mpr (SI e'),by simp[q]⟩;have z:(Dq h H).get? b=none:=PySem.W.hideAll_none (Oj h H) hm;rw[z]at e;cases e
noncomputable def GB(g h:Heap)(L:Addr):List (Addr×Obj):=(List.range h.objs.size).filterMap λa=>if a=L∨(g.get? a).isSome=true then none else(h.get? a).map λo=>(a,o)
noncomputable def cL(g h:Heap)(L d:Addr):List (Addr×Obj):=(GB g h L).filter λp=>decide (p.1≠d)
def Jv(mg:Str->Option Value)(h:Heap):Prop:=∃ bm ob,mg "__builtins__"=some (.ref bm)/\bm≠builtinsNs/\h.get? bm=some ob/\ob.cls=.type "module"/\ob.dict=some builtinsNs/\ob.data=.plain
noncomputable def lamNames:List Str:=["look_at_asks","by_lesser_place","look_at_string"]
noncomputable def Jw(x:Str):Str:=(x++".<locals>.")++"<lambda>"
def Ol(K:PySem.W.Frag)(H:Hp):Prop:=∀x∈lamNames,∀c P,PySem.W.tabIn K x=some (c,P)->H P=some (.tbl (Jw x))
theorem Ol.un{K:PySem.W.Frag}{fs ex:List Addr}{H H':Hp}{h h':Heap}(t:Ol K H)(u:Un fs ex H H' h h'):Ol K H':=λx hx c P e=>u.tbls _ _ (t x hx c P e)
structure Mod (K:PySem.W.Frag) (mg:Str->Option Value) (base:Heap):Prop where
 kin:K.In base
 glob:base.Ns mainGlobals mg
 blt:∃ mb,base.Ns builtinsNs mb/\∀ x:Str,x≠"__name__"->mb x=bootBuiltins x
 nolimit:base.NoLimit
 sysm:∃mm,base.Ns sysModules mm
 bmn:Jv mg base
 cds:∀x∈lamNames,∀c P,PySem.W.tabIn K x=some (c,P)->PySem.W.CodeHd base c P
/-- the context: a def's body (or a comprehension's GC) running. base: fixed through the whole law;s₀,H₀: the entry;outer: the frames whose slots others may change (a def's callers);stack: all frames that run;
  ex: iterators that were made ahead of the entry and are walked here (a comprehension's);fn: the names whose cells were made at the entry (a def: all;a comprehension's GC: its own);calm: not iX an except suite;pn: gV that every state bears;xe: what is wanted of an exception that leaves the code -/
structure Cx where
 prog:Program
 w:World
 K:PySem.W.Frag
 mg:Str->Option Value
 base:Heap
 A:Around
 N:List Str
 s₀:Shared
 H₀:Hp
 env:Env
 outer:List Env
 stack:List Env
 ex:List Addr
 fn:Str->Bool
 calm:Bool
 pn:List (Addr×Obj)
 xe:Value->Shared->Prop
noncomputable def Om(l:List Env):List Addr:=l.filterMap (·.frame)
noncomputable abbrev Cx.fs(X:Cx):List Addr:=Om X.outer
def On(sc:Scope)(x:Str):Prop:=sc.names.lookup x=some .local∨sc.names.lookup x=some .cell∨sc.names.lookup x=some .free
def Oo(sc:Scope)(x:Str):Prop:=sc.names.lookup x=some .local∨sc.names.lookup x=some .cell
def ND(env:Env)(h:Heap)(m:Str->Option Value)(x:Str)(u:Value):Prop :=
 (env.kindOf x=some .local/\m x=some u)∨((env.kindOf x=some .cell∨env.kindOf x=some .free)/\∃c,env.cells.lookup x=some c/\h.IsCell c (some u))
structure Cx.Ok (X:Cx):Prop where
 mod:Mod X.K X.mg X.base
 kind:X.env.scope.kind=.function
 glob:X.env.globals=mainGlobals
 blt:X.env.builtins=builtinsNs
 above:X.s₀.heap.objs.size<=X.env.locals
 inj:∀x y c,X.env.cells.lookup x=some c->X.env.cells.lookup y=some c->x=y
 has:∀x,(X.env.kindOf x=some .cell∨X.env.kindOf x=some .free)->∃c,X.env.cells.lookup x=some c
 cab:∀x c,X.fn x=true->X.env.cells.lookup x=some c->X.s₀.heap.objs.size<=c
 hd:X.calm=true->X.A.handled=none
 frames:X.A.frames=some X.stack
 stk:X.stack=X.outer∨(X.stack=X.env::X.outer/\X.env.frame=some X.env.locals)
 exf:∀b∈X.ex,b≠X.env.locals/\∀x c,X.env.cells.lookup x=some c->c≠b
 bs:∀b o,X.base.get? b=some o->X.s₀.heap.get? b=some o/\X.H₀ b=none
 bsz:X.base.objs.size<=X.s₀.heap.objs.size
 noex:∀b o,X.base.get? b=some o->b∉X.ex
 exfs:∀b∈X.ex,b∉X.fs
 funs:X.s₀.heap.FunFrames X.base X.outer
 frf:∀b∈X.fs,X.H₀ b=none
 tbs:Ol X.K X.H₀
structure Oq (X:Cx) (gV:List (Addr×Obj)) (σ:List (Option V)) (H:Hp) (s:Shared):Prop where
 ok:X.Ok
 os:s.os=X.s₀.os
 bare:AllBare s.gens
 base:Un X.fs X.ex X.H₀ H X.s₀.heap s.heap
 loc:∃m,s.heap.Ns X.env.locals m/\∀(i:Nat)(x:Str)(v:V),X.N[i]?=some x->σ[i]?=some (some v)->On X.env.scope x->∃u,bU v u/\ND X.env s.heap m x u
 cell:∀x c,X.env.cells.lookup x=some c->∃v,s.heap.IsCell c v
 free:H X.env.locals=none
 freeC:∀x c,X.env.cells.lookup x=some c->H c=none∨(X.fn x=false/\∃o,H c=some (.frz o (.own c)))
 pin:∀p∈X.pn++gV,s.heap.get? p.1=some p.2/\H p.1=none/\p.1≠X.env.locals/\p.1∉X.fs/\∀v,p.2.data≠.cell v
 hok:Oh X.prog X.w H s.heap
 len:σ.length=X.N.length
section
variable{X:Cx}{gV:List (Addr×Obj)}{σ:List (Option V)}{H H':Hp}{s:Shared}{h':Heap}
theorem Cx.Ok.nofr(ok:X.Ok){b:Addr}{o:Obj}(e:X.base.get? b=some o):b∉X.fs:=λhb=>by have:=(ok.funs.mem hb).1;rw[e]at this;cases this
theorem Oq.bs(I:Oq X gV σ H s):∀b o,X.base.get? b=some o->s.heap.get? b=some o/\H b=none:=λb o e =>
 ⟨I.base.keep b o (I.ok.bs b o e).1 (I.ok.bs b o e).2 (I.ok.nofr e) (I.ok.noex b o e),I.base.free b o (I.ok.bs b o e).1 (I.ok.bs b o e).2 (I.ok.noex b o e)⟩
theorem Oq.bk(I:Oq X gV σ H s):∀b o,X.base.get? b=some o->s.heap.get? b=some o:=λb o e=>(I.bs b o e).1
theorem Oq.tbs(I:Oq X gV σ H s):Ol X.K H:=I.ok.tbs.un I.base
theorem Oq.mod(I:Oq X gV σ H s):Mod X.K X.mg X.base:=I.ok.mod
theorem Oq.kIn(I:Oq X gV σ H s):X.K.In s.heap:=I.ok.mod.kin.keeps I.bk
theorem Oq.fr(I:Oq X gV σ H s):∃m,Fr X.base X.env.locals s.heap m :=
 let ⟨m,hn,_⟩:=I.loc
 ⟨m,hn,I.bk,SJ I.ok.bsz I.ok.above⟩
theorem Oq.lt(I:Oq X gV σ H s):X.env.locals<s.heap.objs.size:=let ⟨_,hn,_⟩:=I.loc;hn.lt
theorem Oq.sz(I:Oq X gV σ H s):X.s₀.heap.objs.size<=s.heap.objs.size:=SJ I.ok.above (Nat.le_of_lt I.lt)
theorem Oq.nofs(I:Oq X gV σ H s){a:Addr}(h:s.heap.objs.size<=a):a∉X.fs:=λhb=>by obtain⟨_,o,ho,_⟩:=I.ok.funs.mem hb;exact absurd (SD (SI ho) (SJ I.sz h)) (Nat.lt_irrefl _)
theorem Oq.cne(I:Oq X gV σ H s):∀x c,X.env.cells.lookup x=some c->c≠X.env.locals:=λx c e z=>by obtain⟨v,o,ho,hd⟩:=I.cell x c e;obtain⟨m,⟨o',es,ep,ho',hd',_⟩,_⟩:=I.loc;rw[z,ho']at ho;cases ho;rw[hd']at hd;cases hd
theorem Oq.funs(I:Oq X gV σ H s):s.heap.FunFrames X.base X.outer:=by
 have all:∀(l:List Env),(∀b∈Om l,b∈X.fs)->X.s₀.heap.FunFrames X.base l->s.heap.FunFrames X.base l:=by
  intro l
  induction l with
  |nil=>intro _ _;trivial
  | cons env r ih =>
   intro hs hl;obtain⟨hk,⟨L,o,hf,hn,ho,hd⟩,hr⟩:=hl;have hL:L∈X.fs:=hs L (by unfold Om;rw[List.filterMap_cons,hf];exact SE);obtain⟨sl,e⟩:=I.base.slot L o ho (I.ok.frf L hL) hL λz=>I.ok.exfs L z hL;exact⟨hk,⟨L,_,hf,hn,e,hd⟩,ih (λb hb=>hs b (by unfold Om;rw[List.filterMap_cons,hf];exact SC _ hb)) hr⟩
 exact all X.outer (λ_ hb=>hb) I.ok.funs
theorem Oq.stack(I:Oq X gV σ H s):s.heap.FunFrames X.base X.stack:=by
 rcases I.ok.stk with e|⟨e,hf⟩
 . rw[e];exact I.funs
 . rw[e];obtain⟨m,hn,_⟩:=I.loc;refine .cons (by rw[I.ok.kind];decide) hf hn ?_ I.funs;exact Heap.get?_none_of_le (SJ I.ok.bsz I.ok.above)
theorem Oq.stkSub(I:Oq X gV σ H s):∀b∈Om X.stack,b∈X.env.locals::X.fs:=λb hb=>by
 rcases I.ok.stk with e|⟨e,hf⟩
 . rw[e]at hb;exact SC _ hb
 . rw[e]at hb;unfold Om at hb;rw[List.filterMap_cons,hf]at hb;exact hb
theorem Oq.stkFree(I:Oq X gV σ H s):∀b∈Om X.stack,H b=none:=λb hb=>by
 rcases SK.mp (I.stkSub b hb)with e|hb
 . rw[e];exact I.free
 . obtain⟨_,o,ho,_⟩:=I.ok.funs.mem hb;exact I.base.free b o ho (I.ok.frf b hb) λz=>I.ok.exfs b z hb
theorem Oq.step{g':Array GenState}{t':Nat}{d':Drawn}{ch:List Addr}(I:Oq X gV σ H s)
  (hch:∀b∈ch,(b∈X.ex∨X.s₀.heap.objs.size<=b)/\b≠X.env.locals/\(∀x c,X.env.cells.lookup x=some c->c≠b)/\∀p∈X.pn++gV,p.1≠b)
  (keep:∀b o,b≠X.env.locals->b∉X.fs->b∉ch->s.heap.get? b=some o->H b=none->h'.get? b=some o)
  (slot:∀b o,b≠X.env.locals->b∈X.fs->b∉ch->s.heap.get? b=some o->H b=none->∃sl,h'.get? b=some {o with slots:=sl}) (free:∀b o,b∉ch->s.heap.get? b=some o->H b=none->H' b=none)
  (there:∀b o,b∉ch->s.heap.get? b=some o->∃o',h'.get? b=some o')
  (tups:∀b xs,H b=some (.tup xs)->H' b=some (.tup xs)) (frzs:∀b o u,H b=some (.frz o u)->H' b=some (.frz o u)) (tbls:∀b q,H b=some (.tbl q)->H' b=some (.tbl q))
  (ns:∀m,s.heap.Ns X.env.locals m->h'.Ns X.env.locals m) (hok:Oh X.prog X.w H' h') (hg:AllBare g') :
  Oq X gV σ H' {s with heap:=h',gens:=g',drawn:=d',toks:=t' }:=by
 have neL:∀b o,X.s₀.heap.get? b=some o->b≠X.env.locals:=λb o e=>Nat.ne_of_lt (SD (SI e) I.ok.above)
 have neC:∀b o,X.s₀.heap.get? b=some o->b∉X.ex->b∉ch:=λb o e hx hb=>by
  rcases(hch b hb).1 with z|z
  . exact hx z
  . exact absurd (SD (SI e) z) (Nat.lt_irrefl _)
 have cellK:∀x c,X.env.cells.lookup x=some c->∀v,s.heap.IsCell c v->h'.IsCell c v:=λx c e v ⟨o,ho,hd⟩=>by
  have nch:c∉ch:=λz=>(hch c z).2.2.1 x c e rfl;rcases I.freeC x c e with hn|⟨_,o2,hz⟩
  .
   by_cases hc:c∈X.fs
   . obtain⟨sl,q⟩:=slot c o (I.cne x c e) hc nch ho hn;exact⟨_,q,hd⟩
   . exact⟨o,keep c o (I.cne x c e) hc nch ho hn,hd⟩
  . have e1:=(I.hok c _ hz).1;rw[ho]at e1;cases e1;exact⟨o,(hok c _ (frzs c _ _ hz)).1,hd⟩
 refine⟨I.ok,I.os,hg,⟨λb o e n hb hx=>?_,λb o e n hb hx=>?_,λb o e n hx=>?_,λb o e hx=>?_,λb xs e=>tups b xs (I.base.tups b xs e),λb o xs e=>frzs b o xs (I.base.frzs b o xs e),λb ps e=>?_⟩,?_,λx c e=>?_,?_,λx c e=>?_,λp hp=>?_,hok,I.len⟩
 . exact keep b o (neL b o e) hb (neC b o e hx) (I.base.keep b o e n hb hx) (I.base.free b o e n hx)
 . obtain⟨sl,e1⟩:=I.base.slot b o e n hb hx;obtain⟨sl',e2⟩:=slot b _ (neL b o e) hb (neC b o e hx) e1 (I.base.free b o e n hx);exact⟨sl',e2⟩
 . obtain⟨o',e1⟩:=I.base.there b o e hx;exact free b o' (neC b o e hx) e1 (I.base.free b o e n hx)
 . obtain⟨o',e1⟩:=I.base.there b o e hx;exact there b o' (neC b o e hx) e1
 . exact tbls b ps (I.base.tbls b ps e)
 .
  obtain⟨m,hn,hl⟩:=I.loc;refine⟨m,ns m hn,λi x v e1 e2 e3=>?_⟩;obtain⟨u,r,l⟩:=hl i x v e1 e2 e3;refine⟨u,r,?_⟩;rcases l with l|⟨k,c,e,z⟩
  . exact .inl l
  . exact .inr ⟨k,c,e,cellK x c e _ z⟩
 . obtain⟨v,z⟩:=I.cell x c e;exact⟨v,cellK x c e v z⟩
 . obtain⟨m,⟨o,_,_,ho,_⟩,_⟩:=I.loc;exact free _ o (λz=>(hch _ z).2.1 rfl) ho I.free
 .
  obtain⟨v,o,ho,hd⟩:=I.cell x c e;rcases I.freeC x c e with hn|⟨hf,o2,hz⟩
  . exact .inl (free c o (λz=>(hch c z).2.2.1 x c e rfl) ho hn)
  . exact .inr ⟨hf,o2,frzs c _ _ hz⟩
 . obtain⟨e,n,ne,nf,d⟩:=I.pin p hp;have nch:p.1∉ch:=λz=>(hch p.1 z).2.2.2 p hp rfl;exact⟨keep p.1 p.2 ne nf nch e n,free p.1 p.2 nch e n,ne,nf,d⟩
theorem Oq.un{t':Nat}(I:Oq X gV σ H s)(u:Un X.fs [] H H' s.heap h')(hok:Oh X.prog X.w H' h'):Oq X gV σ H' {s with heap:=h',toks:=t' }:=by
 obtain⟨m,⟨o,es,ep,ho,r⟩,_⟩:=id I.loc;obtain⟨sl,hL⟩:=u.any ho I.free v6
 exact I.step (g':=s.gens) (d':=s.drawn) (ch:=[]) (λ_ z=>nomatch z) (λb o _ hb _ e n=>u.keep b o e n hb v6) (λb o _ hb _ e n=>u.slot b o e n hb v6) (λb o _ e n=>u.free b o e n v6) (λb o _ e=>u.there b o e v6) u.tups u.frzs u.tbls (λm' hm=>by
  obtain⟨o',es',ep',ho',r'⟩:=hm;rw[ho]at ho';cases ho'
  exact⟨_,es',ep',hL,r'⟩) hok I.bare
theorem Oq.call{g':Array GenState}{t':Nat}{d':Drawn}{ch:List Addr}(I:Oq X gV σ H s)(u:Un (Om X.stack) ch H H' s.heap h')(hok:Oh X.prog X.w H' h')(hg:AllBare g')
  (hch:∀b∈ch,(b∈X.ex∨X.s₀.heap.objs.size<=b)/\b≠X.env.locals/\(∀x c,X.env.cells.lookup x=some c->c≠b)/\∀p∈X.pn++gV,p.1≠b) :
  Oq X gV σ H' {s with heap:=h',gens:=g',drawn:=d',toks:=t' }:=by
 obtain⟨m,⟨o,es,ep,ho,r⟩,_⟩:=id I.loc;obtain⟨sl,hL⟩:=u.any ho I.free λz=>(hch _ z).2.1 rfl
 exact I.step (ch:=ch) hch (λb o hL hb hc e n=>u.keep b o e n (λz=>(SK.mp (I.stkSub b z)).elim hL hb) hc) (λb o _ _ hc e n=>u.any e n hc) (λb o hc e n=>u.free b o e n hc) (λb o hc e=>u.there b o e hc) u.tups u.frzs u.tbls (λm' hm=>by
  obtain⟨o',es',ep',ho',r'⟩:=hm;rw[ho]at ho';cases ho'
  exact⟨_,es',ep',hL,r'⟩) hok hg
theorem Oq.turned{t':Nat}{it:Addr}(I:Oq X gV σ H s)(k:∀b o,b≠it->s.heap.get? b=some o->h'.get? b=some o)(hn:H it=none)(hL:it≠X.env.locals)
  (h1:it∈X.ex∨X.s₀.heap.objs.size<=it) (h2:∀x c,X.env.cells.lookup x=some c->c≠it) (h3:∀p∈X.pn++gV,p.1≠it):Oq X gV σ H {s with heap:=h',toks:=t' }:=by
 have nit:∀b u,H b=some u->b≠it:=λb u e z=>by rw[z,hn]at e;cases e
 refine I.step (g':=s.gens) (d':=s.drawn) (ch:=[it]) (λb hb=>?_) (λb o _ _ hc e _=>k b o (λz=>hc (by simp[z])) e) (λb o _ _ hc e _=>⟨o.slots,k b o (λz=>hc (by simp[z])) e⟩) (λ_ _ _ _ n=>n)
  (λb o hc e=>⟨o,k b o (λz=>hc (by simp[z])) e⟩) (λ_ _ e=>e) (λ_ _ _ e=>e) (λ_ _ e=>e) (λm hm=>?_) (λb u e=>?_) I.bare
 .
  have e:b=it:=by simpa using hb
  subst e;exact⟨h1,hL,h2,h3⟩
 . obtain⟨o,es,ep,ho,r⟩:=hm;exact⟨o,es,ep,k _ o (Ne.symm hL) ho,r⟩
 .
  refine(I.hok b u e).stay (λc v hc q=>k c v ?_ q) (λ_ q=>q) (λ_ _ q=>q) λ_ _ _ _ q=>q;rcases hc with z|z
  . rw[z];exact nit b u e
  . exact nit c _ z
theorem Oq.tok(I:Oq X gV σ H s)(t:Nat):Oq X gV σ H {s with toks:=t}:=I.un (h':=s.heap) (t':=t) Un.refl I.hok
theorem Oq.kept{t':Nat}(I:Oq X gV σ H s)(k:∀b u,s.heap.get? b=some u->h'.get? b=some u):Oq X gV σ H {s with heap:=h',toks:=t' }:=I.un (Un.kept k) (I.hok.kept k)
theorem Oq.laid{a:Addr}{o:HO}{t':Nat}(I:Oq X gV σ H s)(k:∀b u,s.heap.get? b=some u->h'.get? b=some u)(hp:s.heap.objs.size<=a)(new:dB X.prog X.w (Og H a o) h' a o) :
  Oq X gV σ (Og H a o) {s with heap:=h',toks:=t' }:=I.un (Un.laid k hp (I.hok.fresh hp)) (I.hok.laid k hp new)
theorem Oq.write{x e:Addr}{o:HO}{t':Nat}(I:Oq X gV σ H s)(mu:Oi (H x))(he:e=x∨H e=some (.own x))(k:∀b u,b≠e->s.heap.get? b=some u->h'.get? b=some u)(heo:∃u,h'.get? e=some u)
  (new:dB X.prog X.w (Og H x o) h' x o):Oq X gV σ (Og H x o) {s with heap:=h',toks:=t' }:=I.un (Un.write mu he k heo) (I.hok.write mu he k heo new)
theorem Oq.pins_of{pins':List (Addr×Obj)}(I:Oq X gV σ H s)(h:∀p∈pins',s.heap.get? p.1=some p.2/\H p.1=none/\p.1≠X.env.locals/\p.1∉X.fs/\∀v,p.2.data≠.cell v):Oq X pins' σ H s :=
 ⟨I.ok,I.os,I.bare,I.base,I.loc,I.cell,I.free,I.freeC,λp hp=>(List.mem_append.mp hp).elim (λz=>I.pin p (List.mem_append_left _ z)) (h p),I.hok,I.len⟩
theorem yl{N:List Str}(hN:N.Nodup){i j:Nat}{x:Str}(a:N[i]?=some x)(b:N[j]?=some x):i=j:=by obtain⟨h1,e1⟩:=SB.mp a;obtain⟨h2,e2⟩:=SB.mp b;exact(List.getElem_inj hN).mp (e1.trans e2.symm)
theorem u5{M:Model}{A:Around}{E:Value->Shared->Prop}{i:Nat}{x:Str}{v:V}{u:Value}{Q:Unit->Shared->Prop}(I:Oq X gV σ H s)(hN:X.N.Nodup)(hi:X.N[i]?=some x)(hx:Oo X.env.scope x)(r:bU v u)
  (h:∀s',Oq X gV (σ.set i (some v)) H s'->(∃a,Heap.SameBut a s.heap s'.heap/\(a=X.env.locals∨X.env.cells.lookup x=some a))->Q () s') (hf:X.fn x=true∨X.env.scope.names.lookup x=some .local:=by first|exact .inl rfl|exact .inr rfl|assumption):wpAny M A (storeName X.env x u) Q E s:=by
 obtain⟨m,hn,hl⟩:=id I.loc;have hcls:(X.env.scope.kind == .class ||(X.env.scope.kind == .module && X.env.locals != X.env.globals))=false:=by rw[I.ok.kind];rfl
 have hiσ:i<σ.length:=by rw[I.len];exact(SB.mp hi).1
 have cne:=I.cne
 have tracked:∀{a:Addr}{h':Heap},(∃o,s.heap.get? a=some o/\H a=none)->Heap.SameBut a s.heap h'->Oh X.prog X.w H h':=λ{a h'} ha hs b ob e=>by
  obtain⟨_,_,hfree⟩:=ha;refine(I.hok b ob e).stay (λc w' hc q=>(hs.2 c ?_).trans q) (λ_ q=>q) (λ_ _ q=>q) λ_ _ _ _ q=>q;rintro rfl;rcases hc with rfl|hc
  . rw[hfree]at e;cases e
  . rw[hfree]at hc;cases hc
 rcases hx with hk|hk
 .
  refine wpAny_storeName_local hk hn (λh' hn' hs=>?_) hcls;obtain⟨oL,_,_,hoL,_⟩:=id hn;refine h _ ⟨I.ok,I.os,I.bare,⟨λb o e n hb hx=>?_,λb o e n hb hx=>?_,I.base.free,λb o e hx=>?_,I.base.tups,I.base.frzs,I.base.tbls⟩,⟨_,hn',λj y v' e1 e2 e3=>?_⟩,λy c e=>?_,I.free,I.freeC,λp hp=>?_,tracked ⟨oL,hoL,I.free⟩ hs,by simpa using I.len⟩ ⟨_,hs,.inl rfl⟩
  . exact(hs.2 b (Nat.ne_of_lt (SD (SI e) I.ok.above))).trans (I.base.keep b o e n hb hx)
  . obtain⟨sl,e1⟩:=I.base.slot b o e n hb hx;exact⟨sl,(hs.2 b (Nat.ne_of_lt (SD (SI e) I.ok.above))).trans e1⟩
  . obtain⟨o',e1⟩:=I.base.there b o e hx;exact⟨o',(hs.2 b (Nat.ne_of_lt (SD (SI e) I.ok.above))).trans e1⟩
  .
   by_cases hj:j=i
   . subst hj;rw[hi]at e1;cases e1;rw[List.getElem?_set_self hiσ]at e2;cases e2;exact⟨u,r,.inl ⟨hk,v6⟩⟩
   .
    rw[List.getElem?_set_ne (Ne.symm hj)]at e2;obtain⟨u',r',q⟩:=hl j y v' e1 e2 e3;refine⟨u',r',?_⟩;rcases q with⟨k,e⟩|⟨k,c,e,z⟩
    . refine .inl ⟨k,?_⟩;have:y≠x:=λe=>hj (yl hN e1 (e ▸ hi));simp[this,e]
    . exact .inr ⟨k,c,e,z.sameBut hs (cne y c e)⟩
  . obtain⟨w',z⟩:=I.cell y c e;exact⟨w',z.sameBut hs (cne y c e)⟩
  . obtain⟨e,n,ne,nf,d⟩:=I.pin p hp;exact⟨(hs.2 p.1 ne).trans e,n,ne,nf,d⟩
 .
  have hfn:X.fn x=true:=by
   rcases hf with z|z
   . exact z
   . rw[z]at hk;cases hk
  obtain⟨c,hc⟩:=I.ok.has x (.inl hk);obtain⟨w',z⟩:=I.cell x c hc;refine wpAny_storeName_cell I.ok.kind hk hc z (λh' hc' hs=>?_);obtain⟨oc,hoc,hocd⟩:=id z;refine h {s with heap:=h' } ⟨I.ok,I.os,I.bare,⟨λb o e n hb hx=>?_,λb o e n hb hx=>?_,I.base.free,λb o e hx=>?_,I.base.tups,I.base.frzs,I.base.tbls⟩,⟨m,hn.sameBut hs (Ne.symm (cne x c hc)),λj y v' e1 e2 e3=>?_⟩,λy c' e=>?_,I.free,I.freeC,λp hp=>?_,tracked ⟨oc,hoc,(I.freeC x c hc).resolve_right λz=>by rw[hfn]at z;exact absurd z.1 x_⟩ hs,by simpa using I.len⟩ ⟨c,hs,.inr hc⟩
  . exact(hs.2 b (Nat.ne_of_lt (SD (SI e) (I.ok.cab x c hfn hc)))).trans (I.base.keep b o e n hb hx)
  . obtain⟨sl,e1⟩:=I.base.slot b o e n hb hx;exact⟨sl,(hs.2 b (Nat.ne_of_lt (SD (SI e) (I.ok.cab x c hfn hc)))).trans e1⟩
  . obtain⟨o',e1⟩:=I.base.there b o e hx;exact⟨o',(hs.2 b (Nat.ne_of_lt (SD (SI e) (I.ok.cab x c hfn hc)))).trans e1⟩
  .
   by_cases hj:j=i
   . subst hj;rw[hi]at e1;cases e1;rw[List.getElem?_set_self hiσ]at e2;cases e2;exact⟨u,r,.inr ⟨.inl hk,c,hc,hc'⟩⟩
   .
    rw[List.getElem?_set_ne (Ne.symm hj)]at e2;obtain⟨u',r',q⟩:=hl j y v' e1 e2 e3;refine⟨u',r',?_⟩;rcases q with q|⟨k,c',e,z'⟩
    . exact .inl q
    . refine .inr ⟨k,c',e,z'.sameBut hs ?_⟩;rintro rfl;exact hj (yl hN e1 (I.ok.inj _ _ _ e hc ▸ hi))
  .
   by_cases hcc:c'=c
   . subst hcc;exact⟨_,hc'⟩
   . obtain⟨w2,z2⟩:=I.cell y c' e;exact⟨w2,z2.sameBut hs hcc⟩
  . obtain⟨e,n,ne,nf,d⟩:=I.pin p hp;refine⟨(hs.2 p.1 ?_).trans e,n,ne,nf,d⟩;intro q;rw[q,hoc]at e;have q':oc=p.2:=Option.some.inj e;exact d w' (by rw[<- q'];exact hocd)
theorem l8{M:Model}{A:Around}{E:Value->Shared->Prop}{i:Nat}{x:Str}{v:V}{u:Value}{Q:Unit->Shared->Prop}(I:Oq X gV σ H s)(hN:X.N.Nodup)(hi:X.N[i]?=some x)(hx:Oo X.env.scope x)(r:bU v u)
  (h:∀s',Oq X gV (σ.set i (some v)) H s'->Q () s') (hf:X.fn x=true∨X.env.scope.names.lookup x=some .local:=by first|exact .inl rfl|exact .inr rfl|assumption):wpAny M A (storeName X.env x u) Q E s :=
 u5 I hN hi hx r (λs' I' _=>h s' I') hf
theorem Oq.call'{s':Shared}{ch:List Addr}(I:Oq X gV σ H s)(ho:s'.os=s.os)(u:Un (Om X.stack) ch H H' s.heap s'.heap)(hok:Oh X.prog X.w H' s'.heap)(hg:AllBare s'.gens)
  (hch:∀b∈ch,(b∈X.ex∨X.s₀.heap.objs.size<=b)/\b≠X.env.locals/\(∀x c,X.env.cells.lookup x=some c->c≠b)/\∀p∈X.pn++gV,p.1≠b):Oq X gV σ H' s':=by
 obtain⟨h',g',d',t',o'⟩:=s';have e:o'=s.os:=ho;subst e;exact I.call (g':=g') (t':=t') (d':=d') u hok hg hch
end
noncomputable abbrev XK:=Value->Option Addr->Hp->Prop
noncomputable abbrev St:=List (Option V)
noncomputable abbrev VK:=V->Hp->Prop
abbrev TE:=St->Hp->VK->Prop
noncomputable abbrev TT:=St->Hp->(Bool->Hp->Prop)->Prop
noncomputable abbrev TA:=St->Hp->(List V->Hp->Prop)->Prop
structure Jk where
 nx:St->Hp->Prop
 rt:VK
 bk:St->Hp->Prop:=λ_ _=>False
 ct:St->Hp->Prop:=λ_ _=>False
abbrev TS:=Jk->St->Hp->Prop
def EP(X:Cx)(gV:List (Addr×Obj))(σ:St)(Q:VK)(u:Value)(s':Shared):Prop:=∃v H',Oq X gV σ H' s'/\bU v u/\Q v H'
def TP(X:Cx)(gV:List (Addr×Obj))(σ:St)(Q:Bool->Hp->Prop)(b:Bool)(s':Shared):Prop:=∃H',Oq X gV σ H' s'/\Q b H'
def AP(X:Cx)(gV:List (Addr×Obj))(σ:St)(Q:List V->Hp->Prop)(us:List Value)(s':Shared):Prop:=∃vs H',Oq X gV σ H' s'/\bZ vs us/\Q vs H'
def SP(X:Cx)(gV:List (Addr×Obj))(D:Jk)(f:Flow)(s':Shared):Prop :=
 match f with
 |.next=>∃σ' H',Oq X gV σ' H' s'/\D.nx σ' H'
 |.brk=>∃σ' H',Oq X gV σ' H' s'/\D.bk σ' H'
 |.cont=>∃σ' H',Oq X gV σ' H' s'/\D.ct σ' H'
 |.ret u=>∃v σ' H',Oq X gV σ' H' s'/\bU v u/\D.rt v H'
def PE(X:Cx)(e:Expr)(t:TE):Prop :=
 ∀(gV:List (Addr×Obj))(s:Shared)(σ:St)(H:Hp)(Q:VK),Oq X gV σ H s->t σ H Q->wpAny (model X.prog X.w) X.A (eval e X.env) (EP X gV σ Q) X.xe s
def PT(X:Cx)(e:Expr)(t:TT):Prop :=
 ∀(gV:List (Addr×Obj))(s:Shared)(σ:St)(H:Hp)(Q:Bool->Hp->Prop),Oq X gV σ H s->t σ H Q->wpAny (model X.prog X.w) X.A (isTrue e X.env (eval e X.env)) (TP X gV σ Q) X.xe s
def PA(X:Cx)(es:List Expr)(t:TA):Prop :=
 ∀(pos:Pos)(gV:List (Addr×Obj))(s:Shared)(σ:St)(H:Hp)(Q:List V->Hp->Prop),Oq X gV σ H s->t σ H Q->wpAny (model X.prog X.w) X.A (spliced (backTo pos (starEach es X.env))) (AP X gV σ Q) X.xe s
def PS(X:Cx)(st:Stmt)(t:TS):Prop :=
 ∀(gV:List (Addr×Obj))(s:Shared)(σ:St)(H:Hp)(D:Jk),Oq X gV σ H s->t D σ H->wpAny (model X.prog X.w) X.A (exec st X.env) (SP X gV D) X.xe s
def Os(X:Cx)(st:List Stmt)(t:TS):Prop :=
 ∀(gV:List (Addr×Obj))(s:Shared)(σ:St)(H:Hp)(D:Jk),Oq X gV σ H s->t D σ H->wpAny (model X.prog X.w) X.A (execs st X.env) (SP X gV D) X.xe s
theorem Ot{α:Type}{t:Sem α}{Q Q':α->Shared->Prop}{M:Model}{A:Around}{E:Value->Shared->Prop}{s:Shared}(h:wpAny M A t Q E s)(hQ:∀a s,Q a s->Q' a s):wpAny M A t Q' E s:=wpAny_mono h hQ λ_ _ x=>x
section
variable{X:Cx}
theorem Ou{a b:Expr}{ta tb:TE}(ha:PE X a ta)(hb:PE X b tb){gV:List (Addr×Obj)}{s:Shared}{σ:St}{H:Hp}{R:V->V->Hp->Prop}(I:Oq X gV σ H s)(h:ta σ H λx H1=>tb σ H1 λy H2=>R x y H2)
  {α:Type} {Q:α->Shared->Prop} {f:Value->Value->Sem α}
  (hf:∀v u s2 x y H2,Oq X gV σ H2 s2->bU x v->bU y u->R x y H2->wpAny (model X.prog X.w) X.A (f v u) Q X.xe s2) :
  wpAny (model X.prog X.w) X.A (eval a X.env) (λv s₁=>wpAny (model X.prog X.w) X.A (eval b X.env) (λu s₂=>wpAny (model X.prog X.w) X.A (f v u) Q X.xe s₂) X.xe s₁) X.xe s:=by
 refine Ot (ha gV s σ H _ I h) λv s1 jqz=>?_;obtain⟨x,H1,I1,r1,q1⟩:=jqz;refine Ot (hb gV s1 σ H1 _ I1 q1) λu s2 jqz=>?_;obtain⟨y,H2,I2,r2,q2⟩:=jqz;exact hf v u s2 x y H2 I2 r1 r2 q2
def GD(i:Nat):TE:=λσ H Q=>∃v,σ[i]?=some (some v)/\Q v H
def tC(v:V):TE:=λ_ H Q=>Q v H
theorem cR{i:Nat}{x:Str}{pos:Pos}(hN:X.N[i]?=some x)(hv:On X.env.scope x) (hd:(x == ("__debug__" : Str))=false:=by decide) (hcd:(x == ("__classdict__" : Str))=false:=by decide):PE X (.Name x pos) (GD i):=by
 intro gV s σ H Q I h;obtain⟨v,e,h⟩:=h;obtain⟨m,hn,hl⟩:=I.loc;obtain⟨u,r,l⟩:=hl i x v hN e hv;have Ov:EP X gV σ Q u s:=⟨v,H,I,r,h⟩;rcases l with⟨hk,hm⟩|⟨hk,c,hc,hcell⟩
 . exact wpAny_Name (wpAny_loadName_local I.ok.kind hk hn hm Ov) hd
 .
  rcases hk with hk|hk
  . exact wpAny_Name (wpAny_loadName_cell I.ok.kind hk hc hcell Ov) hd
  . exact wpAny_Name (wpAny_loadName_free I.ok.kind hk hc hcell Ov hcd) hd
theorem Jx {i j pos}:PE X (.Constant (.int i) j pos) (tC (.int i)):=λ_ _ _ H _ I h=>wpAny_Constant_int ⟨.int i,H,I.tok _,⟨_,rfl⟩,h⟩
theorem Mb {b j pos}:PE X (.Constant (.bool b) j pos) (tC (.bl b)):=λ_ _ _ H _ I h=>Constant_bool ⟨.bl b,H,I,rfl,h⟩
theorem Jy {j pos}:PE X (.Constant .none j pos) (tC .non):=λ_ _ _ H _ I h=>Constant_none ⟨.non,H,I,rfl,h⟩
theorem AQ {x j pos}:PE X (.Constant (.str x) j pos) (tC (.str x)):=λ_ _ _ H _ I h=>Calls.Constant_str ⟨.str x,H,I.tok _,⟨_,rfl⟩,h⟩
def Gl(X:Cx)(x:Str):Prop:=X.env.kindOf x=some .globalImplicit
theorem k8{E:Value->Shared->Prop}{gV:List (Addr×Obj)}{s:Shared}{σ:St}{H:Hp}{x:Str}{u:Value}{pos:Pos}{Q:Value->Shared->Prop}(I:Oq X gV σ H s)(hg:Gl X x)(hm:X.mg x=some u)(h:Q u s)
  (hd:(x == ("__debug__" : Str))=false:=by decide):wpAny (model X.prog X.w) X.A (eval (.Name x pos) X.env) Q E s :=
 Calls.Name_function_global I.ok.kind hg (Calls.loadGlobal_global (by rw[I.ok.glob];exact I.mod.glob.keeps I.bk) hm h) hd
theorem iJ{E:Value->Shared->Prop}{gV:List (Addr×Obj)}{s:Shared}{σ:St}{H:Hp}{x:Str}{u:Value}{pos:Pos}{Q:Value->Shared->Prop}(I:Oq X gV σ H s)(hg:Gl X x)(hm:X.mg x=none)(hv:bootBuiltins x=some u)(h:Q u s)
  (hn:x≠"__name__":=by decide) (hd:(x == ("__debug__" : Str))=false:=by decide):wpAny (model X.prog X.w) X.A (eval (.Name x pos) X.env) Q E s:=by
 obtain⟨mb,h1,h2⟩:=I.mod.blt;exact Calls.Name_function_global I.ok.kind hg (Calls.loadGlobal_builtin (by rw[I.ok.glob];exact I.mod.glob.keeps I.bk) hm (by rw[I.ok.blt];exact h1.keeps I.bk) ((h2 x hn).trans hv) h) hd
theorem GE{x:Str}{v:V}{u:Value}{pos:Pos}(hg:Gl X x)(hm:X.mg x=some u)(r:bU v u) (hd:(x == ("__debug__" : Str))=false:=by decide):PE X (.Name x pos) (tC v) :=
 λ_ _ _ H _ I h=>k8 I hg hm ⟨v,H,I,r,h⟩ hd
theorem GF{x:Str}{v:V}{u:Value}{pos:Pos}(hg:Gl X x)(hm:X.mg x=none)(hv:bootBuiltins x=some u)(r:bU v u) (hn:x≠"__name__":=by decide) (hd:(x == ("__debug__" : Str))=false:=by decide):PE X (.Name x pos) (tC v) :=
 λ_ _ _ H _ I h=>iJ I hg hm hv ⟨v,H,I,r,h⟩ hn hd
variable{a b:Expr}{ta tb:TE}{pos:Pos}
noncomputable def tB(t:TE):TT:=λσ H Q=>t σ H λx H1=>∃c,x=.bl c/\Q c H1
end
def Ow(K:PySem.W.Frag)(H:Hp)(a:Addr)(xs:List V):Prop :=
 Rd H a (.lst xs) ∨
  ∃(o:Obj)(its:Array Value)(n:Nat),K.lookup a=some o/\o.cls=.type "list"/\o.dict=none/\o.data=.seq its n/\its.size<=sizeLine/\bZ xs its.toList
def Ox(K:PySem.W.Frag)(H:Hp)(a:Addr)(xs:List V):Prop :=
 Rd H a (.tup xs) ∨
  ∃(o:Obj)(its:Array Value)(n:Nat),K.lookup a=some o/\o.cls=.type "tuple"/\o.data=.seq its n/\its.size<=sizeLine/\bZ xs its.toList
noncomputable def NF:Value->Option V
 |.none=>some .non
 |.bool b=>some (.bl b)
 |.int i _=>some (.int i)
 |.str x _=>some (.str x)
 |.bytes b _=>some (.byt b)
 |.float b _=>some (.flt b)
 |.ref a=>some (.ref a)
 |.type n=>some (.ty n)
 |_=>none
theorem bU.abs{x:V}{u:Value}(r:bU x u):NF u=some x:=by
 cases x with
 |non=>cases r;rfl
 |bl _=>cases r;rfl
 |int _=>obtain⟨t,rfl⟩:=r;rfl
 |str _=>obtain⟨t,rfl⟩:=r;rfl
 |byt _=>obtain⟨t,rfl⟩:=r;rfl
 |flt _=>obtain⟨t,rfl⟩:=r;rfl
 |ref _=>cases r;rfl
 |ty _=>cases r;rfl
theorem bU.inj{x y:V}{u:Value}(r:bU x u)(q:bU y u):x=y:=Option.some.inj (r.abs.symm.trans q.abs)
theorem bZ.inj:∀{xs ys:List V}{us:List Value},bZ xs us->bZ ys us->xs=ys
 |_,_,_,.nil,.nil=>rfl
 |_,_,_,.cons r t,.cons r' t'=>by rw[r.inj r',bZ.inj t t']
section
variable{X:Cx}{gV:List (Addr×Obj)}{σ:St}{H:Hp}{s:Shared}{a:Addr}{xs ys:List V}
theorem Ow.of{K:PySem.W.Frag}(h:H a=some (.lst xs)):Ow K H a xs:=.inl (.inl h)
theorem Ox.of{K:PySem.W.Frag}(h:H a=some (.tup xs)):Ox K H a xs:=.inl (.inl h)
theorem Oq.list(I:Oq X gV σ H s)(h:Ow X.K H a xs):∃its:List Value,bZ xs its/\PlainL s.heap a its.toArray/\xs.length<=sizeLine:=by
 rcases h with h|⟨o,its,n,hk,hc,hd,hs,hz,r⟩
 . obtain⟨z,its,n,r,e⟩:=h.ok I.hok;exact⟨its,r,⟨_,n,e,rfl,rfl,rfl⟩,z⟩
 . refine⟨its.toList,r,⟨o,n,I.kIn a o hk,hc,hd,by simpa using hs⟩,?_⟩;have e:=r.length;simp only[Array.length_toList]at e;omega
theorem Oq.tuple(I:Oq X gV σ H s)(h:Ox X.K H a xs):∃its:List Value,bZ xs its/\IsTup s.heap a its.toArray/\xs.length<=sizeLine:=by
 rcases h with h|⟨o,its,n,hk,hc,hs,hz,r⟩
 . obtain⟨z,its,r,p⟩:=h.ok I.hok;exact⟨its,r,p,z⟩
 . refine⟨its.toList,r,⟨o,I.kIn a o hk,hc,n,by simpa using hs⟩,?_⟩;have e:=r.length;simp only[Array.length_toList]at e;omega
theorem Oq.list_inj(I:Oq X gV σ H s)(h:Ow X.K H a xs)(h':Ow X.K H a ys):xs=ys:=by
 obtain⟨its,r,⟨o,n,e,_,_,d⟩,_⟩:=I.list h;obtain⟨its',r',⟨o',n',e',_,_,d'⟩,_⟩:=I.list h';rw[e]at e';cases e';rw[d]at d';injection d' with d1 _;have:its=its':=by simpa using congrArg Array.toList d1
 subst this;exact r.inj r'
theorem Oq.tuple_inj(I:Oq X gV σ H s)(h:Ox X.K H a xs)(h':Ox X.K H a ys):xs=ys:=by
 obtain⟨its,r,⟨o,e,_,n,d⟩,_⟩:=I.tuple h;obtain⟨its',r',⟨o',e',_,n',d'⟩,_⟩:=I.tuple h';rw[e]at e';cases e';rw[d]at d';injection d' with d1 _;have:its=its':=by simpa using congrArg Array.toList d1
 subst this;exact r.inj r'
end
noncomputable abbrev Cx.wish(X:Cx)(E:Value->Shared->Prop):Cx:={X with xe:=E}
noncomputable abbrev Cx.nox(X:Cx):Cx:=X.wish λ_ _=>False
theorem Cx.Ok.wish{X:Cx}(ok:X.Ok)(E:Value->Shared->Prop):(X.wish E).Ok :=
 ⟨ok.mod,ok.kind,ok.glob,ok.blt,ok.above,ok.inj,ok.has,ok.cab,ok.hd,ok.frames,ok.stk,ok.exf,ok.bs,ok.bsz,ok.noex,ok.exfs,ok.funs,ok.frf,ok.tbs⟩
theorem Cx.Ok.unwish{X:Cx}{E:Value->Shared->Prop}(ok:(X.wish E).Ok):X.Ok :=
 ⟨ok.mod,ok.kind,ok.glob,ok.blt,ok.above,ok.inj,ok.has,ok.cab,ok.hd,ok.frames,ok.stk,ok.exf,ok.bs,ok.bsz,ok.noex,ok.exfs,ok.funs,ok.frf,ok.tbs⟩
section
variable{X:Cx}{gV:List (Addr×Obj)}{σ:St}{H:Hp}{s:Shared}{E:Value->Shared->Prop}
theorem Oq.wish(I:Oq X gV σ H s)(E:Value->Shared->Prop):Oq (X.wish E) gV σ H s:=⟨I.ok.wish E,I.os,I.bare,I.base,I.loc,I.cell,I.free,I.freeC,I.pin,I.hok,I.len⟩
theorem Oq.unwish(I:Oq (X.wish E) gV σ H s):Oq X gV σ H s:=⟨I.ok.unwish,I.os,I.bare,I.base,I.loc,I.cell,I.free,I.freeC,I.pin,I.hok,I.len⟩
theorem SP.unwish{D:Jk}{f:Flow}{s':Shared}(h:SP (X.wish E) gV D f s'):SP X gV D f s':=by
 cases f with
 |next=>obtain⟨σ',H',I,q⟩:=h;exact⟨σ',H',I.unwish,q⟩
 |brk=>obtain⟨σ',H',I,q⟩:=h;exact⟨σ',H',I.unwish,q⟩
 |cont=>obtain⟨σ',H',I,q⟩:=h;exact⟨σ',H',I.unwish,q⟩
 |ret u=>obtain⟨v,σ',H',I,r,q⟩:=h;exact⟨v,σ',H',I.unwish,r,q⟩
theorem Os.nox{st:List Stmt}{t:TS}(h:Os X.nox st t):Os X st t:=λgV s σ H D I hw =>
 wpAny_mono (h gV s σ H D (I.wish _) hw) (λ_ _ q=>q.unwish) λ_ _ z=>False.elim z
end
section
variable{X:Cx}{st:Stmt}{cL:List Stmt}{t u:TS}{e:Expr}{te:TE}{pos:Pos}
def M8(t u:TS):TS:=λD σ H=>t {D with nx:=u D} σ H
theorem Ds(h1:PS X st t)(h2:Os X cL u):Os X (st::cL) (M8 t u):=by
 intro gV s σ H D I h;refine wpAny_execs_cons (Ot (h1 gV s σ H {D with nx:=u D} I h) λf s1 q=>?_)
 cases f with
 | next =>
  obtain⟨σ',H',I',q⟩:=q;exact h2 gV s1 σ' H' D I' q
 |ret v=>exact q
 |brk=>exact q
 |cont=>exact q
theorem AR(h1:PS X st t):Os X [st] t:=by
 intro gV s σ H D I h;refine wpAny_execs_cons (Ot (h1 gV s σ H D I h) λf s1 q=>?_)
 cases f with
 |next=>exact wpAny_execs_nil q
 |ret v=>exact q
 |brk=>exact q
 |cont=>exact q
theorem Oq.quiet{gV:List (Addr×Obj)}{σ:St}{H:Hp}{s:Shared}(I:Oq X gV σ H s):interactive X.env=false:=by simp[interactive,I.ok.kind]
def GG(te:TE):TS:=λD σ H=>te σ H λ_ H1=>D.nx σ H1
theorem AU(he:PE X e te)(hs:swapsWith e none pos.line X.env=pure false:=by rfl):PS X (.Expr e pos) (GG te):=by intro gV s σ H D I h;exact wpAny_Expr_any (Ot (he gV s σ H _ I h) λv s1 ⟨x,H1,I1,r1,q1⟩=>⟨σ,H1,I1,q1⟩) I.quiet hs
end
noncomputable abbrev TG:=V->St->Hp->(St->Hp->Prop)->Prop
noncomputable abbrev Oy:=List V->St->Hp->(St->Hp->Prop)->Prop
def PG(X:Cx)(target:Expr)(t:TG):Prop :=
 ∀(gV:List (Addr×Obj))(s:Shared)(σ:St)(H:Hp)(v:V)(u:Value)(Q:St->Hp->Prop),Oq X gV σ H s->bU v u->t v σ H Q ->
  wpAny (model X.prog X.w) X.A (assign target X.env u) (λ_ s'=>∃σ' H',Oq X gV σ' H' s'/\Q σ' H') X.xe s
def Oz(X:Cx)(ts:List Expr)(t:Oy):Prop :=
 ∀(gV:List (Addr×Obj))(s:Shared)(σ:St)(H:Hp)(vs:List V)(us:List Value)(Q:St->Hp->Prop),Oq X gV σ H s->bZ vs us->t vs σ H Q ->
  wpAny (model X.prog X.w) X.A (assignInOrder ((assignEach ts X.env).map (·.2)) us) (λ_ s'=>∃σ' H',Oq X gV σ' H' s'/\Q σ' H') X.xe s
noncomputable abbrev Mc:=V->V->V->Hp->(Hp->Prop)->Prop
def M9(X:Cx)(t:Mc):Prop :=
 ∀(gV:List (Addr×Obj))(s:Shared)(σ:St)(H:Hp)(o i v:V)(ov iv u:Value)(Q:Hp->Prop),Oq X gV σ H s->bU o ov->bU i iv->bU v u->t o i v H Q ->
  wpAny (model X.prog X.w) X.A (setItem ov iv u) (λ_ s'=>∃H',Oq X gV σ H' s'/\Q H') X.xe s
noncomputable abbrev OA:=V->V->Hp->VK->Prop
def OB(X:Cx)(op:Operator)(t:OA):Prop :=
 ∀(gV:List (Addr×Obj))(s:Shared)(σ:St)(H:Hp)(x y:V)(v u:Value)(Q:VK),Oq X gV σ H s->bU x v->bU y u->t x y H Q ->
  wpAny (model X.prog X.w) X.A (inplaceOp op v u) (EP X gV σ Q) X.xe s
section
variable{X:Cx}{pos:Pos}
noncomputable def Md(i:Nat):TG:=λv σ H Q=>Q (σ.set i (some v)) H
theorem tI{i:Nat}{x:Str}(hN:X.N.Nodup)(hi:X.N[i]?=some x)(hx:Oo X.env.scope x)(hf:X.fn x=true∨X.env.scope.names.lookup x=some .local:=by first|exact .inl rfl|exact .inr rfl|assumption):PG X (.Name x pos) (Md i):=by intro gV s σ H v u Q I r h;exact wpAny_assign_Name (l8 I hN hi hx r (λs' I'=>⟨_,H,I',h⟩) hf)
noncomputable def NG:Oy:=λvs σ H Q=>vs=[]/\Q σ H
noncomputable def Me(t:TG)(u:Oy):Oy:=λvs σ H Q=>∃v r,vs=v::r/\t v σ H λσ' H'=>u r σ' H' Q
theorem AV:Oz X [] NG:=by intro gV s σ H vs us Q I r h;obtain⟨e,h⟩:=h;subst e;cases r;exact assignInOrder_nil ⟨σ,H,I,h⟩
theorem ym{e:Expr}{es:List Expr}{t:TG}{u:Oy}(h1:PG X e t)(h2:Oz X es u)
  (hs:(assignEach (e::es) X.env).map (·.2)=assign e X.env::(assignEach es X.env).map (·.2):=by rfl):Oz X (e::es) (Me t u):=by
 intro gV s σ H vs us Q I r h;obtain⟨v,vr,e1,h⟩:=h;subst e1
 cases r with
 | cons r rr =>
  rw[hs];refine assignInOrder_cons (Ot (h1 gV s σ H _ _ _ I r h) λ_ s1 jqz=>?_);obtain⟨σ1,H1,I1,q1⟩:=jqz;exact h2 gV s1 σ1 H1 _ _ Q I1 rr q1
noncomputable def NH(K:PySem.W.Frag)(n:Nat)(t:Oy):TG:=λv σ H Q=>∃a xs,v=.ref a/\Ox K H a xs/\xs.length=n/\t xs σ H Q
theorem FT{es:List Expr}{k:Nat}{t:Oy}{n:Nat}(hc:X.calm=true)(h:Oz X es t)
  (hn:(assignEach es X.env).length=n:=by rfl) (hst:(assignEach es X.env).findIdx? (·.1)=none:=by rfl):PG X (.Tuple es k pos) (NH X.K n t):=by
 intro gV s σ H v u Q I r hw;obtain⟨a,xs,e1,hq,hl,hw⟩:=hw;subst e1;cases r;obtain⟨its,rv,ht,hz⟩:=I.tuple hq;refine assign_Tuple_tuple (I.ok.hd hc) ht (by simp[hn,<- hl,rv.length]) hst λh' hx=>?_;have I1:Oq X gV σ H {s with heap:=h' }:=I.kept (t':=s.toks) λb o e=>hx b o (Nat.ne_of_lt (SI e)) e;exact h gV _ σ H xs _ Q I1 (by simpa using rv) hw
noncomputable def NI(to ti:TE)(t:Mc):TG:=λv σ H Q=>to σ H λo H1=>ti σ H1 λi H2=>t o i v H2 λH3=>Q σ H3
theorem Jz{o i:Expr}{to ti:TE}{t:Mc}(ho:PE X o to)(hi:PE X i ti)(hs:M9 X t)
  (ha:∀v,assign (.Subscript o i pos) X.env v=(do
   let ov <- holding [v] (eval o X.env)
   let iv <- holding [v,ov] (eval i X.env)
   standAt pos
   holding [v,ov,iv] (setItem ov iv v)
   release [v,ov,iv] []):=by intro _;rfl):PG X (.Subscript o i pos) (NI to ti t):=by
 intro gV s σ H v u Q I r h;rw[ha];refine kS (wpAny_holding (Ot (ho gV s σ H _ I h) λov s1 jqz=>?_));obtain⟨x,H1,I1,r1,q1⟩:=jqz;refine kS (wpAny_holding (Ot (hi gV s1 σ H1 _ I1 q1) λiv s2 jqz=>?_));obtain⟨y,H2,I2,r2,q2⟩:=jqz;refine kS (wpAny_standAt (kS (wpAny_holding (Ot (hs gV s2 σ H2 x y v ov iv u _ I2 r1 r2 r q2) λ_ s3 jqz=>?_))));obtain⟨H3,I3,q3⟩:=jqz;exact wpAny_release ⟨σ,H3,I3,q3⟩
def NJ(te:TE)(g:TG):TS:=λD σ H=>te σ H λx H1=>g x σ H1 D.nx
theorem JA{tg e:Expr}{te:TE}{g:TG}(he:PE X e te)(hg:PG X tg g)(hs:swapsWithSole [tg] e pos.line X.env=pure false:=by rfl)(hw:swappedStores [tg] e X.env=pure none:=by rfl)
  (h1:(assignEach [tg] X.env).map (·.2)=[assign tg X.env]:=by rfl):PS X (.Assign [tg] e pos) (NJ te g):=by
 intro gV s σ H D I h;refine wpAny_Assign_stores (Ot (he gV s σ H _ I h) λv s1 ⟨x,H1,I1,r1,q1⟩=>?_) hs hw;rw[h1];exact Ot (hg gV s1 σ H1 x v _ I1 r1 q1) λ_ s2 q=>q
def NK(i j:Nat)(ta:TA):TS:=λD σ H=>ta σ H λvs H1=>∃v w,vs=[v,w]/\D.nx ((σ.set i (some v)).set j (some w)) H1
theorem JB{i j:Nat}{x y:Str}{a b:Expr}{ta:TA}{px py pt:Pos} {kt k2 pt2} (hc:X.calm=true) (hN:X.N.Nodup) (hi:X.N[i]?=some x) (hj:X.N[j]?=some y) (hij:i≠j)
  (hx:X.env.scope.names.lookup x=some .local) (hy:X.env.scope.names.lookup y=some .local) (ha:PA X [a,b] ta)
  (hw:swappedStores [.Tuple [.Name x px,.Name y py] kt pt] (.Tuple [a,b] k2 pt2) X.env=pure (some [x,y]))
  (hs:swapsWithSole [.Tuple [.Name x px,.Name y py] kt pt] (.Tuple [a,b] k2 pt2) pos.line X.env=pure false:=by rfl) :
  PS X (.Assign [.Tuple [.Name x px,.Name y py] kt pt] (.Tuple [a,b] k2 pt2) pos) (NK i j ta):=by
 intro gV s σ H D I h;rw[exec_Assign_arm];refine kS (wpAny_standAt ?_);rw[hs];refine kS (SG ?_);rw[if_neg (by decide)];refine kS (Tuple_ (Ot (ha _ gV s σ H _ I h) λus s1 jqz=>?_));obtain⟨vs,H1,I1,r1,q1⟩:=jqz;obtain⟨v,w,e1,q1⟩:=q1;subst e1
 obtain⟨u1,u2,rfl,rv,rw'⟩:∃u1 u2,us=[u1,u2]/\bU v u1/\bU w u2:=by
  cases r1 with
  | cons p q =>
   cases q with
   | cons p' q' =>
    cases q';exact⟨_,_,rfl,p,p'⟩
 refine wpAny_newObj_type ?_ (by show 2<=sizeLine;decide);have I2:Oq X gV σ H1 {s1 with heap:=s1.heap.push {cls:=.type "tuple",data:=.seq [u1,u2].toArray} }:=I1.kept (t':=s1.toks) λb o e=>tu _ e;rw[hw];refine kS (SG ?_)
 show wpAny (model X.prog X.w) X.A (do rule "assign.swapped-stores"; let items <- unpackItems (.ref s1.heap.objs.size) 2 none; assignInOrder [λv=>bindName X.env y v,λv=>bindName X.env x v] items.reverse; pure Flow.next) _ _ _
 refine kS (wpAny_rule (kS (unpackItems_tuple (items:=#[u1,u2]) (I.ok.hd hc) (IsTup.new s1.heap _) λh' hx'=>?_)));have I3:=I2.kept (h':=h') (t':=s1.toks) λb o e=>hx' b o (Nat.ne_of_lt (SI e)) e
 show wpAny _ _ (assignInOrder [λv=>bindName X.env y v,λv=>bindName X.env x v] [u2,u1] >>= λ_=>pure Flow.next) _ _ _
 refine kS (assignInOrder_cons (wpAny_bindName (l8 I3 hN hj (.inl hy) rw' (λs2 I4=>?_) (.inr hy))));refine assignInOrder_cons (wpAny_bindName (l8 I4 hN hi (.inl hx) rv (λs3 I5=>assignInOrder_nil (SG ?_)) (.inr hx)));rw[List.set_comm _ _ (Ne.symm hij)]at I5;exact⟨_,H1,I5,q1⟩
def NL(i:Nat)(te:TE)(ti:OA):TS:=λD σ H=>∃x,σ[i]?=some (some x)/\te σ H λy H1=>ti x y H1 λz H2=>D.nx (σ.set i (some z)) H2
theorem JC{i:Nat}{x:Str}{e:Expr}{te:TE}{op:Operator}{ti:OA}{pos':Pos}(hN:X.N.Nodup)(hi:X.N[i]?=some x)(hx:Oo X.env.scope x)(he:PE X e te)(ho:OB X op ti)(hf:X.fn x=true∨X.env.scope.names.lookup x=some .local:=by first|exact .inl rfl|exact .inr rfl|assumption) :
  PS X (.AugAssign (.Name x pos') op e pos) (NL i te ti):=by
 intro gV s σ H D I h;obtain⟨v,e1,h⟩:=h;obtain⟨m,hn,hl⟩:=I.loc;have OC:On X.env.scope x:=by rcases hx with k|k;exact .inl k;exact .inr (.inl k)
 obtain⟨u,r,l⟩:=hl i x v hi e1 OC;refine wpAny_AugAssign_Name ?_
 have go:wpAny (model X.prog X.w) X.A (eval e X.env) (λw s₂=>wpAny (model X.prog X.w) X.A (inplaceOp op u w) (λr s₃=>wpAny (model X.prog X.w) X.A (storeName X.env x r) (λ_=>SP X gV D .next) X.xe s₃) X.xe s₂) X.xe s:=by refine Ot (he gV s σ H _ I h) λw s1 ⟨y,H1,I1,r1,q1⟩=>?_;refine Ot (ho gV s1 σ H1 v y u w _ I1 r r1 q1) λz s2 jqz=>?_;obtain⟨zv,H2,I2,r2,q2⟩:=jqz;exact l8 I2 hN hi hx r2 (λs3 I3=>⟨_,H2,I3,q2⟩) hf
 rcases l with⟨hk,hm⟩|⟨hk,c,hc,hcell⟩
 . exact wpAny_loadName_local I.ok.kind hk hn hm go
 .
  rcases hk with hk|hk
  . exact wpAny_loadName_cell I.ok.kind hk hc hcell go
  .
   rcases hx with k|k
   . have:X.env.scope.names.lookup x=some .free:=hk;rw[k]at this;cases this
   . have:X.env.scope.names.lookup x=some .free:=hk;rw[k]at this;cases this
noncomputable def OD(f:Int->Int->Int):OA:=λx y H Q=>∃i j,x=.int i/\y=.int j/\Q (.int (f i j)) H
theorem JD:OB X .Add (OD λi j=>i+j):=by intro gV s σ H x y v u Q I r1 r2 h;obtain⟨i,j,e1,e2,q⟩:=h;subst e1;subst e2;obtain⟨t,rfl⟩:=r1;obtain⟨t',rfl⟩:=r2;exact iadd_int ⟨.int _,H,I.tok _,⟨_,rfl⟩,q⟩
end
section
variable{X:Cx}{pos:Pos}
def JE(c:TT)(tb:TS):TS:=λD σ H=>∃W:Nat->St->Hp->Prop,(∃m,W m σ H)/\∀m σ H,W m σ H ->
 c σ H λb H1=>if b=true then ∃N:St->Hp->Prop,(∀σ' H',N σ' H'->∃m',m' < m/\W m' σ' H')/\tb {D with nx:=N,ct:=N,bk:=D.nx} σ H1 else D.nx σ H1
theorem Dt{c:Expr}{body:List Stmt}{tc:TT}{tb:TS}(hp:PassesOwn (model X.prog X.w) X.A X.env X.xe)(hc:PT X c tc)(hb:Os X body tb):PS X (.While c body [] pos) (JE tc tb):=by
 intro gV s σ H D I h;obtain⟨W,⟨m0,w0⟩,turn⟩:=h;refine wpAny_While (codeAny_whileLoop (λn s'=>∃σ' H',Oq X gV σ' H' s'/\W n σ' H') ?_ m0 ⟨σ,H,I,w0⟩);rintro n s1 ⟨σ1,H1,I1,w1⟩;refine wpAny_passesOwn hp (Ot (hc gV s1 σ1 H1 _ I1 (turn n σ1 H1 w1)) λb s2 jqz=>?_);obtain⟨H2,I2,q2⟩:=jqz
 cases b with
 | true =>
  obtain⟨N,hN,q2⟩:=q2;rw[if_pos rfl];refine wpAny_passesOwn hp (Ot (hb gV s2 σ1 H2 _ I2 q2) λf s3 q3=>?_)
  cases f with
  | next =>
   obtain⟨σ3,H3,I3,n3⟩:=q3;obtain⟨m',hm,w3⟩:=hN σ3 H3 n3;exact⟨m',hm,σ3,H3,I3,w3⟩
  | cont =>
   obtain⟨σ3,H3,I3,n3⟩:=q3;obtain⟨m',hm,w3⟩:=hN σ3 H3 n3;exact⟨m',hm,σ3,H3,I3,w3⟩
  |brk=>exact q3
  |ret v=>exact q3
 | false =>
  rw[if_neg Bool.false_ne_true];exact wpAny_execs_nil ⟨σ1,H2,I2,q2⟩
end
structure It where
 go:Nat->Hp->Prop
 yld:Nat->Hp->V->Hp->Prop
 stop:Nat->Hp->Prop
def Dk(X:Cx)(gV:List (Addr×Obj))(H:Hp)(b:Addr):Prop :=
 H b=none/\b≠X.env.locals/\b∉X.fs/\(b∈X.ex∨X.s₀.heap.objs.size<=b)/\(∀x c,X.env.cells.lookup x=some c->c≠b)/\∀p∈X.pn++gV,p.1≠b
theorem Oq.fpOk{X:Cx}{gV:List (Addr×Obj)}{σ:St}{H H':Hp}{s:Shared}{b:Addr}(I:Oq X gV σ H s)(hb:s.heap.objs.size<=b)(hn:H' b=none):Dk X gV H' b:=by
 refine⟨hn,Nat.ne_of_gt (SD I.lt hb),I.nofs hb,.inr (SJ I.sz hb),λx c e z=>?_,λp hp z=>?_⟩
 . obtain⟨v,q⟩:=I.cell x c e;exact absurd (SD q.lt (by rw[z];exact hb)) (Nat.lt_irrefl _)
 . exact absurd (SD (SI (I.pin p hp).1) (by rw[z];exact hb)) (Nat.lt_irrefl _)
structure GH (P:Program) (w:World) (K:PySem.W.Frag) (tg:Expr) (J:It) (fp:List Addr) (it:Addr) (tn:Nat->Heap->Prop):Prop where
 mem:it∈fp
 obj:∀i h,tn i h->∀b∈fp,∃o,h.get? b=some o/\∀v,o.data≠.cell v
 keep:∀i h h',tn i h->(∀b∈fp,∀o,h.get? b=some o->h'.get? b=some o)->tn i h'
 item:∀(X:Cx),X.prog=P->X.w=w->X.K=K->X.calm=true->∀(i:Nat)(gV:List (Addr×Obj))(s:Shared)(σ:St)(H:Hp)(E:Value->Shared->Prop),Oq X gV σ H s->(∀b∈fp,Dk X gV H b)->tn i s.heap->J.go i H ->
  wpAny (model P w) X.A (pyNext (.ref it)) (λr s1=>∃u,r=some u /\
   wpAny (model P w) X.A (letOwnedTupleGo tg (.ref it) u) (λ_ s2=>∃x H',Oq X gV σ H' s2/\bU x u/\J.yld i H x H'/\tn (i+1) s2.heap/\∀b∈fp,H' b=none) E s1) E s
 done:∀(X:Cx),X.prog=P->X.w=w->X.K=K->X.calm=true->∀(i:Nat)(gV:List (Addr×Obj))(s:Shared)(σ:St)(H:Hp)(E:Value->Shared->Prop),Oq X gV σ H s->(∀b∈fp,Dk X gV H b)->tn i s.heap->J.stop i H ->
  wpAny (model P w) X.A (pyNext (.ref it)) (λr s1=>r=none/\Oq X gV σ H s1) E s
 self:∀(A:Around)(i:Nat)(s:Shared)(Q:Value->Shared->Prop)(E:Value->Shared->Prop),tn i s.heap->Q (.ref it) s->wpAny (model P w) A (pyIter (.ref it)) Q E s
noncomputable abbrev TI:=St->Hp->(It->Hp->Prop)->Prop
def OE(X:Cx)(gV:List (Addr×Obj))(σ:St)(tg:Expr)(R:It->Hp->Prop)(itv:Value)(s2:Shared):Prop :=
 ∃(it:Addr)(fp:List Addr)(tn:Nat->Heap->Prop)(J:It)(H':Hp),itv=.ref it/\Oq X gV σ H' s2/\GH X.prog X.w X.K tg J fp it tn/\tn 0 s2.heap/\(∀b∈fp,Dk X gV H' b)/\R J H'
def PI(X:Cx)(tg iter:Expr)(wi:TI):Prop :=
 ∀(gV:List (Addr×Obj))(s:Shared)(σ:St)(H:Hp)(R:It->Hp->Prop),Oq X gV σ H s->wi σ H R ->
  wpAny (model X.prog X.w) X.A (eval iter X.env) (λv s1=>wpAny (model X.prog X.w) X.A (pyIter v) (OE X gV σ tg R) X.xe s1) X.xe s
theorem Du {M : Model} {A : Around} {E : Value → Shared → Prop} {s : Shared} {tg : Expr} {it : Addr} {u : Value} {o : Obj} {n : String} {vs : Array Value} {Q : Unit → Shared → Prop} (ho : s.heap.get? it = some o) (hc : o.cls = .type n) (hd : o.data = .fields vs)
    (hn : ["enumerate", "zip", "dict_itemiterator", "dict_reverseitemiterator", "odict_iterator", "itertools.zip_longest", "itertools.pairwise"].contains n = false) (hQ : Q () s) : wpAny M A (letOwnedTupleGo tg (.ref it) u) Q E s := by
  unfold letOwnedTupleGo
  cases tg<;>first
    |exact SG hQ
    | (cases u<;>first
        |exact SG hQ
        | (refine kS (wpAny_load ho ?_)
           rw[hc, hd]
           show wpAny M A (if(["enumerate", "zip", "dict_itemiterator", "dict_reverseitemiterator", "odict_iterator", "itertools.zip_longest", "itertools.pairwise"].contains n && vs[0]? == some (rawInt _)) = true then _ else _) Q E s
           rw[if_neg (by intro h;rw[hn, Bool.false_and]at h;cases h)]
           exact SG hQ))
noncomputable def OF(K:PySem.W.Frag)(a:Addr):It :=
 ⟨λi H=>∃xs x,Ow K H a xs/\xs[i]?=some x,λi H x H'=>H'=H/\∀xs,Ow K H a xs->xs[i]?=some x,λi H=>∃xs,Ow K H a xs/\xs.length<=i⟩
noncomputable def OG(K:PySem.W.Frag)(a:Addr):It :=
 ⟨λi H=>∃xs x,Ox K H a xs/\xs[i]?=some x,λi H x H'=>H'=H/\∀xs,Ox K H a xs->xs[i]?=some x,λi H=>∃xs,Ox K H a xs/\xs.length<=i⟩
noncomputable def OH(lo:Int)(n:Nat):It:=⟨λi _=>i<n,λi H x H'=>H'=H/\x=.int (lo+i),λi _=>n<=i⟩
theorem AW{P:Program}{w:World}{K:PySem.W.Frag}{tg:Expr}(a it:Addr):GH P w K tg (OF K a) [it] it (λi h=>h.IsListIter it a i) where
 mem:=by simp
 obj:=λi h st b hb=>by
  have e:b=it:=by simpa using hb
  subst e;obtain⟨o,e,c,d⟩:=st;exact⟨o,e,λv z=>by rw[d]at z;cases z⟩
 keep:=λi h h' st k=>st.at λo e=>k it v6 o e
 item:=by intro X hP hw hK hc i gV s σ H E I hf st hg;subst hP hw hK;obtain⟨xs,x,hq,hx⟩:=hg;obtain⟨its,rv,p,hz⟩:=I.list hq;obtain⟨u,hu,ru⟩:=rv.get hx;obtain⟨f0,f1,f2,f3,f4,f5⟩:=hf it v6;refine wpAny_pyNext_list_item st p.isList (x:=u) (by simpa using hu) λh' st' sb=>?_;have I1:Oq X gV σ H {s with heap:=h' }:=I.turned (t':=s.toks) (λb o hb e=>(sb.2 b hb).trans e) f0 f1 f3 f4 f5;obtain⟨o,e,c,d⟩:=id st';exact⟨u,rfl,Du (s:={s with heap:=h' }) e c d x_ ⟨x,H,I1,ru,⟨rfl,λys hy=>by rw[I.list_inj hy hq];exact hx⟩,st',λb hb=>(hf b hb).1⟩⟩
 done:=by intro X hP hw hK hc i gV s σ H E I hf st hg;subst hP hw hK;obtain⟨xs,hq,hx⟩:=hg;obtain⟨its,rv,p,hz⟩:=I.list hq;obtain⟨f0,f1,f2,f3,f4,f5⟩:=hf it v6;have hl:=rv.length;exact wpAny_pyNext_list_end (I.ok.hd hc) st p.isList (by simp;omega) λh' eb=>⟨rfl,I.turned (t':=s.toks) (λb o hb e=>eb b o hb e) f0 f1 f3 f4 f5⟩
 self:=λ_ _ _ _ _ st h=>wpAny_pyIter_listiter st h
theorem zy{P:Program}{w:World}{K:PySem.W.Frag}{tg:Expr}(a it:Addr):GH P w K tg (OG K a) [it] it (λi h=>h.IsTupleIter it a i) where
 mem:=by simp
 obj:=λi h st b hb=>by
  have e:b=it:=by simpa using hb
  subst e;obtain⟨o,e,c,d⟩:=st;exact⟨o,e,λv z=>by rw[d]at z;cases z⟩
 keep:=λi h h' st k=>st.at λo e=>k it v6 o e
 item:=by intro X hP hw hK hc i gV s σ H E I hf st hg;subst hP hw hK;obtain⟨xs,x,hq,hx⟩:=hg;obtain⟨its,rv,p,hz⟩:=I.tuple hq;obtain⟨u,hu,ru⟩:=rv.get hx;obtain⟨f0,f1,f2,f3,f4,f5⟩:=hf it v6;refine wpAny_pyNext_tuple_item st (show s.heap.IsTuple a its.toArray from p) (x:=u) (by simpa using hu) λh' st' sb=>?_;have I1:Oq X gV σ H {s with heap:=h' }:=I.turned (t':=s.toks) (λb o hb e=>(sb.2 b hb).trans e) f0 f1 f3 f4 f5;obtain⟨o,e,c,d⟩:=id st';exact⟨u,rfl,Du (s:={s with heap:=h' }) e c d x_ ⟨x,H,I1,ru,⟨rfl,λys hy=>by rw[I.tuple_inj hy hq];exact hx⟩,st',λb hb=>(hf b hb).1⟩⟩
 done:=by intro X hP hw hK hc i gV s σ H E I hf st hg;subst hP hw hK;obtain⟨xs,hq,hx⟩:=hg;obtain⟨its,rv,p,hz⟩:=I.tuple hq;obtain⟨f0,f1,f2,f3,f4,f5⟩:=hf it v6;have hl:=rv.length;exact wpAny_pyNext_tuple_end (I.ok.hd hc) st (show s.heap.IsTuple a its.toArray from p) (by simp;omega) λh' eb=>⟨rfl,I.turned (t':=s.toks) (λb o hb e=>eb b o hb e) f0 f1 f3 f4 f5⟩
 self:=λ_ _ _ _ _ st h=>wpAny_pyIter_tupleiter st h
theorem nI{P:Program}{w:World}{K:PySem.W.Frag}{tg:Expr}(it:Addr)(lo:Int)(n:Nat):GH P w K tg (OH lo n) [it] it (λi h=>IsRangeIter h it (lo+(i:Nat)*1) ((n:Int)-(i:Nat)) 1) where
 mem:=by simp
 obj:=λi h st b hb=>by
  have e:b=it:=by simpa using hb
  subst e
  exact⟨_,st,λv z=>by
   have z':Data.fields _=Data.cell v:=z
   cases z'⟩
 keep:=λi h h' st k=>k it v6 _ st
 item:=by intro X hP hw hK hc i gV s σ H E I hf st hg;subst hP hw hK;obtain⟨f0,f1,f2,f3,f4,f5⟩:=hf it v6;have W:=Walks.range (prog:=X.prog) (w:=X.w) (I.ok.hd hc) it lo 1 n;refine W.item i s _ _ hg st λv h' tk hv st' kk=>?_;obtain⟨t,rfl⟩:=hv;have I1:Oq X gV σ H {s with heap:=h',toks:=tk}:=I.turned (λb o hb e=>kk b o (by simpa using hb) e) f0 f1 f3 f4 f5;refine⟨_,rfl,Du (s:={s with heap:=h',toks:=tk}) (n:="range_iterator") st' rfl rfl x_ ⟨.int (lo+i),H,I1,⟨t,?_⟩,⟨rfl,rfl⟩,st',λb hb=>(hf b hb).1⟩⟩;rw[Int.mul_one]
 done:=by intro X hP hw hK hc i gV s σ H E I hf st hg;subst hP hw hK;obtain⟨f0,f1,f2,f3,f4,f5⟩:=hf it v6;exact wpAny_pyNext_range_end (I.ok.hd hc) st (by have:n<=i:=hg;omega) λh' eb=>⟨rfl,I.turned (t':=s.toks) (λb o hb e=>eb b o hb e) f0 f1 f3 f4 f5⟩
 self:=λ_ _ _ _ _ st h=>wpAny_pyIter_rangeiter st h
section
variable{X:Cx}{tg:Expr}
theorem yn{gV:List (Addr×Obj)}{σ:St}{H:Hp}{s:Shared}{R:It->Hp->Prop}{E:Value->Shared->Prop}{lo hi:Int}{t u v:Tok}{tk:Nat}(I:Oq X gV σ H s)(h1 : -(2^62)<=lo)(h2:lo<2^62)(h3 : -(2^62)<=hi)(h4:hi<2^62)
  (q:R (OH lo (hi-lo).toNat) H):wpAny (model X.prog X.w) X.A (pyIter (.ref s.heap.objs.size)) (OE X gV σ tg R) E {s with heap:=s.heap.push {cls:=.type "range",data:=.fields #[.int lo t,.int hi u,.int 1 v] },toks:=tk}:=by
 refine wpAny_pyIter_range (IsRange.new ..) (small_one h1 h2 h3 h4) ?_;have I1:Oq X gV σ H {s with heap:=s.heap.push {cls:=.type "range",data:=.fields #[.int lo t,.int hi u,.int 1 v] },toks:=tk}:=I.kept λb o e=>tu _ e
 refine⟨(s.heap.push {cls:=.type "range",data:=.fields #[.int lo t,.int hi u,.int 1 v] }).objs.size,[(s.heap.push {cls:=.type "range",data:=.fields #[.int lo t,.int hi u,.int 1 v] }).objs.size],_,_,H,rfl,
  I1.kept (t':=tk) λb o e=>tu _ e,nI _ lo (hi-lo).toNat,?_,λb hb=>?_,q⟩
 .
  have e1:lo+((0:Nat):Int)*1=lo:=by simp
  have e2:(((hi-lo).toNat:Nat):Int)-((0:Nat):Int)=Builtin.Range.rangeSize lo hi 1:=by rw[rangeSize_one];split<;>omega
  show IsRangeIter _ _ (lo+((0:Nat):Int)*1) ((((hi-lo).toNat:Nat):Int)-((0:Nat):Int)) 1;rw[e1,e2];exact Heap.get?_push_size _ rfl
 .
  have e:b=(s.heap.push {cls:=.type "range",data:=.fields #[.int lo t,.int hi u,.int 1 v] }).objs.size:=by simpa using hb
  subst e;exact I1.fpOk (SN _) (I1.hok.fresh (SN _))
noncomputable def Mf(ta:TA):TI:=λσ H R=>ta σ H λvs H1=>∃j:Int,vs=[.int j]/\-(2^62)<=j/\j<2^62/\R (OH 0 j.toNat) H1
noncomputable def Mg(ta:TA):TI:=λσ H R=>ta σ H λvs H1=>∃i j:Int,vs=[.int i,.int j]/\(-(2^62)<=i/\i<2^62/\-(2^62)<=j/\j<2^62)/\R (OH i (j-i).toNat) H1
theorem AX{a:Expr}{ta:TA}{p pos:Pos} (hg:Gl X "range") (hm:X.mg "range"=none) (ha:PA X [a] ta) (hs:starEach [a] X.env=[(false,eval a X.env)]:=by rfl):PI X tg (.Call (.Name "range" p) [a] [] pos) (Mf ta):=by
 intro gV s σ H R I h;refine Call_ (iJ I hg hm boot_range (PyProof.Rows.callWith_type1 (Ot (ha pos gV s σ H _ I h) λus s1 ⟨vs,H1,I1,r1,q1⟩=>?_) hs rfl));obtain⟨j,e,q1,q2,q⟩:=q1;subst e
 cases r1 with
 | cons r rr =>
  cases rr;obtain⟨t,rfl⟩:=r;exact call_range_1 (yn I1 xL xL q1 q2 (by simpa using q))
theorem AY{a b:Expr}{ta:TA}{p pos:Pos} (hg:Gl X "range") (hm:X.mg "range"=none) (ha:PA X [a,b] ta) (hs:starEach [a,b] X.env=[(false,eval a X.env),(false,eval b X.env)]:=by rfl) (hs2:starEach [b] X.env=[(false,eval b X.env)]:=by rfl) :
  PI X tg (.Call (.Name "range" p) [a,b] [] pos) (Mg ta):=by
 intro gV s σ H R I h;refine Call_ (iJ I hg hm boot_range (PyProof.Rows.callWith_type1 (Ot (ha pos gV s σ H _ I h) λus s1 ⟨vs,H1,I1,r1,q1⟩=>?_) (by rw[hs,hs2]) (by rw[hs2];rfl)));obtain⟨i,j,e,⟨q1,q2,q3,q4⟩,q⟩:=q1;subst e
 cases r1 with
 | cons r rr =>
  cases rr with
  | cons r' rr =>
   cases rr;obtain⟨t,rfl⟩:=r;obtain⟨t',rfl⟩:=r';exact call_range_2 (yn I1 q1 q2 q3 q4 q)
noncomputable def u6(fp:List Addr)(h:Heap):List (Addr×Obj):=fp.filterMap λb=>(h.get? b).map λo=>(b,o)
theorem jX{fp:List Addr}{h:Heap}{b:Addr}{o:Obj}(hb:b∈fp)(e:h.get? b=some o):(b,o)∈u6 fp h:=List.mem_filterMap.mpr ⟨b,hb,by rw[e];rfl⟩
theorem AZ{fp:List Addr}{h:Heap}{p:Addr×Obj}(hp:p∈u6 fp h):p.1∈fp/\h.get? p.1=some p.2:=by
 obtain⟨b,hb,e⟩:=List.mem_filterMap.mp hp
 cases q:h.get? b with
 |none=>rw[q]at e;cases e
 | some o =>
  rw[q]at e;have e':(b,o)=p:=Option.some.inj e;subst e';exact⟨hb,q⟩
theorem Oq.pinned{gV:List (Addr×Obj)}{σ:St}{H:Hp}{s:Shared}{fp:List Addr}(I:Oq X gV σ H s)(hf:∀b∈fp,Dk X gV H b)(ho:∀b∈fp,∃o,s.heap.get? b=some o/\∀v,o.data≠.cell v):Oq X (gV++u6 fp s.heap) σ H s :=
 I.pins_of λp hp=>(List.mem_append.mp hp).elim (λz=>I.pin p (List.mem_append_right _ z)) λz=>by obtain⟨hb,e⟩:=AZ z;obtain⟨f0,f1,f2,_⟩:=hf p.1 hb;obtain⟨o,e',d⟩:=ho p.1 hb;rw[e]at e';cases e';exact⟨e,f0,f1,f2,d⟩
theorem Oq.unpinned{gV pl:List (Addr×Obj)}{σ:St}{H:Hp}{s:Shared}(I:Oq X (gV++pl) σ H s):Oq X gV σ H s:=I.pins_of λp hp=>I.pin p (List.mem_append_right _ (List.mem_append_left _ hp))
end
abbrev R2:=V->V->Hp->VK->Prop
def OI(X:Cx)(f:Value->Value->Sem Value)(r:R2):Prop :=
 ∀(gV:List (Addr×Obj))(s:Shared)(σ:St)(H:Hp)(x y:V)(v u:Value)(Q:VK),Oq X gV σ H s->bU x v->bU y u->r x y H Q ->
  wpAny (model X.prog X.w) X.A (f v u) (EP X gV σ Q) X.xe s
def OJ(X:Cx)(f:Value->Sem Value)(r:V->Hp->VK->Prop):Prop :=
 ∀(gV:List (Addr×Obj))(s:Shared)(σ:St)(H:Hp)(x:V)(v:Value)(Q:VK),Oq X gV σ H s->bU x v->r x H Q ->
  wpAny (model X.prog X.w) X.A (f v) (EP X gV σ Q) X.xe s
def iY(X:Cx)(f:Value)(r:List V->Hp->VK->Prop):Prop :=
 ∀(gV:List (Addr×Obj))(s:Shared)(σ:St)(H:Hp)(xs:List V)(us:List Value)(Q:VK),Oq X gV σ H s->bZ xs us->r xs H Q ->
  wpAny (model X.prog X.w) X.A (call f us) (EP X gV σ Q) X.xe s
def NM(X:Cx)(r:V->Hp->(Bool->Hp->Prop)->Prop):Prop :=
 ∀(gV:List (Addr×Obj))(s:Shared)(σ:St)(H:Hp)(x:V)(v:Value)(Q:Bool->Hp->Prop),Oq X gV σ H s->bU x v->r x H Q ->
  wpAny (model X.prog X.w) X.A (truthy v) (TP X gV σ Q) X.xe s
def OK(r:R2)(ta tb:TE):TE:=λσ H Q=>ta σ H λx H1=>tb σ H1 λy H2=>r x y H2 Q
def rI(C:Int->Int->Prop)(g:Int->Int->V):R2:=λx y H Q=>∃i j,x=.int i/\y=.int j/\C i j/\Q (g i j) H
def OL(g:Int->Int->V):R2:=λx y H Q=>∃i j,x=.int i/\y=.int j/\Q (g i j) H
def rU(g:Int->V):V->Hp->VK->Prop:=λx H Q=>∃i,x=.int i/\Q (g i) H
section
variable{X:Cx}{a b:Expr}{ta tb:TE}
theorem NN(ha:PE X a ta)(hb:PE X b tb){gV:List (Addr×Obj)}{s:Shared}{σ:St}{H:Hp}{R:V->V->Hp->Prop}(I:Oq X gV σ H s)
  (h:ta σ H λx H1=>tb σ H1 λy H2=>R x y H2) {Q:Value->Shared->Prop} {f:Value->Value->Sem Value}
  (hf:∀v u s2 x y H2,Oq X gV σ H2 s2->bU x v->bU y u->R x y H2->wpAny (model X.prog X.w) X.A (f v u) Q X.xe s2) :
  wpAny (model X.prog X.w) X.A (eval a X.env) (λv s₁=>wpAny (model X.prog X.w) X.A (eval b X.env) (λu s₂=>wpAny (model X.prog X.w) X.A (f v u) Q X.xe s₂) X.xe s₁) X.xe s:=by
 refine Ot (ha gV s σ H _ I h) λv s1 jqz=>?_;obtain⟨x,H1,I1,r1,q1⟩:=jqz;refine Ot (hb gV s1 σ H1 _ I1 q1) λu s2 jqz=>?_;obtain⟨y,H2,I2,r2,q2⟩:=jqz;exact hf v u s2 x y H2 I2 r1 r2 q2
theorem OM{f:Value->Value->Sem Value}{C:Int->Int->Prop}{g:Int->Int->Int}
  (rule:∀(i j:Int)(t u:Tok)(s:Shared)(Q:Value->Shared->Prop)(E:Value->Shared->Prop),C i j->Q (.int (g i j) s.toks) {s with toks:=s.toks+1}->wpAny (model X.prog X.w) X.A (f (.int i t) (.int j u)) Q E s) :
  OI X f (rI C λi j=>.int (g i j)):=by
 intro gV s σ H x y v u Q I rx ry h;obtain⟨i,j,rfl,rfl,hc,q⟩:=h;obtain⟨t,rfl⟩:=rx;obtain⟨t',rfl⟩:=ry;exact rule i j t t' s _ _ hc ⟨.int (g i j),H,I.tok _,⟨_,rfl⟩,q⟩
theorem Na{f:Value->Value->Sem Value}{g:Int->Int->Int}
  (rule:∀(i j:Int)(t u:Tok)(s:Shared)(Q:Value->Shared->Prop)(E:Value->Shared->Prop),Q (.int (g i j) s.toks) {s with toks:=s.toks+1}->wpAny (model X.prog X.w) X.A (f (.int i t) (.int j u)) Q E s) :
  OI X f (OL λi j=>.int (g i j)):=by
 intro gV s σ H x y v u Q I rx ry h;obtain⟨i,j,rfl,rfl,q⟩:=h;obtain⟨t,rfl⟩:=rx;obtain⟨t',rfl⟩:=ry;exact rule i j t t' s _ _ ⟨.int (g i j),H,I.tok _,⟨_,rfl⟩,q⟩
theorem Ly{f:Value->Value->Sem Value}{g:Int->Int->Bool}
  (rule:∀(i j:Int)(t u:Tok)(s:Shared)(Q:Value->Shared->Prop)(E:Value->Shared->Prop),Q (.bool (g i j)) s->wpAny (model X.prog X.w) X.A (f (.int i t) (.int j u)) Q E s) :
  OI X f (OL λi j=>.bl (g i j)):=by
 intro gV s σ H x y v u Q I rx ry h;obtain⟨i,j,rfl,rfl,q⟩:=h;obtain⟨t,rfl⟩:=rx;obtain⟨t',rfl⟩:=ry;exact rule i j t t' s _ _ ⟨.bl (g i j),H,I,rfl,q⟩
def NO(i j:Int):Prop:=0<=j/\j<=1000000/\i.natAbs<2^64
def Nc(i j:Int):Prop:=(-(2^64)<i/\i<2^64)∨(-(2^64)<j/\j<2^64)
theorem Nc.ok{i j:Int}(h:Nc i j):IntMulOk i j:=by
 rcases h with⟨h1,h2⟩|⟨h1,h2⟩
 . exact .of_left (intBits_le_64 h1 h2)
 . exact .of_right (intBits_le_64 h1 h2)
theorem JF:OI X (binaryOp .Add) (OL λi j=>.int (i+j)):=Na λ_ _ _ _ _ _ _ q=>add_int q
theorem JG:OI X (binaryOp .Sub) (OL λi j=>.int (i-j)):=Na λ_ _ _ _ _ _ _ q=>sub_int q
theorem GI:OI X (binaryOp .Mod) (rI (λ_ j=>j≠0) λi j=>.int (i.fmod j)):=OM λ_ _ _ _ _ _ _ hc q=>mod_int' hc q
theorem JH:OI X (binaryOp .Pow) (rI NO λi j=>.int (i^j.toNat)):=OM λ_ _ _ _ _ _ _ hc q=>pow_int_small hc.1 hc.2.1 hc.2.2 q
theorem OO{f:Value->Sem Value}{g:Int->Int}
  (rule:∀(i:Int)(t:Tok)(s:Shared)(Q:Value->Shared->Prop)(E:Value->Shared->Prop),Q (.int (g i) s.toks) {s with toks:=s.toks+1}->wpAny (model X.prog X.w) X.A (f (.int i t)) Q E s) :
  OJ X f (rU λi=>.int (g i)):=by
 intro gV s σ H x v Q I rx h;obtain⟨i,rfl,q⟩:=h;obtain⟨t,rfl⟩:=rx;exact rule i t s _ _ ⟨.int (g i),H,I.tok _,⟨_,rfl⟩,q⟩
theorem JI:OJ X (unaryOp .USub) (rU λi=>.int (-i)):=OO λ_ _ _ _ _ q=>neg_int q
end
section
variable{X:Cx}{a b c:Expr}{ta tb tc:TE}{pos:Pos}
theorem FU{gV:List (Addr×Obj)}{σ:St}{H:Hp}{s:Shared}{Q:VK}{k k':Bool}(I:Oq X gV σ H s)(q:Q (.bl k) H)(e:k=k'):EP X gV σ Q (.bool k') s:=by subst e;exact⟨.bl k,H,I,rfl,q⟩
theorem JJ:OI X (compareOp .Lt) (OL λi j=>.bl (decide (i<j))):=Ly λ_ _ _ _ _ _ _ q=>lt_int q
theorem JK:OI X (compareOp .LtE) (OL λi j=>.bl (decide (i<=j))):=Ly λ_ _ _ _ _ _ _ q=>le_int q
theorem Mh:OI X (compareOp .Gt) (OL λi j=>.bl (decide (j<i))):=Ly λ_ _ _ _ _ _ _ q=>gt_int q
theorem Mi:OI X (compareOp .GtE) (OL λi j=>.bl (decide (j<=i))):=Ly λ_ _ _ _ _ _ _ q=>ge_int q
theorem JL:OI X (compareOp .Is) (λx y H Q=>y=.non/\Q (.bl (decide (x=.non))) H):=by
 intro gV s σ H x y v u Q I rx ry h;obtain⟨rfl,q⟩:=h;cases ry;refine is_none_gen (FU I q ?_)
 cases x<;>first
  |(cases rx;rfl)
  |(obtain⟨t,rfl⟩:=rx;rfl)
theorem GJ:OI X (compareOp .IsNot) (λx y H Q=>y=.non/\Q (.bl (!decide (x=.non))) H):=by
 intro gV s σ H x y v u Q I rx ry h;obtain⟨rfl,q⟩:=h;cases ry;refine isnot_none_gen (FU I q ?_)
 cases x<;>first
  |(cases rx;rfl)
  |(obtain⟨t,rfl⟩:=rx;rfl)
theorem aN(b:Expr){op:CmpOp}(h:op≠.In:=by decide)(h2:op≠.NotIn:=by decide):behindInMarks op b=false:=by
 have e1:(op == CmpOp.In)=false:=by cases op<;>first|rfl|exact absurd rfl h
 have e2:(op == CmpOp.NotIn)=false:=by cases op<;>first|rfl|exact absurd rfl h2
 cases b<;>simp[behindInMarks,e1,e2]
def FV(r r':R2)(ta tb tc:TE):TE:=λσ H Q=>ta σ H λx H1=>tb σ H1 λy H2=>r x y H2 λz H3=>∃k,z=.bl k /\
 (if k=true then tc σ H3 λw' H4=>r' y w' H4 Q else Q (.bl false) H3)
theorem Dv{op op':CmpOp}{r r':R2}(ho:OI X (compareOp op) r)(ho':OI X (compareOp op') r')(ha:PE X a ta)(hb:PE X b tb)(hc:PE X c tc)
  (hm:lastMarks [op,op'] [b,c]=false:=by with_unfolding_all rfl):PE X (.Compare a [op,op'] [b,c] pos) (FV r r' ta tb tc):=by
 intro gV s σ H Q I h
 refine Compare_chain (Ot (ha gV s σ H _ I h) λv s1 ⟨x,H1,I1,r1,q1⟩=>chain_link (Ot (hb gV s1 σ H1 _ I1 q1) λu s2 ⟨y,H2,I2,r2,q2⟩ =>
  Ot (ho gV s2 σ H2 x y v u _ I2 r1 r2 q2) λd s3 ⟨z,H3,I3,r3,k,e,q3⟩=>?_)) hm
 subst e;cases r3;refine wpAny_truthy_bool ?_
 cases k with
 |false=>exact ite_ff ⟨.bl false,H3,I3,rfl,q3⟩
 |true=>exact ite_tt (chain_last (Ot (hc gV s3 σ H3 _ I3 q3) λw' s4 ⟨z',H4,I4,r4,q4⟩=>ho' gV s4 σ H4 y z' u w' Q I4 r2 r4 q4))
def Nd(K:PySem.W.Frag)(x:V)(H:Hp)(k:Bool):Prop :=
 match x with
 |.non=>k=false
 |.bl b=>k=b
 |.int i=>k=(i != 0)
 |.str y=>y.length<=sizeLine/\k=((y.length:Int) != 0)
 |.byt y=>y.size<=sizeLine/\k=((y.size:Int) != 0)
 |.ref p=>(∃xs,Ow K H p xs/\k=!xs.isEmpty)∨(∃xs,Ox K H p xs/\k=!xs.isEmpty)∨∃kvs,H p=some (.dK kvs)/\k=!kvs.isEmpty
 |_=>False
theorem zz{κ:Type}{kvs:List (κ×V)}{vs:List (κ×Value)}(r:KV kvs vs):(!vs.isEmpty)=!kvs.isEmpty:=by cases r<;>rfl
theorem sE{xs:List V}{its:List Value}(r:bZ xs its):(!its.toArray.isEmpty)=!xs.isEmpty:=by cases r<;>simp
theorem pN:(sizeLine:Nat)<2^63:=by rw[sizeLine_eq];decide
theorem JM:NM X (λx H Q=>∃k,Nd X.K x H k/\Q k H):=by
 intro gV s σ H x v Q I rx h;obtain⟨k,e,q⟩:=h;have hl:=pN;have hs:sizeLine=16777216:=sizeLine_eq
 cases x with
 | non =>
  cases rx;have e':k=false:=e;subst e';exact truthy_none ⟨H,I,q⟩
 | bl b =>
  cases rx;have e':k=b:=e;subst e';exact wpAny_truthy_bool ⟨H,I,q⟩
 | int i =>
  obtain⟨t,rfl⟩:=rx;have e':k=(i != 0):=e;subst e';exact PySem.P.truthy_int ⟨H,I,q⟩
 | str y =>
  obtain⟨t,rfl⟩:=rx;obtain⟨hy,e'⟩:y.length<=sizeLine/\k=((y.length:Int) != 0):=e;subst e';exact PySem.P.truthy_str xL ⟨H,I.tok _,q⟩
 | byt y =>
  obtain⟨t,rfl⟩:=rx;obtain⟨hy,e'⟩:y.size<=sizeLine/\k=((y.size:Int) != 0):=e;subst e';exact PySem.W.truthy_bytes xL ⟨H,I.tok _,q⟩
 | ref p =>
  cases rx;have e':(∃xs,Ow X.K H p xs/\k=!xs.isEmpty)∨(∃xs,Ox X.K H p xs/\k=!xs.isEmpty)∨∃kvs,H p=some (.dK kvs)/\k=!kvs.isEmpty:=e;rcases e' with⟨xs,hx,e'⟩|⟨xs,hx,e'⟩|⟨kvs,hx,e'⟩
  . subst e';obtain⟨its,r,pl,hz⟩:=I.list hx;have kz:=r.length;exact wpAny_truthy_list pl.isList (by simp only[List.size_toArray];omega) ⟨H,I.tok _,by rw[sE r];exact q⟩
  . subst e';obtain⟨its,r,pl,hz⟩:=I.tuple hx;have kz:=r.length;exact truthy_tuple pl (by simp only[List.size_toArray];omega) ⟨H,I.tok _,by rw[sE r];exact q⟩
  . subst e';obtain⟨hz,hS,vs,r,m⟩:kvs.length<=sizeLine/\(p == sysModules)=false/\∃vs,KV kvs vs/\s.heap.DictOf (da X.prog X.w) p vs:=I.hok p _ hx;have kz:kvs.length=vs.length:=Paired.length r;exact wpAny_truthy_dict hS m xL ⟨H,I.tok _,by rw[zz r];exact q⟩
 |_=>exact(show False from e).elim
theorem Dw(ha:PE X a ta)(he:∀whole,isTrue a X.env whole=(do let v <- whole;standAt a.pos;holding [v] (truthy v))) :
  PT X a (λσ H Q=>ta σ H λx H'=>∃k,Nd X.K x H' k/\Q k H'):=by
 intro gV s σ H Q I h;exact isTrue_plain (Ot (ha gV s σ H _ I h) λv s1 ⟨x,H1,I1,r1,q1⟩=>JM gV s1 σ H1 x v Q I1 r1 q1) (he _)
theorem zB:OI X (binaryOp .Add) (λx y H Q=>∃i j,x=.str i/\y=.str j/\i.length+j.length<=sizeLine/\Q (.str (i++j)) H):=by intro gV s σ H x y v u Q I rx ry h;obtain⟨i,j,rfl,rfl,hz,q⟩:=h;obtain⟨t,rfl⟩:=rx;obtain⟨t',rfl⟩:=ry;exact add_str (λt' tk=>⟨.str (i++j),H,I.tok _,⟨_,rfl⟩,q⟩) hz
theorem u7{x:V}{us:List Value}(r:bZ [x] us):∃u,us=[u]/\bU x u:=by
 cases r with
 |cons r1 r2=>cases r2;exact⟨_,rfl,r1⟩
theorem Dx{x y:V}{us:List Value}(r:bZ [x,y] us):∃u w',us=[u,w']/\bU x u/\bU y w':=by
 cases r with
 | cons r1 r2 =>
  cases r2 with
  |cons r3 r4=>cases r4;exact⟨_,_,rfl,r1,r3⟩
theorem Dy:iY X (.builtin "abs") (λxs H Q=>∃ i,xs=[.int i]/\Q (.int (if i < 0 then -i else i)) H):=by
 intro gV s σ H xs us Q I r h;obtain⟨i,rfl,q⟩:=h;obtain⟨u,rfl,t,rfl⟩:=u7 r
 exact call_abs_int λu tk=>⟨.int (if i<0 then -i else i),H,I.tok _,⟨_,rfl⟩,q⟩
theorem A0(hc:X.calm=true):iY X (.builtin "max") (λxs H Q=>∃ i j,xs=[.int i,.int j]/\Q (.int (if j > i then j else i)) H):=by
 intro gV s σ H xs us Q I r h;obtain⟨i,j,rfl,q⟩:=h;obtain⟨u,w',rfl,⟨t,rfl⟩,⟨t',rfl⟩⟩:=Dx r;refine max_two_ints (I.ok.hd hc) λh' tk k=>⟨_,H,I.kept k,?_,q⟩;by_cases hj:j > i
 . rw[if_pos hj,if_pos hj];exact⟨_,rfl⟩
 . rw[if_neg hj,if_neg hj];exact⟨_,rfl⟩
theorem A1(hc:X.calm=true):iY X (.builtin "min") (λxs H Q=>∃ i j,xs=[.int i,.int j]/\Q (.int (if j < i then j else i)) H):=by
 intro gV s σ H xs us Q I r h;obtain⟨i,j,rfl,q⟩:=h;obtain⟨u,w',rfl,⟨t,rfl⟩,⟨t',rfl⟩⟩:=Dx r;refine min_two_ints (I.ok.hd hc) λh' tk k=>⟨_,H,I.kept k,?_,q⟩;by_cases hj:j<i
 . rw[if_pos hj,if_pos hj];exact⟨_,rfl⟩
 . rw[if_neg hj,if_neg hj];exact⟨_,rfl⟩
theorem A2:iY X (.type "int") (λxs H Q=>(∃ i,xs=[.int i]/\Q (.int i) H)∨∃ k,xs=[.bl k]/\Q (.int (if k then 1 else 0)) H):=by
 intro gV s σ H xs us Q I r h;rcases h with⟨i,rfl,q⟩|⟨k,rfl,q⟩
 . obtain⟨u,rfl,t,rfl⟩:=u7 r;exact call_int_int ⟨.int i,H,I,⟨_,rfl⟩,q⟩
 .
  obtain⟨u,rfl,r1⟩:=u7 r;cases r1
  exact call_int_bool ⟨.int (if k then 1 else 0),H,I.tok _,⟨_,rfl⟩,q⟩
end
theorem wM.some_of{v:V}{o:Option Value}(r:wM (some v) o):∃u,o=some u/\bU v u:=by
 cases o with
 |none=>exact(show False from r).elim
 |some u=>exact⟨u,rfl,r⟩
structure OP (K:PySem.W.Frag) (C:Addr):Prop where
 pg:PySem.W.plainGet K C Str.empty=true
 hd:PySem.W.hasDictIn K C=true
 po:PySem.W.plainOver K C=true
 sa:PySem.W.findIn K (.ref C) "__setattr__"=some (some (.builtin "object.__setattr__"))
theorem OP.get{K:PySem.W.Frag}{C:Addr}(c:OP K C)(f:Str):PySem.W.plainGet K C f=true:=c.pg
structure k9 (k:Nat) (A:Around):Prop where
 hd:A.handled=none
 dp:A.depth+3*k+5<recursionLimit
 un:A.units+16*k+200<cLine
 gd:A.guards=some []
theorem k9.mono{j k:Nat}{A:Around}(r:k9 k A)(h:j<=k):k9 j A:=⟨r.hd,by have:=r.dp;omega,by have:=r.un;omega,r.gd⟩
theorem k9.deeper{k:Nat}{A:Around}(r:k9 (k+1) A)(env:Env):k9 k (A.deeper env) :=
 ⟨r.hd,by have:=r.dp;show A.depth+1+3*k+5<_;omega,by have:=r.un;show A.units+3+16*k+200<_;omega,r.gd⟩
theorem zC{A:Around}{C:Addr}{us:List Value}{kw:List (Str×Value)}:(A.under (.builtin "type.__call__" ⟨.ref C::us,kw⟩)).depth=A.depth+1:=by
 first|rfl|simp[Around.under,Code.weight,Code.isCreation,Code.isGuard,Code.isCaller,Code.frames,Code.isFrame,guardIds]
theorem zD{A:Around}{C:Addr}{us:List Value}{kw:List (Str×Value)}:(A.under (.builtin "type.__call__" ⟨.ref C::us,kw⟩)).units=A.units+1:=by
 first|rfl|simp[Around.under,Code.cUnits,Code.frames,Code.isFrame]
theorem k9.make{k:Nat}{A:Around}(r:k9 (k+1) A)(C:Addr)(us:List Value)(kw:List (Str×Value)):k9 k (A.under (.builtin "type.__call__" ⟨.ref C::us,kw⟩)) :=
 ⟨r.hd,by have:=r.dp;rw[zC];omega,by have:=r.un;rw[zD];omega,by rw[<- r.gd];first|rfl|simp[Around.under,Code.guards,Code.isGuard,pushGuards,guardIds]⟩
theorem k9.depth{k:Nat}{A:Around}(r:k9 k A):A.depth<recursionLimit:=by have:=r.dp;omega
theorem k9.units{k:Nat}{A:Around}(r:k9 k A):A.units+64<cLine:=by have:=r.un;omega
noncomputable def Lz:TA:=λ_ H Q=>Q [] H
noncomputable def zE(ta:TE)(tr:TA):TA:=λσ H Q=>ta σ H λx H1=>tr σ H1 λxs H2=>Q (x::xs) H2
section
variable{X:Cx}{e:Expr}{es:List Expr}{te:TE}{t:TA}{pos:Pos}
theorem iZ:PA X [] Lz:=λ_ _ _ _ H Q I h=>Calls.spliced_nil ⟨[],H,I,.nil,h⟩
theorem cM(ha:PE X e te)(hr:PA X es t)(hs:starEach (e::es) X.env=(false,eval e X.env)::starEach es X.env:=by rfl):PA X (e::es) (zE te t):=by intro pos gV s σ H Q I h;rw[hs];show wpAny _ _ (spliced ((false,eval e X.env)::backTo pos (starEach es X.env))) _ _ s;refine Calls.spliced_cons (Ot (ha gV s σ H _ I h) λu s1 jqz=>?_);obtain⟨x,H1,I1,r1,q1⟩:=jqz;exact Ot (hr pos gV s1 σ H1 _ I1 q1) λus s2 ⟨xs,H2,I2,r2,q2⟩=>⟨x::xs,H2,I2,.cons r1 r2,q2⟩
end
noncomputable abbrev Sp:=List V->Hp->VK->XK->Prop
noncomputable abbrev OQ:=List Env->Hp->Shared->XK->Value->Shared->Prop
structure FW (P:Program) (w:World) (K:PySem.W.Frag) (mg:Str->Option Value) (base:Heap) (A:Around) (outer:List Env) (s:Shared) (H:Hp):Prop where
 frames:A.frames=some outer
 mod:Mod K mg base
 bs:∀b o,base.get? b=some o->s.heap.get? b=some o/\H b=none
 bsz:base.objs.size<=s.heap.objs.size
 funs:s.heap.FunFrames base outer
 frf:∀b∈Om outer,H b=none
 hok:Oh P w H s.heap
 bare:AllBare s.gens
 tbs:Ol K H
def CE(outer:List Env)(P:Program)(w:World)(H:Hp)(s:Shared)(Q:VK)(u:Value)(s':Shared):Prop :=
 ∃v H',s'.os=s.os/\AllBare s'.gens/\Un (Om outer) [] H H' s.heap s'.heap/\Oh P w H' s'.heap/\bU v u/\Q v H'
def CR(CX:OQ)(outer:List Env)(P:Program)(w:World)(H:Hp)(s:Shared)(Q:VK)(E:XK)(r:Result)(s':Shared):Prop :=
 match r with
 |.ok (.ret u)=>CE outer P w H s Q u s'
 |.ok _=>False
 |.error e=>CX outer H s E e s'
structure FnOk (P:Program) (w:World) (K:PySem.W.Frag) (mg:Str->Option Value) (base:Heap) (CX:OQ) (k:Nat) (f:Addr) (fd:FuncData) (ps:List Str) (sp:Sp):Prop where
 len:∀vs H Q E,sp vs H Q E->vs.length=ps.length
 run:∀(A:Around)(outer:List Env)(s:Shared)(H:Hp)(args:Args)(us:List Value)(vs:List V)(Q:VK)(E:XK),k9 k A->FW P w K mg base A outer s H->BindsTo s fd args (ps.zip us)->bZ vs us->sp vs H Q E ->
  codeAny (model P w) A (.call (.ref f) args) (CR CX outer P w H s Q E) s
theorem FW.make{P:Program}{w:World}{K:PySem.W.Frag}{mg:Str->Option Value}{base:Heap}{A:Around}{outer:List Env}{s:Shared}{H:Hp}(e:FW P w K mg base A outer s H)(C:Addr)(us:List Value)(kw:List (Str×Value)) :
  FW P w K mg base (A.under (.builtin "type.__call__" ⟨.ref C::us,kw⟩)) outer s H:=⟨by first | exact e.frames | (simpa[Around.under,Code.envs,Code.isFrame,pushEnvs]using e.frames),e.mod,e.bs,e.bsz,e.funs,e.frf,e.hok,e.bare,e.tbs⟩
section
variable{X:Cx}{gV:List (Addr×Obj)}{σ:St}{H:Hp}{s s':Shared}
theorem Oq.env0(I:Oq X gV σ H s):FW X.prog X.w X.K X.mg X.base X.A X.stack s H :=
 ⟨I.ok.frames,I.ok.mod,I.bs,SJ I.ok.bsz I.sz,I.stack,I.stkFree,I.hok,I.bare,I.tbs⟩
theorem Oq.after{Q:VK}{u:Value}(I:Oq X gV σ H s)(h:CE X.stack X.prog X.w H s Q u s'):EP X gV σ Q u s':=by obtain⟨v,H',os,bare,un,hok,r,q⟩:=h;obtain⟨hh,g,d,t,os'⟩:=s';obtain rfl:os'=s.os:=os;exact⟨v,H',I.call (h':=hh) (g':=g) (d':=d) (t':=t) (ch:=[]) un hok bare (λb z=>absurd z v6),r,q⟩
end
def oX(K:PySem.W.Frag)(fd:FuncData)(ps:List Str)(ds:List Value):Prop :=
 ∀(s:Shared)(us:List Value),K.In s.heap->(us++ds).length=ps.length->BindsTo s fd ⟨us,[]⟩ (ps.zip (us++ds))
theorem oX.all{K:PySem.W.Frag}{fd:FuncData}{ps:List Str}(h:∀us:List Value,us.length=ps.length->bindArgs fd ⟨us,[]⟩=pure (ps.zip us)):oX K fd ps []:=λs us _ hl=>by rw[List.append_nil]at hl ⊢;exact .of_eq (h us hl)
def yo(CX:OQ)(X:Cx)(E:XK):Prop:=∀(gV:List (Addr×Obj))(σ:St)(H:Hp)(s:Shared)(e:Value)(s':Shared),Oq X gV σ H s->CX X.stack H s E e s'->X.xe e s'
section
variable{X:Cx}{CX:OQ}{k:Nat}{f:Addr}{fd:FuncData}{ps:List Str}{sp:Sp}{dvs:List V}{ds:List Value}{E:XK}{e:Expr}
theorem A3{gV:List (Addr×Obj)}{σ:St}{H:Hp}{s:Shared}{Q:VK}{us:List Value}{vs:List V}(F:FnOk X.prog X.w X.K X.mg X.base CX k f fd ps sp)(hr:k9 k X.A)(hb:oX X.K fd ps ds)(hd:bZ dvs ds)(hx:yo CX X E)
  (I:Oq X gV σ H s) (r:bZ vs us) (h:sp (vs++dvs) H Q E):wpAny (model X.prog X.w) X.A (call (.ref f) us) (EP X gV σ Q) X.xe s:=by
 have r2:bZ (vs++dvs) (us++ds):=r.append hd;have hl:(us++ds).length=ps.length:=by rw[<- r2.length];exact F.len _ _ _ _ h
 refine wpAny_call (codeAny_mono (F.run X.A X.stack s H ⟨us,[]⟩ (us++ds) (vs++dvs) Q E hr I.env0 (hb s us I.kIn hl) r2 h) λr s' hq=>?_)
 cases r with
 |error e=>exact hx gV σ H s e s' I hq
 | ok fl =>
  cases fl with
  |ret u=>exact I.after hq
  |next=>exact False.elim hq
  |brk=>exact False.elim hq
  |cont=>exact False.elim hq
end
structure aG (N P:List Str) (sc:Scope):Prop where
 kind:sc.kind=.function
 co:sc.isCoroutine=false
 gen:sc.isGenerator=false
 nd:N.Nodup
 pre:N.take P.length=P
 par:∀x∈P,sc.names.lookup x=some .local∨sc.names.lookup x=some .cell
 nofree:∀y∈sc.names,y.2≠.free
theorem u9{kindOf:Str->Option NameKind}{x:Str}:∀{binds:List (Str×Value)}{m:Str->Option Value},(∀v,(x,v)∉binds)->bindL kindOf binds m x=m x
 |[],_,_=>rfl
 | (n,v)::r,m,h=>by
  unfold bindL;rw[u9 λw hw=>h w (SC _ hw)];split
  .
   have:x≠n:=by rintro rfl;exact h v SE
   simp[this]
  . rfl
theorem va{kindOf:Str->Option NameKind}{x:Str}:∀{binds:List (Str×Value)}{m:Str->Option Value},(∀v,(x,v)∉binds)->bindC kindOf binds m x=m x
 |[],_,_=>rfl
 | (n,v)::r,m,h=>by
  unfold bindC;rw[va λw hw=>h w (SC _ hw)];split
  . rfl
  .
   have:x≠n:=by rintro rfl;exact h v SE
   simp[this]
theorem vb{kindOf:Str->Option NameKind}{x:Str}{v:Value}:∀{P:List Str}{vs:List Value}{i:Nat}{m:Str->Option Value},P.Nodup->P[i]?=some x->vs[i]?=some v->kindOf x=some .local ->
  bindL kindOf (P.zip vs) m x=some v
 |[],_,_,_,_,h,_,_=>by simp at h
 |_::_,[],_,_,_,_,h,_=>by simp at h
 | p::P,w::vs,0,m,nd,h1,h2,hk=>by simp at h1 h2;subst h1;subst h2;show bindL kindOf ((p,w)::P.zip vs) m p=_;unfold bindL;rw[u9 λv hv=>(List.nodup_cons.mp nd).1 (List.of_mem_zip hv).1,if_pos hk];simp
 | p::P,w::vs,i+1,m,nd,h1,h2,hk=>by show bindL kindOf ((p,w)::P.zip vs) m x=_;unfold bindL;exact vb (i:=i) (List.nodup_cons.mp nd).2 (by simpa using h1) (by simpa using h2) hk
theorem vc{kindOf:Str->Option NameKind}{x:Str}{v:Value}:∀{P:List Str}{vs:List Value}{i:Nat}{m:Str->Option Value},P.Nodup->P[i]?=some x->vs[i]?=some v->kindOf x≠some .local ->
  bindC kindOf (P.zip vs) m x=some v
 |[],_,_,_,_,h,_,_=>by simp at h
 |_::_,[],_,_,_,_,h,_=>by simp at h
 | p::P,w::vs,0,m,nd,h1,h2,hk=>by simp at h1 h2;subst h1;subst h2;show bindC kindOf ((p,w)::P.zip vs) m p=_;unfold bindC;rw[va λv hv=>(List.nodup_cons.mp nd).1 (List.of_mem_zip hv).1,if_neg hk];simp
 | p::P,w::vs,i+1,m,nd,h1,h2,hk=>by show bindC kindOf ((p,w)::P.zip vs) m x=_;unfold bindC;exact vc (i:=i) (List.nodup_cons.mp nd).2 (by simpa using h1) (by simpa using h2) hk
noncomputable def oY(N:List Str)(vs:List V):St:=vs.map some++List.replicate (N.length-vs.length) none
noncomputable def Dz(CX:OQ)(P:Program)(w:World)(K:PySem.W.Frag)(mg:Str->Option Value)(base:Heap)(N:List Str)(qual:Str)(scope:Scope)(f:Addr)(cd:Value)(A:Around)(outer:List Env)(s:Shared)(H:Hp)(E:XK):Cx where
 prog:=P
 w:=w
 K:=K
 mg:=mg
 base:=base
 A:=A.deeper (envOfC qual scope s.heap.objs.size f cd)
 N:=N
 s₀:=s
 H₀:=H
 env:=envOfC qual scope s.heap.objs.size f cd
 outer:=outer
 stack:=envOfC qual scope s.heap.objs.size f cd::outer
 ex:=[]
 calm:=true
 fn:=λ_=>true
 pn:=[]
 xe:=λe s'=>wpAny (model P w) (A.deeper (envOfC qual scope s.heap.objs.size f cd)) (leaving (envOfC qual scope s.heap.objs.size f cd) e) (λ_ s''=>CX outer H s E e s'') (λe' s''=>CX outer H s E e' s'') s'
theorem yp{sc:Scope}{n:Nat}{x:Str}(h:sc.names.lookup x=some .cell):∃c,(cellsFrom n sc.names []).lookup x=some c:=by have q:=PySem.W.cellsFrom_some sc.names n [] (.inl h);exact Option.isSome_iff_exists.mp q
theorem A4{CX:OQ}{P:Program}{w:World}{K:PySem.W.Frag}{mg:Str->Option Value}{base:Heap}{N ps:List Str}{qual:Str}{scope:Scope}{f:Addr}{cd:Value}{A:Around}{outer:List Env}{s s1:Shared}{H:Hp}{E:XK}{us:List Value}{vs:List V}
  (S:aG N ps scope) (hd:A.handled=none) (e0:FW P w K mg base A outer s H) (hl:vs.length=ps.length) (r:bZ vs us)
  (x:InCallC s s.heap.objs.size (bindL (envOfC qual scope s.heap.objs.size f cd).kindOf (ps.zip us) λ_=>none) (cellsFrom (s.heap.objs.size+1) scope.names []) (bindC (envOfC qual scope s.heap.objs.size f cd).kindOf (ps.zip us) λ_=>none) s1) :
  Oq (Dz CX P w K mg base N qual scope f cd A outer s H E) [] (oY N vs) H s1:=by
 have hpl:ps.length<=N.length:=by have:=congrArg List.length S.pre;rw[List.length_take]at this;omega
 obtain⟨h1,tk,rfl,hk⟩:=x.done;have noA:∀b:Addr,b∉(Dz CX P w K mg base N qual scope f cd A outer s H E).ex:=λb z=>absurd (show b∈([]:List Addr)from z) v6
 refine⟨⟨e0.mod,S.kind,rfl,rfl,SN _,λy z c h1 h2=>?_,λy hy=>?_,λy c _ h=>?_,λ_=>hd,Around.frames_deeper e0.frames,.inr ⟨rfl,rfl⟩,λb z=>absurd z (noA b),e0.bs,e0.bsz,λb _ _=>noA b,λb z=>absurd z (noA b),e0.funs,e0.frf,e0.tbs⟩,
  rfl,e0.bare,Un.kept hk,⟨_,x.toInCall.ns,λi y v h1 h2 h3=>?_⟩,λy c h=>⟨_,x.cell y c h⟩,e0.hok.fresh (SN _),λy c h=>?_,λp hp=>absurd (show p∈([]:List (Addr×Obj))from hp) v6,e0.hok.kept hk,?_⟩
 . exact name_of_addr x.apart (PySem.mem_of_lookup h1) (PySem.mem_of_lookup h2)
 .
  have hy:scope.names.lookup y=some .cell∨scope.names.lookup y=some .free:=hy;rcases hy with hy|hy
  . exact yp hy
  . exact absurd rfl (S.nofree _ (PySem.mem_of_lookup hy))
 . exact Nat.le_of_lt (x.above y c (PySem.mem_of_lookup h))
 .
  have hi:i<vs.length:=by
   unfold oY at h2;by_cases hi:i<vs.length
   . exact hi
   . rw[List.getElem?_append_right (by simpa using hi)]at h2;rw[List.getElem?_replicate]at h2;split at h2<;>cases h2
  have ha:vs[i]?=some v:=by
   unfold oY at h2;rw[List.getElem?_append_left (by simpa using hi),List.getElem?_map]at h2
   cases e:vs[i]? with
   |none=>rw[e]at h2;cases h2
   |some a=>rw[e]at h2;cases h2;rfl
  obtain⟨u,hu,rv⟩:=r.get ha;have hp:ps[i]?=some y:=by rw[<- S.pre,List.getElem?_take_of_lt xL];exact h1
  have ndP:ps.Nodup:=by rw[<- S.pre];exact S.nd.sublist (List.take_sublist _ _)
  refine⟨u,rv,?_⟩;rcases S.par y (List.mem_of_getElem? hp)with k|k
  . exact .inl ⟨k,vb ndP hp hu k⟩
  . obtain⟨c,e⟩:=yp (n:=s.heap.objs.size+1) k;refine .inr ⟨.inl k,c,e,?_⟩;have q:=x.cell y c e;rw[vc ndP hp hu (by show scope.names.lookup y≠_;rw[k];decide)]at q;exact q
 . exact .inl (e0.hok.fresh (Nat.le_of_lt (x.above y c (PySem.mem_of_lookup h))))
 . unfold oY;show _=N.length;rw[List.length_append,SH,List.length_replicate];omega
theorem JN{CX:OQ}{P:Program}{w:World}{K:PySem.W.Frag}{mg:Str->Option Value}{base:Heap}{k:Nat}{f:Addr}{name qual:Str}{params:Arguments}{body:List Stmt}{scope:Scope}{dV kV doc pm cdv ct oc:Value}{an od:Option Addr}
  {osl:Array (Option Value)} {N ps:List Str} {sp:Sp} (lk:K.lookup f=some ⟨oc,od,.func (PySem.W.fnOf name qual params body scope dV kV doc pm an cdv ct),osl⟩) (hcd:PySem.W.codeIn K cdv qual=true) (S:aG N ps scope)
  (len:∀vs H Q E,sp vs H Q E->vs.length=ps.length)
  (hbody:∀(A:Around)(outer:List Env)(s:Shared)(H:Hp)(vs:List V)(Q:VK)(E:XK),k9 k (A.deeper (envOfC qual scope s.heap.objs.size f cdv))->sp vs H Q E ->
   ∃t,Os (Dz CX P w K mg base N qual scope f cdv A outer s H E) body t/\t {nx:=λ_ H'=>Q .non H',rt:=Q} (oY N vs) H) :
  FnOk P w K mg base CX (k+1) f (PySem.W.fnOf name qual params body scope dV kV doc pm an cdv ct) ps sp:=by
 refine⟨len,λA outer s H args us vs Q E hr e0 hb r hsp=>?_⟩;have hl:=len _ _ _ _ hsp;have KX:K.In s.heap:=e0.mod.kin.keeps λb o e=>(e0.bs b o e).1;have lim:s.heap.NoLimit:=e0.mod.nolimit.keeps λb o e=>(e0.bs b o e).1
 have hkind:∀y∈ps.zip us,scope.names.lookup y.1=some .local∨(scope.names.lookup y.1=some .cell/\((cellsFrom (s.heap.objs.size+1) scope.names []).lookup y.1).isSome=true):=fun⟨n,v⟩ hy=>by
  rcases S.par n (List.of_mem_zip hy).1 with q|q
  . exact .inl q
  . exact .inr ⟨q,PySem.W.cellsFrom_some _ _ _ (.inl q)⟩
 refine codeAny_call_function hr.depth (KX _ _ lk) rfl S.co S.gen rfl (PySem.W.codeRec_of KX hcd) (hb _ _ _ _ ?_);refine wpAny_newFunctionEnv_cells S.kind hkind λenv he s1 x=>?_;subst he;refine⟨lim.keeps x.toInCall.keep,codeAny_func ?_⟩;obtain⟨t,ht,hq⟩:=hbody A outer s H vs Q E (hr.deeper _) hsp;have I:Oq (Dz CX P w K mg base N qual scope f cdv A outer s H E) [] (oY N vs) H s1:=A4 S hr.hd e0 hl r x;refine wpAny_mono (ht [] s1 (oY N vs) H _ I hq) (λfl s' hs=>?_) λe s' hs=>hs
 have Ov:∀{σ':St}{H':Hp}{v:V}{u:Value},Oq (Dz CX P w K mg base N qual scope f cdv A outer s H E) [] σ' H' s'->bU v u->Q v H'->CE outer P w H s Q u s' :=
  λ{σ' H' v u} J rv q=>⟨v,H',J.os,J.bare,J.base,J.hok,rv,q⟩
 cases fl with
 | ret u =>
  obtain⟨v,σ',H',J,rv,q⟩:=hs;exact Ov J rv q
 | next =>
  obtain⟨σ',H',J,q⟩:=hs;exact Ov (v:=V.non) (u:=Value.none) J rfl q
 | brk =>
  obtain⟨_,_,_,q⟩:=hs;exact False.elim q
 | cont =>
  obtain⟨_,_,_,q⟩:=hs;exact False.elim q
section
variable{X:Cx}{x:Str}{p pos:Pos}{e:Expr}{es:List Expr}{t:TA}{id T:String}{r:List V->Hp->VK->Prop}
def OR(r:List V->Hp->VK->Prop)(t:TA):TE:=λσ H Q=>t σ H λvs H1=>r vs H1 Q
theorem yq(hc:iY X (.builtin id) r)(hg:Gl X x)(hm:X.mg x=none)(hv:bootBuiltins x=some (.builtin id))(ha:PA X (e::es) t) (hn:x≠"__name__":=by decide) (hdb:(x == ("__debug__" : Str))=false:=by decide)
  (he:starEach (e::es) X.env=(false,eval e X.env)::starEach es X.env:=by rfl) (hpl:(backTo pos (starEach es X.env)).any (·.1)=false:=by rfl):PE X (.Call (.Name x p) (e::es) [] pos) (OR r t):=by
 intro gV s σ H Q I h;refine wpAny_Call_Name_kw (iJ I hg hm hv ?_ hn hdb);exact PyProof.Rows.callWith_builtin1 (Ot (ha pos gV s σ H _ I h) λus s1 ⟨vs,H1,I1,r1,q1⟩=>hc gV s1 σ H1 vs us Q I1 r1 q1) he hpl
theorem A5(hc:iY X (.type T) r)(hg:Gl X x)(hm:X.mg x=none)(hv:bootBuiltins x=some (.type T))(ha:PA X (e::es) t) (hn:x≠"__name__":=by decide) (hdb:(x == ("__debug__" : Str))=false:=by decide)
  (he:starEach (e::es) X.env=(false,eval e X.env)::starEach es X.env:=by rfl) (hpl:(backTo pos (starEach es X.env)).any (·.1)=false:=by rfl):PE X (.Call (.Name x p) (e::es) [] pos) (OR r t):=by
 intro gV s σ H Q I h;refine wpAny_Call_Name_kw (iJ I hg hm hv ?_ hn hdb);exact PyProof.Rows.callWith_type1 (Ot (ha pos gV s σ H _ I h) λus s1 ⟨vs,H1,I1,r1,q1⟩=>hc gV s1 σ H1 vs us Q I1 r1 q1) he hpl
end
end L2
namespace HT
open PySem PyProof.Rows
section
variable{prog:Program}{w:World}{A:Around}{E:Value->Shared->Prop}{s:Shared}
noncomputable def sIx(n d:Nat):Option Int->Nat
 |none=>d
 |some v=>if v<0 then(v+(n:Int)).toNat else min v.toNat n
theorem JO(n d:Nat)(hd:d<=n)(o:Option Int):sIx n d o<=n:=by
 cases o with
 |none=>exact hd
 | some v =>
  show(if v<0 then(v+(n:Int)).toNat else min v.toNat n)<=n
  by_cases hv:v<0
  . rw[if_pos hv];omega
  . rw[if_neg hv];exact Nat.min_le_right _ _
theorem A6(v:Int)(n d:Nat):(if v<0 then max (v+(n:Int)) 0 else min v (n:Int))=((sIx n d (some v):Nat):Int):=by
 show(if v<0 then max (v+(n:Int)) 0 else min v (n:Int))=(((if v<0 then(v+(n:Int)).toNat else min v.toNat n):Nat):Int)
 by_cases hv:v<0
 . simp only[if_pos hv];omega
 . simp only[if_neg hv];omega
theorem zF(lo hi:Option Int)(n:Nat):Builtin.Slice.sliceAdjust lo hi 1 (n:Int)=(((sIx n 0 lo:Nat):Int),((sIx n n hi:Nat):Int)):=by
 have h1:¬((1:Int)<0):=by omega
 unfold Builtin.Slice.sliceAdjust;simp only[h1,if_false];refine Prod.ext ?_ ?_
 .
  cases lo with
  |none=>rfl
  |some v=>exact A6 v n 0
 .
  cases hi with
  |none=>rfl
  |some v=>exact A6 v n n
theorem zG(i j:Nat):Builtin.Slice.slicePlaces (i:Int) (j:Int) 1=j-i:=by
 unfold Builtin.Slice.slicePlaces;have h1:(1:Int) > 0:=by omega
 simp only[h1,if_true,Int.ediv_one];split<;>omega
theorem sF{v:Value}{o:Option Int}{Q:Option Int->Shared->Prop}(p:IsPart v o)(h:Q o s):wpAny (model prog w) A (Builtin.Slice.slicePartIndex v) Q E s:=by
 cases p with
 |none=>exact slicePart_none h
 |int i t=>exact slicePart_int h
theorem oZ{sl:Addr}{vl vu:Value}{lo hi:Option Int}{n:Nat}{Q:Int×Int×Nat->Shared->Prop}(hs:s.heap.IsSliceOf sl vl vu .none)(pl:IsPart vl lo)(pu:IsPart vu hi)
  (h:Q (((sIx n 0 lo:Nat):Int),1,sIx n n hi-sIx n 0 lo) s):wpAny (model prog w) A (Builtin.Slice.sliceApplied (.ref sl) (pure (n:Int))) Q E s:=by
 obtain⟨os,hos,hcs,hds⟩:=id hs;unfold Builtin.Slice.sliceApplied Builtin.Slice.sliceFields;refine kS (kS (wpAny_field hos hds (x:=vl) rfl (kS (wpAny_field hos hds (x:=vu) rfl (kS (wpAny_field hos hds (x:=.none) rfl (SG ?_)))))));refine kS (slicePart_none ?_)
 show wpAny _ _ (if((1:Int) == 0)=true then _ else _) _ _ s
 rw[if_neg (by decide)];refine kS (sF pl (kS (sF pu (kS (SG ?_)))))
 show wpAny _ _ (match Builtin.Slice.sliceAdjust lo hi 1 (n:Int)with|(lo,hi)=>pure (lo,(1:Int),Builtin.Slice.slicePlaces lo hi 1)) _ _ s
 rw[zF lo hi n];show wpAny _ _ (pure (((sIx n 0 lo:Nat):Int),(1:Int),Builtin.Slice.slicePlaces ((sIx n 0 lo:Nat):Int) ((sIx n n hi:Nat):Int) 1)) _ _ s;rw[zG];exact SG h
theorem DA(xs:Array Value)(i k:Nat):((List.range k).filterMap λ(m:Nat)=>xs[((i:Int)+(m:Int)*1).toNat]?).toArray=((xs.toList.drop i).take k).toArray:=by
 have e:(λ(m:Nat)=>xs[((i:Int)+(m:Int)*1).toNat]?)=λm=>xs[i+m]?:=by
  funext m
  have:((i:Int)+(m:Int)*1).toNat=i+m:=by omega
  rw[this]
 rw[e];have:=pick_run xs i k;rw[List.filterMap_map]at this;have e2:((λx=>xs[x]?) ∘ λx=>i+x)=λm=>xs[i+m]?:=rfl;rw[e2]at this;rw[this]
theorem getItem_tuple_cut{t sl:Addr}{items:Array Value}{vl vu:Value}{lo hi:Option Int}{Q:Value->Shared->Prop}(ht:IsTup s.heap t items)(hs:s.heap.IsSliceOf sl vl vu .none)(pl:IsPart vl lo)(pu:IsPart vu hi)
  (hw:¬(sIx items.size 0 lo=0/\sIx items.size items.size hi=items.size))
  (h:Q (.ref s.heap.objs.size) {s with heap:=s.heap.push {cls:=.type "tuple",data:=.seq ((items.toList.drop (sIx items.size 0 lo)).take (sIx items.size items.size hi-sIx items.size 0 lo)).toArray} })
  (hsz:items.size<=sizeLine):wpAny (model prog w) A (getItem (.ref t) (.ref sl)) Q E s:=by
 have htake:sizeOk (.seq ((items.toList.drop (sIx items.size 0 lo)).take (sIx items.size items.size hi-sIx items.size 0 lo)).toArray):=by show((items.toList.drop (sIx items.size 0 lo)).take (sIx items.size items.size hi-sIx items.size 0 lo)).toArray.size<=sizeLine;rw[List.size_toArray,List.length_take,List.length_drop,Array.length_toList];omega
 have hj:sIx items.size items.size hi<=items.size:=JO _ _ (SN _) hi;obtain⟨os,hos,hcs,hds⟩:=id hs;have hTs:s.TypeIs (.ref sl) "slice":=⟨os,hos,hcs⟩;unfold getItem
 try with_reducible refine wpAny_holding ?_
 first|refine kS (SG ?_)|skip
 refine kS (wpAny_sequenceKey ht.typeIs x_ ?_)
 refine kS (wpAny_callSpecial?_slot (name:=Str.ofString "__getitem__") ht.typeIs PyProof.Rows.slot_tuple_getitem
  (wpAny_call_entry PyProof.Rows.slot_tuple_getitem ht.typeIs entry_tuple_getitem ?_ (args_tuple_getitem _ _)))
 show wpAny _ _ (Builtin.Tuple.tupleItemsOf (.ref t) >>= _) _ _ s;refine kS (tupleItemsOf_ ht ?_);refine kS (wpAny_typeOf hTs ?_);rw[if_pos (by decide)];refine kS (oZ hs pl pu ?_);have hno:¬((((sIx items.size 0 lo:Nat):Int) == 0 && (1:Int) == 1 && (sIx items.size items.size hi-sIx items.size 0 lo) == items.size)=true):=by intro q;rw[Bool.and_eq_true,Bool.and_eq_true]at q;have q1:((sIx items.size 0 lo:Nat):Int)=0:=eq_of_beq q.1.1;have q2:sIx items.size items.size hi-sIx items.size 0 lo=items.size:=eq_of_beq q.2;exact hw ⟨xL,xL⟩
 show wpAny _ _ (if(((sIx items.size 0 lo:Nat):Int) == 0 && (1:Int) == 1 && (sIx items.size items.size hi-sIx items.size 0 lo) == items.size)=true then _ else _) _ _ s
 rw[if_neg hno,DA]
 first
  |exact kS (m:=Builtin.Tuple.tupleExact _) (wpAny_newObj_type (SG ⟨_,rfl,SG h⟩) htake)
  |exact kS (m:=Builtin.Tuple.tupleExact _) (wpAny_newObj_type (kS (SG (SG ⟨_,rfl,SG h⟩))) htake)
  |exact kS (kS (m:=Builtin.Tuple.tupleExact _) (wpAny_newObj_type (SG (SG ⟨_,rfl,SG h⟩)) htake))
  |exact kS (kS (m:=Builtin.Tuple.tupleExact _) (wpAny_newObj_type (SG ⟨_,rfl,SG h⟩) htake))
end
end HT
namespace L2
open PySem PySem.Spec PyProof.Rows
noncomputable abbrev TO:=St->Hp->(Option Int->Hp->Prop)->Prop
def PO(X:Cx)(e:Option Expr)(t:TO):Prop :=
 ∀(gV:List (Addr×Obj))(s:Shared)(σ:St)(H:Hp)(Q:Option Int->Hp->Prop),Oq X gV σ H s->t σ H Q ->
  wpAny (model X.prog X.w) X.A (evalPart e X.env) (λu s'=>∃o H',Oq X gV σ H' s'/\IsPart u o/\Q o H') X.xe s
noncomputable def GK:TO:=λ_ H Q=>Q none H
noncomputable def Mj(t:TE):TO:=λσ H Q=>t σ H λx H1=>∃i,x=.int i/\Q (some i) H1
section
variable{X:Cx}{e:Expr}{te:TE}{lo hi:Option Expr}{tl th:TO}{pos p2:Pos}
theorem GL:PO X none GK:=by intro gV s σ H Q I h;rw[evalPart_none];exact SG ⟨none,H,I,.none,h⟩
theorem GM(h:PE X e te):PO X (some e) (Mj te):=by intro gV s σ H Q I hw;rw[evalPart_some];refine Ot (h gV s σ H _ I hw) λu s1 jqz=>?_;obtain⟨x,H1,I1,r1,q1⟩:=jqz;obtain⟨i,rfl,q⟩:=q1;obtain⟨t,rfl⟩:=r1;exact⟨some i,H1,I1,.int i t,q⟩
def OS(X:Cx)(r:V->Option Int->Option Int->Hp->VK->Prop):Prop :=
 ∀(gV:List (Addr×Obj))(s:Shared)(σ:St)(H:Hp)(x:V)(v vl vu:Value)(lo hi:Option Int)(sl:Addr)(Q:VK),Oq X gV σ H s->bU x v->s.heap.IsSliceOf sl vl vu .none->IsPart vl lo->IsPart vu hi->r x lo hi H Q ->
  ∃ T id,typeLookup (.type T) "__getitem__"=pure (some (.builtin id))/\s.TypeIs v T/\wpAny (model X.prog X.w) X.A (getItem v (.ref sl)) (EP X gV σ Q) X.xe s
theorem OS.or{r r':V->Option Int->Option Int->Hp->VK->Prop}(h:OS X r)(h':OS X r'):OS X (λx lo hi H Q=>r x lo hi H Q∨r' x lo hi H Q):=by
 intro gV s σ H x v vl vu lo hi sl Q I rx hs pl pu q;rcases q with q|q
 . exact h gV s σ H x v vl vu lo hi sl Q I rx hs pl pu q
 . exact h' gV s σ H x v vl vu lo hi sl Q I rx hs pl pu q
def OT(r:V->Option Int->Option Int->Hp->VK->Prop)(te:TE)(tl th:TO):TE:=λσ H Q=>te σ H λx H1=>tl σ H1 λl H2=>th σ H2 λu H3=>r x l u H3 Q
theorem DB{r:V->Option Int->Option Int->Hp->VK->Prop}(hr:OS X r)(he:PE X e te)(hl:PO X lo tl)(hu:PO X hi th):PE X (.Subscript e (.Slice lo hi none p2) pos) (OT r te tl th):=by intro gV s σ H Q I h;refine Subscript_ (Ot (he gV s σ H _ I h) λv s1 jqz=>?_);obtain⟨x,H1,I1,r1,q1⟩:=jqz;refine wpAny_Slice (Ot (hl gV s1 σ H1 _ I1 q1) λvl s2 ⟨l,H2,I2,pl,q2⟩=>Ot (hu gV s2 σ H2 _ I2 q2) λvu s3 jqz=>?_);obtain⟨u,H3,I3,pu,q3⟩:=jqz;rw[evalPart_none];refine SG ?_;have I4:Oq X gV σ H3 {s3 with heap:=s3.heap.push {cls:=.type "slice",data:=.fields #[vl,vu,.none] } }:=I3.kept (t':=s3.toks) λb ob q=>tu _ q;obtain⟨T,id,hT,ht,hg⟩:=hr gV {s3 with heap:=s3.heap.push {cls:=.type "slice",data:=.fields #[vl,vu,.none] } } σ H3 x v vl vu l u s3.heap.objs.size Q I4 r1 (Heap.IsSliceOf.new ..) pl pu q3;show wpAny (model X.prog X.w) X.A (subscriptTail e (.Slice lo hi none p2) v (.ref s3.heap.objs.size)) (EP X gV σ Q) X.xe {s3 with heap:=s3.heap.push {cls:=.type "slice",data:=.fields #[vl,vu,.none] } };exact tail_any (ops:=[.ref s3.heap.objs.size,v]) ht hT hg (by with_unfolding_all rfl)
noncomputable def FY(xs:List V)(lo hi:Option Int):List V:=(xs.drop (HT.sIx xs.length 0 lo)).take (HT.sIx xs.length xs.length hi-HT.sIx xs.length 0 lo)
theorem pO(xs:List V)(lo hi:Option Int):(FY xs lo hi).length<=xs.length:=by unfold FY;rw[List.length_take,List.length_drop];omega
def NP(K:PySem.W.Frag):V->Option Int->Option Int->Hp->VK->Prop:=λx lo hi H Q=>∃a xs,x=.ref a/\Ox K H a xs /\
 ¬(HT.sIx xs.length 0 lo=0/\HT.sIx xs.length xs.length hi=xs.length)/\∀p,H p=none->Q (.ref p) (Og H p (.tup (FY xs lo hi)))
theorem JP:OS X (NP X.K):=by
 intro gV s σ H x v vl vu lo hi sl Q I rx hs pl pu h;obtain⟨a,xs,rfl,hx,hw,q⟩:=h;cases rx;obtain⟨its,r,ht,hz⟩:=I.tuple hx;have kz:its.toArray.size=xs.length:=by rw[List.size_toArray];exact r.length.symm
 refine⟨"tuple",_,PyProof.Rows.slot_tuple_getitem.lookup,ht.typeIs,?_⟩;refine HT.getItem_tuple_cut ht hs pl pu (by rw[kz];exact hw) ?_ (by rw[kz];exact hz);rw[kz];refine⟨.ref s.heap.objs.size,_,I.laid (t':=s.toks) (o:=.tup (FY xs lo hi)) (λb ob q=>tu _ q) (SN _) ?_,rfl,q _ (I.hok.fresh (SN _))⟩;exact⟨SJ (pO xs lo hi) hz,_,(r.drop (HT.sIx xs.length 0 lo)).take (HT.sIx xs.length xs.length hi-HT.sIx xs.length 0 lo),IsTup.new _ _⟩
end
noncomputable def OU(n:Nat)(i:Int):Option Nat:=if 0<=i then(if i<n then some i.toNat else none)else if -(n:Int)<=i then some (i+n).toNat else none
noncomputable def OV{α:Type}(xs:List α)(i:Int):Option α:=(OU xs.length i).bind λj=>xs[j]?
theorem A7{n:Nat}{i:Int}{j:Nat}(h:OU n i=some j):seqIndex? i n=some j/\j<n/\-(n:Int)<=i/\i<n:=by
 unfold OU at h;by_cases h0:0<=i
 .
  rw[if_pos h0]at h;by_cases h1:i<n
  . rw[if_pos h1]at h;have e:i.toNat=j:=Option.some.inj h;exact⟨by rw[seqIndex_of h0 h1,e],xL,xL,h1⟩
  . rw[if_neg h1]at h;cases h
 .
  rw[if_neg h0]at h;by_cases h1 : -(n:Int)<=i
  . rw[if_pos h1]at h;have e:(i+n).toNat=j:=Option.some.inj h;exact⟨by rw[seqIndex_neg xL h1,e],xL,h1,xL⟩
  . rw[if_neg h1]at h;cases h
theorem wQ{α:Type}{xs:List α}{i:Int}{v:α}(h:OV xs i=some v):∃j,seqIndex? i xs.length=some j/\xs[j]?=some v/\j<xs.length/\-(xs.length:Int)<=i/\i<xs.length:=by
 unfold OV at h
 cases e:OU xs.length i with
 |none=>rw[e]at h;cases h
 | some j =>
  rw[e]at h;obtain⟨h1,h2,h3,h4⟩:=A7 e;exact⟨j,h1,h,h2,h3,h4⟩
theorem i4{α:Type}{xs:List α}{j:Nat}{v:α}(h:xs[j]?=some v):OV xs (j:Int)=some v:=by
 have hj:j<xs.length:=(SB.mp h).1;have e:OU xs.length (j:Int)=some j:=by unfold OU;rw[if_pos (by omega),if_pos (by omega)];simp
 unfold OV;rw[e];exact h
def wR(b:Expr):Prop:=∀o i,subscripted b false o i=operate [o,i] (getItem o i)
def OW(X:Cx)(r:R2):Prop :=
 ∀(value slice:Expr)(gV:List (Addr×Obj))(s:Shared)(σ:St)(H:Hp)(x y:V)(v u:Value)(Q:VK),Oq X gV σ H s->bU x v->bU y u->r x y H Q ->
  subscripted slice false v u=operate [v,u] (getItem v u)->wpAny (model X.prog X.w) X.A (subscriptTail value slice v u) (EP X gV σ Q) X.xe s
def OX(X:Cx)(id:String)(r:V->List V->Hp->VK->Prop):Prop :=
 ∀(gV:List (Addr×Obj))(s:Shared)(σ:St)(H:Hp)(x:V)(xs:List V)(v:Value)(us:List Value)(Q:VK),Oq X gV σ H s->bU x v->bZ xs us->r x xs H Q ->
  wpAny (model X.prog X.w) X.A (call (.builtin id) (v::us)) (EP X gV σ Q) X.xe s
section
variable{X:Cx}{a b:Expr}{ta tb:TE}{pos:Pos}
theorem Ml{r:R2}(hr:OW X r)(ha:PE X a ta)(hb:PE X b tb)(hs:wR b):PE X (.Subscript a b pos) (OK r ta tb):=by intro gV s σ H Q I h;exact Subscript_ (NN ha hb I h λv u s2 x y H2 I2 rx ry q=>hr a b gV s2 σ H2 x y v u Q I2 rx ry q (hs _ _))
def NQ(K:PySem.W.Frag):R2:=λx y H Q=>∃p xs i v,x=.ref p/\y=.int i/\Ow K H p xs/\OV xs i=some v/\Q v H
def NR(K:PySem.W.Frag):R2:=λx y H Q=>∃p xs i v,x=.ref p/\y=.int i/\Ox K H p xs/\OV xs i=some v/\Q v H
def NS:R2:=λx y H Q=>∃z i c,x=.str z/\y=.int i/\z.length<=sizeLine/\OV z.cps.toList i=some c/\Q (.str ⟨#[c]⟩) H
theorem A8:OW X (NQ X.K):=by
 intro value slice gV s σ H x y v u Q I rx ry h hs;obtain⟨p,xs,i,z,rfl,rfl,hq,he,q⟩:=h;cases rx;obtain⟨t,rfl⟩:=ry;obtain⟨its,r,pl,hz⟩:=I.list hq;obtain⟨j,h1,h2,h3,h4,h5⟩:=wQ he;obtain⟨w,ew,rw'⟩:=r.get h2;have hl:=r.length;have hn:=pN;have Ov:EP X gV σ Q w s:=⟨z,H,I,rw',q⟩;by_cases h0:0<=i
 .
  have hj:i.toNat=j:=by rw[seqIndex_of h0 h5]at h1;exact Option.some.inj h1
  exact item_listR pl.isList h0 xL (by rw[hj];simpa using ew) Ov hs
 .
  have hj:(i+(its.toArray.size:Int)).toNat=j:=by rw[seqIndex_neg xL h4]at h1;rw[List.size_toArray,<- hl];exact Option.some.inj h1
  exact subscriptTail_builtinR (x:=w) pl.isList.typeIs slot_list_getitem.lookup
   (wpAny_getItem_list_neg (Q:=λr s'=>r=w/\EP X gV σ Q r s') pl.isList xL (by rw[List.size_toArray]<;>omega) xL (by rw[hj];simpa using ew) ⟨rfl,Ov⟩) hs
theorem JQ:OW X (NR X.K):=by
 intro value slice gV s σ H x y v u Q I rx ry h hs;obtain⟨p,xs,i,z,rfl,rfl,hq,he,q⟩:=h;cases rx;obtain⟨t,rfl⟩:=ry;obtain⟨its,r,pl,hz⟩:=I.tuple hq;obtain⟨j,h1,h2,h3,h4,h5⟩:=wQ he;obtain⟨w,ew,rw'⟩:=r.get h2;have hl:=r.length;have hn:=pN;have Ov:EP X gV σ Q w s:=⟨z,H,I,rw',q⟩
 exact subscriptTail_builtinR (x:=w) pl.typeIs slot_tuple_getitem.lookup
  (getItem_tuple (j:=j) (Q:=λr s'=>r=w/\EP X gV σ Q r s') pl xL xL (by rw[List.size_toArray,<- hl];exact h1) (by simpa using ew) ⟨rfl,Ov⟩) hs
theorem JR:OW X NS:=by
 intro value slice gV s σ H x y v u Q I rx ry h hs;obtain⟨z,i,c,rfl,rfl,hz,he,q⟩:=h;obtain⟨t,rfl⟩:=rx;obtain⟨t',rfl⟩:=ry;obtain⟨j,h1,h2,h3,h4,h5⟩:=wQ he;have hl:z.cps.toList.length=z.length:=by simp[Str.length]
 rw[hl]at h1 h4 h5;have hn:=pN
 exact tail_any (typeIs_str s z t) slot_str_getitem.lookup (getItem_str (c:=c) (by
  have e1:decide (i < -(2^63:Int))=false:=decide_eq_false xL;have e2:decide (i≥2^63)=false:=decide_eq_false xL
  rw[e1,e2,Bool.or_false]) (by rw[h1];simpa using h2) ⟨.str ⟨#[c]⟩,H,I.tok _,⟨_,rfl⟩,q⟩) hs
theorem zH(its:List Value)(n j:Nat)(u:Value):Obj.mapSeq (·.setIfInBounds j u) {cls:=.type "list",data:=.seq its.toArray n}={cls:=.type "list",data:=.seq (its.set j u).toArray n}:=by simp[Obj.mapSeq]
theorem Oq.lst{gV:List (Addr×Obj)}{σ:St}{H:Hp}{s:Shared}{p:Addr}{xs:List V}(I:Oq X gV σ H s)(h:H p=some (.lst xs)) :
  ∃(its:List Value)(n:Nat),bZ xs its/\s.heap.get? p=some {cls:=.type "list",data:=.seq its.toArray n}/\xs.length<=sizeLine:=by
 obtain⟨z,its,n,r,e⟩:=I.hok p _ h;exact⟨its,n,r,e,z⟩
theorem Oq.lstUpd{gV:List (Addr×Obj)}{σ:St}{H:Hp}{s:Shared}{p:Addr}{xs ys:List V}{its its':List Value}{n n':Nat}{f:Obj->Obj}(I:Oq X gV σ H s)(h:H p=some (.lst xs))
  (ho:s.heap.get? p=some {cls:=.type "list",data:=.seq its.toArray n}) (hf:f {cls:=.type "list",data:=.seq its.toArray n}={cls:=.type "list",data:=.seq its'.toArray n' }) (r:bZ ys its') (hz:ys.length<=sizeLine) (t:Nat) :
  Oq X gV σ (Og H p (.lst ys)) {s with heap:=s.heap.update p f,toks:=t}:=by
 have e:(s.heap.update p f).get? p=some {cls:=.type "list",data:=.seq its'.toArray n' }:=by rw[Heap.get?_update_self f ho (by rw[hf]<;>rfl),hf]
 refine I.write (x:=p) (e:=p) (by rw[h];trivial) (.inl rfl) (λb u hb q=>(Heap.get?_update_other _ _ (Ne.symm hb)).trans q) ⟨_,e⟩ ?_;exact⟨hz,its',n',r,e⟩
def Mm:V->V->V->Hp->(Hp->Prop)->Prop:=λo i v H Q=>∃p xs k j,o=.ref p/\i=.int k/\H p=some (.lst xs)/\OU xs.length k=some j/\Q (Og H p (.lst (xs.set j v)))
theorem DC:M9 X Mm:=by
 intro gV s σ H o i v ov iv u Q I ro ri rv h;obtain⟨p,xs,k,j,rfl,rfl,hp,hj,q⟩:=h;cases ro;obtain⟨t,rfl⟩:=ri;obtain⟨its,n,r,ho,hz⟩:=I.lst hp;obtain⟨h1,h2,h3,h4⟩:=A7 hj;have hl:=r.length;have hn:=pN
 have I':Oq X gV σ (Og H p (.lst (xs.set j v))) {s with heap:=s.heap.update p (Obj.mapSeq (·.setIfInBounds j u)) } :=
  I.lstUpd hp ho (zH its n j u) (r.set rv j) (by rw[List.length_set];exact hz) s.toks
 by_cases h0:0<=k
 .
  have hk:k.toNat=j:=by rw[seqIndex_of h0 h4]at h1;exact Option.some.inj h1
  exact PySem.W.ki_setAt ho h0 xL (by rw[List.size_toArray,<- hl];exact h4) (by rw[hk];exact⟨_,I',q⟩)
 .
  have hk:(k+(its.toArray.size:Int)).toNat=j:=by rw[seqIndex_neg xL h3]at h1;rw[List.size_toArray,<- hl];exact Option.some.inj h1
  exact PySem.W.ki_setBack ho xL (by rw[List.size_toArray,<- hl];exact h3) xL (by rw[hk];exact⟨_,I',q⟩)
theorem vd(lo hi:Option Int)(n:Nat):(sliceBounds lo hi none n).1=((HT.sIx n 0 lo:Nat):Int)/\(sliceBounds lo hi none n).2.1=((HT.sIx n n hi:Nat):Int)/\(sliceBounds lo hi none n).2.2=1:=by
 refine⟨?_,?_,rfl⟩
 .
  cases lo with
  |none=>simp[sliceBounds,HT.sIx]
  | some i =>
   simp only[sliceBounds,HT.sIx,Option.getD_none,show(1:Int) > 0 by decide,if_true];by_cases h:i<0
   . simp only[h,if_true]<;>omega
   . simp only[h,if_false]<;>omega
 .
  cases hi with
  |none=>simp[sliceBounds,HT.sIx]
  | some i =>
   simp only[sliceBounds,HT.sIx,Option.getD_none,show(1:Int) > 0 by decide,if_true];by_cases h:i<0
   . simp only[h,if_true]<;>omega
   . simp only[h,if_false]<;>omega
theorem tJ(its:List Value)(lo hi:Option Int):slicePick its.toArray lo hi none=((its.drop (HT.sIx its.length 0 lo)).take (HT.sIx its.length its.length hi-HT.sIx its.length 0 lo)).toArray:=by obtain⟨h1,h2,h3⟩:=vd lo hi its.toArray.size;unfold slicePick;rw[h1,h2,h3];simp only[sliceRange_one,pick_run,List.size_toArray]<;>rfl
def NT(K:PySem.W.Frag):V->Option Int->Option Int->Hp->VK->Prop:=λx lo hi H Q=>∃a xs,x=.ref a/\Ow K H a xs/\∀p,H p=none->Q (.ref p) (Og H p (.lst (FY xs lo hi)))
theorem GN:OS X (NT X.K):=by intro gV s σ H x v vl vu lo hi sl Q I rx hs pl pu h;obtain⟨a,xs,rfl,hx,q⟩:=h;cases rx;obtain⟨its,r,ht,hz⟩:=I.list hx;have kz:=r.length;refine⟨"list",_,slot_list_getitem.lookup,ht.isList.typeIs,?_⟩;refine wpAny_getItem_list_slice ht.isList hs pl pu .none v6 ?_ (by rw[List.size_toArray]<;>omega);rw[tJ,<- kz];refine⟨.ref s.heap.objs.size,_,I.laid (t':=s.toks) (o:=.lst (FY xs lo hi)) (λb ob q=>tu _ q) (SN _) ?_,rfl,q _ (I.hok.fresh (SN _))⟩;exact⟨SJ (pO xs lo hi) hz,_,0,(r.drop (HT.sIx xs.length 0 lo)).take (HT.sIx xs.length xs.length hi-HT.sIx xs.length 0 lo),Heap.get?_push_size _ rfl⟩
noncomputable def rJ:V->Bool
 |.non=>true
 |.bl _=>true
 |.int _=>true
 |.str _=>true
 |_=>false
noncomputable def OY:V->V->Bool
 |.non,.non=>true
 |.bl a,.bl b=>a == b
 |.bl a,.int b=>(if a then 1 else 0) == b
 |.int a,.bl b=>a == (if b then 1 else 0)
 |.int a,.int b=>a == b
 |.str a,.str b=>a == b
 |_,_=>false
theorem JS{A:Around}{s:Shared}{y x:V}{u v:Value}(ry:bU y u)(rx:bU x v)(fy:rJ y=true)(fx:rJ x=true):SeqAt.EqAt A s u v (OY y x):=by
 cases y with
 | non =>
  cases ry
  cases x with
  |non=>cases rx;exact SeqAt.EqAt.same _
  |bl b=>cases rx;exact SeqAt.EqAt.none_bool b
  |int b=>obtain⟨t,rfl⟩:=rx;exact SeqAt.EqAt.none_int b t
  |str b=>obtain⟨t,rfl⟩:=rx;exact SeqAt.EqAt.none_str b t
  |_=>exact absurd (show false=true from fx) Bool.false_ne_true
 | bl a =>
  cases ry
  cases x with
  |non=>cases rx;exact SeqAt.EqAt.bool_none a
  |bl b=>cases rx;exact SeqAt.EqAt.bool_bool a b
  |int b=>obtain⟨t,rfl⟩:=rx;exact SeqAt.EqAt.bool_int a b t
  |str b=>obtain⟨t,rfl⟩:=rx;exact SeqAt.EqAt.bool_str a b t
  |_=>exact absurd (show false=true from fx) Bool.false_ne_true
 | int a =>
  obtain⟨t',rfl⟩:=ry
  cases x with
  |non=>cases rx;exact SeqAt.EqAt.int_none a t'
  |bl b=>cases rx;exact SeqAt.EqAt.int_bool a t' b
  |int b=>obtain⟨t,rfl⟩:=rx;exact SeqAt.EqAt.int_int a t' b t
  |str b=>obtain⟨t,rfl⟩:=rx;exact SeqAt.EqAt.int_str a t' b t
  |_=>exact absurd (show false=true from fx) Bool.false_ne_true
 | str a =>
  obtain⟨t',rfl⟩:=ry
  cases x with
  |non=>cases rx;exact SeqAt.EqAt.str_none a t'
  |bl b=>cases rx;exact SeqAt.EqAt.str_bool a t' b
  |int b=>obtain⟨t,rfl⟩:=rx;exact SeqAt.EqAt.str_int a t' b t
  |str b=>obtain⟨t,rfl⟩:=rx;exact SeqAt.EqAt.str_str a t' b t
  |_=>exact absurd (show false=true from fx) Bool.false_ne_true
 |_=>exact absurd (show false=true from fy) Bool.false_ne_true
noncomputable def OZ(x:V)(u:Value):Bool:=match u with
 |.none=>OY .non x
 |.bool b=>OY (.bl b) x
 |.int i _=>OY (.int i) x
 |.str z _=>OY (.str z) x
 |_=>false
theorem FZ{x y:V}{u:Value}(r:bU y u)(f:rJ y=true):OZ x u=OY y x:=by
 cases y with
 |non=>cases r;rfl
 |bl b=>cases r;rfl
 |int i=>obtain⟨t,rfl⟩:=r;rfl
 |str z=>obtain⟨t,rfl⟩:=r;rfl
 |_=>exact absurd (show false=true from f) Bool.false_ne_true
theorem wU{x:V}:∀{xs:List V}{us:List Value},bZ xs us->xs.all rJ=true->us.any (OZ x)=xs.any λy=>OY y x
 |_,_,.nil,_=>rfl
 | y::xs,u::us,.cons r t,f=>by rw[List.all_cons,Bool.and_eq_true]at f;rw[List.any_cons,List.any_cons,FZ r f.1,wU t f.2]
theorem tK{A:Around}{s:Shared}{x:V}{v:Value}(rx:bU x v)(fx:rJ x=true):∀{xs:List V}{us:List Value},bZ xs us->xs.all rJ=true->∀u∈us,SeqAt.EqAt A s u v (OZ x u)
 |_,_,.nil,_=>λu hu=>by cases hu
 | y::xs,u::us,.cons r t,f=>λu' hu=>by
  rw[List.all_cons,Bool.and_eq_true]at f;rcases SK.mp hu with rfl|hu
  . rw[FZ r f.1];exact JS r rx f.1 fx
  . exact tK rx fx t f.2 u' hu
noncomputable def O0(x:V)(xs:List V):Bool:=xs.any λy=>OY y x
def O1(K:PySem.W.Frag)(neg:Bool):R2:=λx y H Q=>∃p xs,y=.ref p/\(Ow K H p xs∨Ox K H p xs)/\rJ x=true/\xs.all rJ=true/\Q (.bl (if neg then !O0 x xs else O0 x xs)) H
theorem A9:OI X (compareOp .In) (O1 X.K false):=by
 intro gV s σ H x y v u Q I rx ry h;obtain⟨p,xs,rfl,hq,fx,fs,q⟩:=h;cases ry;rcases hq with hq|hq
 . obtain⟨its,r,pl,hz⟩:=I.list hq;refine SeqAt.in_listAt (OZ x) pl.isList (λw hw=>tK rx fx r fs w (by simpa using hw)) ⟨.bl _,H,I,rfl,?_⟩;rw[show its.toArray.any (OZ x)=its.any (OZ x) by simp,wU r fs];exact q
 . obtain⟨its,r,pl,hz⟩:=I.tuple hq;refine SeqAt.in_tupleAt (OZ x) pl (λw hw=>tK rx fx r fs w (by simpa using hw)) ⟨.bl _,H,I,rfl,?_⟩;rw[show its.toArray.any (OZ x)=its.any (OZ x) by simp,wU r fs];exact q
theorem oz:iY X (.builtin "len") (λxs H Q=>∃ p ys,xs=[.ref p]/\(Ow X.K H p ys∨Ox X.K H p ys)/\Q (.int ys.length) H):=by
 intro gV s σ H xs us Q I r h;obtain⟨p,ys,rfl,hq,q⟩:=h;obtain⟨u,rfl,rx⟩:=u7 r;cases rx;have hn:=pN;rcases hq with hq|hq
 . obtain⟨its,r',pl,hz⟩:=I.list hq;have kz:=r'.length;exact Calls.call_len_list pl.isList (by simp only[List.size_toArray]<;>omega) ⟨.int ys.length,H,I.tok _,⟨s.toks+1,by rw[List.size_toArray,kz]⟩,q⟩
 . obtain⟨its,r',pl,hz⟩:=I.tuple hq;have kz:=r'.length;exact len_tuple pl (by simp only[List.size_toArray]<;>omega) ⟨.int ys.length,H,I.tok _,⟨s.toks+1,by rw[List.size_toArray,kz]⟩,q⟩
theorem ve:iY X (.builtin "len") (λxs H Q=>∃ z,xs=[.str z]/\z.length<=sizeLine/\Q (.int z.length) H):=by intro gV s σ H xs us Q I r h;obtain⟨z,rfl,hz,q⟩:=h;obtain⟨u,rfl,t,rfl⟩:=u7 r;have hn:=pN;exact len_str xL ⟨.int z.length,H,I.tok _,⟨_,rfl⟩,q⟩
theorem iY.or{f:Value}{r r':List V->Hp->VK->Prop}(h:iY X f r)(h':iY X f r'):iY X f (λxs H Q=>r xs H Q∨r' xs H Q):=by
 intro gV s σ H xs us Q I rs q;rcases q with q|q
 . exact h gV s σ H xs us Q I rs q
 . exact h' gV s σ H xs us Q I rs q
theorem oA:iY X (.type "list") (λxs H Q=>∃ p ys,xs=[.ref p]/\(Ow X.K H p ys∨Ox X.K H p ys)/\∀ l,H l=none->Q (.ref l) (Og H l (.lst ys))):=by
 intro gV s σ H xs us Q I r h;obtain⟨p,ys,rfl,hq,q⟩:=h;obtain⟨u,rfl,rx⟩:=u7 r;cases rx
 have Ov:∀(its:List Value),bZ ys its->ys.length<=sizeLine->∀(h':Heap)(c':Nat),(∀b o',s.heap.get? b=some o'->h'.get? b=some o') ->
   h'.get? s.heap.objs.size=some {cls:=.type "list",dict:=none,data:=.seq its.toArray c',slots:=#[] }->EP X gV σ Q (.ref s.heap.objs.size) {s with heap:=h' }:=λits r' hz h' c' kp e =>
  ⟨.ref s.heap.objs.size,_,I.laid (t':=s.toks) kp (SN _) (show dB X.prog X.w _ h' _ (.lst ys)from⟨hz,its,c',r',e⟩),rfl,q _ (I.hok.fresh (SN _))⟩
 rcases hq with hq|hq
 . obtain⟨its,r',pl,hz⟩:=I.list hq;have kz:=r'.length;obtain⟨o,ho,hc,n,hd⟩:=pl.isList;exact call_list_seq p (.inl rfl) ho hc hd (λh' c' kp e=>Ov its r' hz h' c' kp e) (by simp only[List.size_toArray]<;>omega)
 . obtain⟨its,r',pl,hz⟩:=I.tuple hq;have kz:=r'.length;obtain⟨o,ho,hc,n,hd⟩:=pl;exact call_list_seq p (.inr rfl) ho hc hd (λh' c' kp e=>Ov its r' hz h' c' kp e) (by simp only[List.size_toArray]<;>omega)
def O2(K:PySem.W.Frag)(T:String)(x:V)(H:Hp):Prop:=match x with
 |.str _=>T="str"
 |.int _=>T="int"
 | .ref p=>(T="list"/\∃ xs,Ow K H p xs)∨(T="tuple"/\∃ o,K.lookup p=some o/\o.cls=.type "tuple"/\o.dict=none) ∨
   (T="dict"/\((∃ kvs,H p=some (.dK kvs))∨∃ kvs,H p=some (.dT kvs)))∨(T="set"/\∃ S n,H p=some (.set S n))
 |_=>False
theorem F0{gV:List (Addr×Obj)}{σ:St}{H:Hp}{s:Shared}{T:String}{x:V}{v:Value}(I:Oq X gV σ H s)(r:bU x v)(ty:O2 X.K T x H) :
  s.TypeIs v T/\∀a,v=.ref a->∃ob,s.heap.get? a=some ob/\ob.dict=none:=by
 cases x with
 | str z =>
  obtain⟨t,rfl⟩:=r;cases(show T="str" from ty);exact⟨typeIs_str s z t,λ_ e=>nomatch e⟩
 | int i =>
  obtain⟨t,rfl⟩:=r;cases(show T="int" from ty);exact⟨typeIs_int s i t,λ_ e=>nomatch e⟩
 | ref p =>
  cases r;rcases ty with⟨rfl,xs,hq⟩|⟨rfl,o,hk,hc,hd⟩|⟨rfl,hk⟩|⟨rfl,S,n,hk⟩
  . obtain⟨its,_,pl,_⟩:=I.list hq;refine⟨pl.isList.typeIs,λa e=>?_⟩;cases e;obtain⟨o,n,e,c,hd,_⟩:=pl;exact⟨o,e,hd⟩
  . refine⟨⟨o,I.kIn p o hk,hc⟩,λa e=>?_⟩;cases e;exact⟨o,I.kIn _ o hk,hd⟩
  .
   have z:∃o,s.heap.get? p=some o/\o.ExactDict:=by
    rcases hk with⟨kvs,hk⟩|⟨kvs,hk⟩
    . obtain⟨_,_,_,_,o,_,_,e,ex,_⟩:=I.hok p _ hk;exact⟨o,e,ex⟩
    . obtain⟨_,_,_,_,o,_,_,e,ex,_⟩:=I.hok p _ hk;exact⟨o,e,ex⟩
   obtain⟨o,e,ex⟩:=z;refine⟨⟨o,e,ex.1⟩,λa e2=>?_⟩;cases e2;exact⟨o,e,ex.2.1⟩
  . obtain⟨o,_,_,_,e,ex,_⟩:=I.hok p _ hk;refine⟨⟨o,e,ex.1⟩,λa e2=>?_⟩;cases e2;exact⟨o,e,ex.2.1⟩
 |_=>exact False.elim ty
def NU(K:PySem.W.Frag)(T:String)(r:V->List V->Hp->VK->Prop)(to:TE):TE:=λσ H Q=>to σ H λx H1=>O2 K T x H1/\r x [] H1 Q
def O3(K:PySem.W.Frag)(T:String)(r:V->List V->Hp->VK->Prop)(to:TE)(t:TA):TE:=λσ H Q=>to σ H λx H1=>O2 K T x H1/\t σ H1 λxs H2=>r x xs H2 Q
variable{o e:Expr}{es:List Expr}{to:TE}{t:TA}{name:Str}{apos cpos:Pos}{T id:String}{r:V->List V->Hp->VK->Prop}
theorem JT(pa:PlainAttrs T)(slot:Slot T name id) (hty:typeOf (.builtin id)=pure (.type "method_descriptor")) (hm:OX X id r) (ho:PE X o to)
  (hbase:attributeBase o name X.env (eval o X.env)=eval o X.env:=by rfl) (hline:(apos.endLine == cpos.line)=true:=by rfl):PE X (.Call (.Attribute o name apos) [] [] cpos) (NU X.K T r to):=by
 intro gV s σ H Q I h;refine wpAny_Call_method0_late hbase hline (Ot (ho gV s σ H _ I h) λv s1 jqz=>?_);obtain⟨x,H1,I1,r1,ty,q1⟩:=jqz;obtain⟨h1,h2⟩:=F0 I1 r1 ty;exact⟨T,id,pa,slot,hty,h1,h2,Calls.callWith_builtin rfl (PySem.evalArgs_none (hm gV s1 σ H1 x [] v [] Q I1 r1 .nil q1))⟩
theorem JU(pa:PlainAttrs T)(slot:Slot T name id) (hty:typeOf (.builtin id)=pure (.type "method_descriptor")) (hm:OX X id r) (ho:PE X o to) (ha:PA X (e::es) t)
  (hbase:attributeBase o name X.env (eval o X.env)=eval o X.env:=by rfl)
  (hfew:((backTo cpos (starEach (e::es) X.env)).all (λx=>!x.1) && (backToKw cpos (keywordEach [] X.env)).all (λx=>x.1.isSome)
   && decide ((e::es).length+([]:List Keyword).length+(if([]:List Keyword).isEmpty then 0 else 1)<30))=true:=by rfl)
  (hline:(apos.endLine == cpos.line)=true:=by rfl) (hs:starEach (e::es) X.env=(false,eval e X.env)::starEach es X.env:=by rfl) (hplain:(backTo cpos (starEach es X.env)).any (·.1)=false:=by rfl) :
  PE X (.Call (.Attribute o name apos) (e::es) [] cpos) (O3 X.K T r to t):=by
 intro gV s σ H Q I h;refine wpAny_Call_method_late hbase hfew hline rfl (Ot (ho gV s σ H _ I h) λv s1 jqz=>?_);obtain⟨x,H1,I1,r1,ty,q1⟩:=jqz;obtain⟨h1,h2⟩:=F0 I1 r1 ty;refine⟨T,id,pa,slot,hty,h1,h2,?_⟩;have hA:=ha cpos gV s1 σ H1 _ I1 q1;rw[hs]at hA ⊢;refine Calls.callWith_builtin (by show(false ||(backTo cpos (starEach es X.env)).any (·.1))=false;rw[hplain]<;>rfl) (Calls.evalArgs_plain ?_);exact Ot hA λus s2 ⟨vs,H2,I2,r2,q2⟩=>hm gV s2 σ H2 x vs v us Q I2 r1 r2 q2
/- xs.append(e),list.index on a module's tuple .. are OX facts of 06m -/
end
def O4(X:Cx)(id:String)(r:V->List V->Hp->VK->Prop):Prop :=
 ∀(gV:List (Addr×Obj))(s:Shared)(σ:St)(H:Hp)(x:V)(xs:List V)(v:Value)(us:List Value)(Q:VK),Oq X gV σ H s->bU x v->bZ xs us->r x xs H Q ->
  wpAny (model X.prog X.w) X.A (call (.builtin id) (v::us)) (EP X gV σ Q) X.xe s
theorem bZ.one:∀{x:V}{us:List Value},bZ [x] us->∃u,us=[u]/\bU x u
 |_,_,.cons r .nil=>⟨_,rfl,r⟩
theorem bZ.two:∀{x y:V}{us:List Value},bZ [x,y] us->∃u v,us=[u,v]/\bU x u/\bU y v
 |_,_,_,.cons r (.cons q .nil)=>⟨_,_,rfl,r,q⟩
theorem bZ.zero:∀{us:List Value},bZ [] us->us=[]
 |_,.nil=>rfl
theorem bZ.dropLast{xs:List V}{us:List Value}(h:bZ xs us):bZ xs.dropLast us.dropLast:=by
 induction h with
 |nil=>exact .nil
 | cons r t ih =>
  cases t with
  |nil=>exact .nil
  |cons q t'=>exact .cons r ih
theorem zJ{α:Type}(l:List α):l.eraseIdx (l.length-1)=l.dropLast:=by
 induction l with
 |nil=>rfl
 | cons a r ih =>
  cases r with
  |nil=>rfl
  | cons b r =>
   have e:(a::b::r).length-1=((b::r).length-1)+1:=by have h1:(a::b::r).length=r.length+2:=rfl;have h2:(b::r).length=r.length+1:=rfl;omega
   rw[e,List.eraseIdx_cons_succ,ih]
   all_goals rfl
section
variable{X:Cx}{gV:List (Addr×Obj)}{σ:St}{H:Hp}{s:Shared}{l:Addr}{xs ys:List V}
theorem Oq.lset{its its':List Value}{n:Nat}{f:Array Value->Array Value}{t':Nat}(I:Oq X gV σ H s)(hH:H l=some (.lst xs))
  (e:s.heap.get? l=some {cls:=.type "list",data:=.seq its.toArray n}) (hf:f its.toArray=its'.toArray) (hv:bZ ys its') (hz:ys.length<=sizeLine) :
  Oq X gV σ (Og H l (.lst ys)) {s with heap:=s.heap.update l (Obj.mapSeq f),toks:=t' }:=by
 have q:=PySem.IsL.update e f;rw[hf]at q;refine I.write (x:=l) (e:=l) (by rw[hH];exact trivial) (.inl rfl) (λb' u hb hu=>(Heap.get?_update_other s.heap (Obj.mapSeq f) (Ne.symm hb)).trans hu) ⟨_,q⟩ ?_;exact⟨hz,its',_,hv,q⟩
theorem Oq.lnew{its:List Value}{t':Nat}(I:Oq X gV σ H s)(hv:bZ ys its)(hz:ys.length<=sizeLine) :
  Oq X gV σ (Og H s.heap.objs.size (.lst ys)) {s with heap:=s.heap.push {cls:=.type "list",data:=.seq its.toArray},toks:=t' } :=
 I.laid (λ_ _ q=>tu _ q) (SN _) ⟨hz,its,0,hv,Heap.get?_push_size _ rfl⟩
theorem Oq.fresh(I:Oq X gV σ H s):H s.heap.objs.size=none:=I.hok.fresh (SN _)
theorem Oq.lstM(I:Oq X gV σ H s)(hH:H l=some (.lst xs)):xs.length<=sizeLine/\∃(its:List Value)(n:Nat),bZ xs its/\xs.length=its.length/\s.heap.get? l=some {cls:=.type "list",data:=.seq its.toArray n}:=by obtain⟨z,its,n,r,e⟩:=I.hok l _ hH;exact⟨z,its,n,r,r.length,e⟩
end
section
variable{X:Cx}
def GO:V->List V->Hp->VK->Prop:=λx vs H Q=>∃l xs y,x=.ref l/\vs=[y]/\H l=some (.lst xs)/\xs.length<sizeLine/\Q .non (Og H l (.lst (xs++[y])))
theorem vf:O4 X "list.append" GO:=by intro gV s σ H x vs v us Q I rx rv h;obtain⟨l,xs,y,rfl,rfl,hH,hz,q⟩:=h;cases rx;obtain⟨u,rfl,ru⟩:=rv.one;obtain⟨z,its,n,r,hl,e⟩:=I.lstM hH;refine call_meets F.slot_list_append ⟨_,e,rfl⟩ F.entry_list_append (F.args_list_append_2 _ _) (PySem.list_append l its.toArray n u (by rw[List.size_toArray];omega)) ⟨e,?_⟩;refine⟨.non,_,I.lset (its':=its++[u]) hH e v6 (r.append (.cons ru .nil)) ?_,rfl,q⟩;rw[List.length_append,List.length_singleton];omega
def NV:V->List V->Hp->VK->Prop:=λx vs H Q=>∃l xs y,x=.ref l/\vs=[]/\H l=some (.lst xs)/\xs[xs.length-1]?=some y/\Q y (Og H l (.lst xs.dropLast))
theorem JV:O4 X "list.pop" NV:=by
 intro gV s σ H x vs v us Q I rx rv h;obtain⟨l,xs,y,rfl,rfl,hH,hy,q⟩:=h;cases rx;have hus:=rv.zero;subst hus;obtain⟨z,its,n,r,hl,e⟩:=I.lstM hH;obtain⟨u,hu,ru⟩:=r.get hy;have hy':its.toArray[its.toArray.size-1]?=some u:=by show its.toArray[its.length-1]?=some u;rw[<- Array.getElem?_toList,<- hl];exact hu
 refine call_meets F.slot_list_pop ⟨_,e,rfl⟩ F.entry_list_pop (F.args_list_pop_1 _) (MeetsSeq.list_pop_last l its.toArray n u hy' (by rw[List.size_toArray];omega)) ⟨e,?_⟩;refine⟨y,_,I.lset (its':=its.dropLast) hH e ?_ r.dropLast ?_,ru,q⟩
 . show its.toArray.eraseIdxIfInBounds (its.toArray.size-1)=its.dropLast.toArray;rw[List.size_toArray,List.eraseIdxIfInBounds_toArray,zJ]
 . rw[List.length_dropLast];omega
end
end L2
namespace Att
open PySem PySem.W PySem.Calls PyProof.Rows
theorem pP{P:Params}{h:Heap}:∀(ns:List Int)(vs:List Value),WellAll P h vs (ns.map WData.int)->IntsAre vs ns:=by
 intro ns
 induction ns with
 | nil =>
  intro vs w;rw[List.map_nil]at w;cases w;exact .nil
 | cons n ns ih =>
  intro vs w;rw[List.map_cons]at w
  cases w with
  | cons a b =>
   cases a;exact .cons _ _ (ih _ b)
theorem Ba{l:OpenLaw}{n:Nat}(hn:l.most=some n){P:Params}{h:Heap}{args:List WData}{vals:List Value}
  (hpre:l.row.toRowW.claim.pre args=true) (hwl:WellAll P h vals args) :
  ∃ a vs ns,vals=[Value.ref a]/\args=[WData.list (ns.map WData.int)]/\h.get? a=some {cls:=.type "list",data:=.seq vs.toArray}/\IntsAre vs ns/\ns.length<=n:=by
 have hsh:WShape.hasAll [] args [.list .int]=true:=(pre_splitW hpre).1;have hc:l.pre.holds [] {args:=args}=true:=(pre_splitW hpre).2;obtain⟨d,r,rfl,h1,h2⟩:=hasAllW_cons hsh;obtain rfl:=hasAllW_nil h2;obtain⟨xs,rfl,h3⟩:=hasW_list h1;obtain⟨ns,rfl⟩:=items_int h3
 have kz:ns.length<=n:=by
  unfold OpenLaw.pre at hc;have h4:(WTm.not (.lt (.lit (.int (n:Int))) (.len (.arg 0)))).holds [] {args:=[.list (ns.map .int)] }=true:=by have h4:=(holds_andW hc).1;rw[hn]at h4;exact h4
  have h5:=condW_of h4 (w_not (w_lt w_lit (w_len_list (w_arg rfl))));rw[SH]at h5;refine Nat.le_of_not_lt λq=>?_;have q':(n:Int)<((ns.length:Nat):Int):=by omega
  first
   |(rw[decide_eq_true q']at h5;exact absurd h5 x_)
   |(simp at h5;omega)
 cases hwl with
 | cons w1 w2 =>
  cases w2
  cases w1 with
  |list ho hall=>exact⟨_,_,ns,rfl,rfl,ho,pP ns _ hall,kz⟩
theorem Bb(l:OpenLaw)(args:List WData):l.row.toRowW.claim.post args (.bool true) args=true :=
 postW_of (r:=l.row.toRowW) (X:=(true == true))
  (show WShape.has [] (.bool true) .bool=true by first|rfl|decide|simp[WShape.has,WShape.arms,WShape.armsAll])
  (show(WTm.eq .res (.lit (.bool true))).value [] {args:=args,res:=some (.bool true),after:=args}=some (.bool (true == true))from w_eq_bool (w_res rfl) w_lit) rfl
theorem attach_call{l:OpenLaw}{n:Nat}{q:Program}{loose:List Str}{XP:(Str->Option Value)->Heap->Prop}{YP:World->Heap->Prop}{d:DefRec}
  (hn:l.most=some n) (hdf:d.params.defaults=[])
  (call:∀(w:World)(s₀ s₁:Shared)(mg mb:Str->Option Value)(fa:Addr)(o:Obj)(pm cd doc:Value)(a:Addr)(vs:List Value)(ns:List Int),
   Ground q loose [] XP w s₀ mg mb s₁.heap->YP w s₁.heap ->
   s₁.heap.get? fa=some o->o.data=.func (docDef d.name d.params d.body d.scope pm cd doc)->s₁.heap.CodeRec cd d.name->mg d.name=some (.ref fa) ->
   s₁.heap.get? a=some {cls:=.type "list",data:=.seq vs.toArray}->IntsAre vs ns->ns.length<=n->s₁.gens=#[] ->
   codeAny (model l.prog w) callerA (.call (.ref fa) ⟨[.ref a],[]⟩) (λr s'=>r=.ok (.ret (.bool true))/\OldK s₁.heap s'.heap/\s'.os=s₁.os/\AllBare s'.gens) s₁) :
  WalkO q loose XP YP l.row.toRowW d [] (λf vs=>PySem.call f vs):=by
 intro w s₀ s₁ mg mb G Y fa o pm cd doc dV kV ho hd hcd hD hmg hg args vals as hpre hlay hrd hwl hlo;obtain rfl:dV=.none:=Dflts.none hD hdf;obtain rfl:kV=.none:=Dflts.noKw hD;obtain⟨a,vs,ns,rfl,rfl,hobj,hints,kz⟩:=Ba hn hpre hwl;refine enter_call (codeAny_mono (call w s₀ s₁ mg mb fa o pm cd doc a vs ns G Y ho (fd_plain hd) hcd hmg hobj hints kz hg) λr s' hq=>?_);obtain⟨rfl,h2,h3,h4⟩:=hq;exact⟨.inl ⟨.bool true,.bool true,[],rfl,λ_=>rfl,.bool true,Bb l _,λ_=>⟨List.Pairwise.nil,λ_ hm=>(nomatch hm)⟩⟩,h2,h3,h4⟩
section
noncomputable def Ng(h:Heap)(L d:Addr):List (Addr×Obj):=(List.range h.objs.size).filterMap λa=>if a=L∨a=d then none else(h.get? a).map λo=>(a,o)
end
end Att
namespace L2
open PySem PySem.Spec PyProof.Rows
theorem vg:∀{vs:List Value}{ns:List Int},IntsAre vs ns->bZ (ns.map V.int) vs
 |_,_,.nil=>.nil
 |_,_,.cons n t h=>.cons ⟨t,rfl⟩ (vg h)
def LA(H:Hp):Prop:=∀b,H b=none∨(∃o xs,H b=some (.frz o (.lst xs)))∨∃q,H b=some (.tbl q)
noncomputable def dY(K:PySem.W.Frag):List (Addr×Str):=lamNames.filterMap λx=>(PySem.W.tabIn K x).map λp=>(p.2,Jw x)
noncomputable def tabsOk(K:PySem.W.Frag):Bool:=decide ((dY K).map (·.1)).Nodup && (dY K).all λp=>(K.lookup p.1).isNone
theorem Bc{K:PySem.W.Frag}{P:Addr}{q:Str}(h:(P,q)∈dY K):∃x∈lamNames,∃c,PySem.W.tabIn K x=some (c,P)/\q=Jw x:=by
 obtain⟨x,hx,e⟩:=List.mem_filterMap.mp h
 cases z:PySem.W.tabIn K x with
 |none=>rw[z]at e;cases e
 |some p=>rw[z]at e;cases e;exact⟨x,hx,p.1,z,rfl⟩
theorem kj{α β:Type}[BEq α][LawfulBEq α]:∀{l:List (α×β)}{a:α}{b:β},l.lookup a=some b->(a,b)∈l
 |[],_,_,h=>nomatch h
 | (x,y)::r,a,b,h=>by
  rw[List.lookup_cons]at h
  cases hb:a == x with
  |true=>rw[hb]at h;cases h;rw[eq_of_beq hb];exact .head _
  |false=>rw[hb]at h;exact .tail _ (kj h)
theorem i5{α β:Type}[BEq α][LawfulBEq α]:∀{l:List (α×β)}{a:α}{b:β},(l.map (·.1)).Nodup->(a,b)∈l->l.lookup a=some b
 |[],_,_,_,h=>nomatch h
 | (x,y)::r,a,b,nd,h=>by
  rw[List.map_cons,List.nodup_cons]at nd;rw[List.lookup_cons];rcases SK.mp h with e|h
  . cases e;simp
  . have:a≠x:=λz=>nd.1 (z ▸ List.mem_map_of_mem (f:=(·.1)) h);rw[show(a == x)=false from beq_false_of_ne this];exact i5 nd.2 h
theorem zK{K:PySem.W.Frag}{x:Str}{c P:Addr}(h:PySem.W.tabIn K x=some (c,P)):K.lookup c≠none:=by
 unfold PySem.W.tabIn at h;split at h
 .
  split at h
  .
   split at h
   .
    split at h
    .
     rename_i hco;split at h
     . cases h;intro z;rw[hco]at z;cases z
     . cases h
    . cases h
   . cases h
  . cases h
 . cases h
theorem DD{P:Program}{w:World}{K:PySem.W.Frag}{mg mb:Str->Option Value}{CX:OQ}{k:Nat}{fa a:Addr}{fd:FuncData}{x:Str}{sp:Sp}{s₁:Shared}{vs:List Value}{ns:List Int}
  (KX:K.In s₁.heap) (hns:s₁.heap.Ns mainGlobals mg) (hb:s₁.heap.Ns builtinsNs mb) (hbb:∀ x:Str,x≠"__name__"->mb x=bootBuiltins x) (hlim:s₁.heap.NoLimit) (hsys:∃ mm,s₁.heap.Ns sysModules mm) (hbm:Jv mg s₁.heap) (hto:tabsOk K=true)
  (htb:∀x∈lamNames,∀c P,PySem.W.tabIn K x=some (c,P)->PySem.W.CodeHd s₁.heap c P/\s₁.heap.get? P=some (PySem.W.tabObj #[])) (hg:s₁.gens=#[])
  (ha:s₁.heap.get? a=some {cls:=.type "list",data:=.seq vs.toArray}) (hi:IntsAre vs ns) (hl:ns.length<=sizeLine) (hr:k9 k callerA)
  (F:∀base:Heap,K.In base->base.Ns mainGlobals mg->FnOk P w K mg base CX k fa fd [x] sp) (hbind:∀(s:Shared)(u:Value),BindsTo s fd ⟨[u],[]⟩ [(x,u)])
  (hsp:∀H:Hp,LA H->Ow K H a (ns.map V.int)->sp [.ref a] H (λv _=>v=.bl true) λ_ _ _=>False)
  (hCX:∀H e s',CX [] H s₁ (λ_ _ _=>False) e s'->False) :
  codeAny (model P w) callerA (.call (.ref fa) ⟨[.ref a],[]⟩) (λr s'=>r=.ok (.ret (.bool true))/\OldK s₁.heap s'.heap/\s'.os=s₁.os/\AllBare s'.gens) s₁:=by
 have rv:=vg hi;have lenV:=hi.length;obtain⟨nd,kn⟩:=Bool.and_eq_true_iff.mp hto;have nd:=of_decide_eq_true nd;have tabAt:∀{b:Addr}{q:Str},(dY K).lookup b=some q->PySem.isCodeTable s₁.heap b/\s₁.heap.get? b=some (PySem.W.tabObj #[])/\K.lookup b=none:=λ{b q} e=>by have hm:(b,q)∈dY K:=kj e;obtain⟨x,hx,c,e1,_⟩:=Bc hm;obtain⟨h1,h2⟩:=htb x hx c b e1;refine⟨(h1.tab h2).isCodeTable,h2,?_⟩;have:=List.all_eq_true.mp kn (b,q) hm;simpa using this
 have core:∀H:Hp,LA H->Ow K H a (ns.map V.int)->Oh P w H s₁.heap->(∀b,H b≠none->b=a∨∃q,H b=some (.tbl q)/\(dY K).lookup b=some q)->(∀b,H b≠none->K.lookup b=none)->Ol K H ->
   codeAny (model P w) callerA (.call (.ref fa) ⟨[.ref a],[]⟩) (λr s'=>r=.ok (.ret (.bool true))/\OldK s₁.heap s'.heap/\s'.os=s₁.os/\AllBare s'.gens) s₁:=by
  intro H hO hS hok hA hK hT;have base_of:∀{b:Addr}{o:Obj},s₁.heap.get? b=some o->H b=none->(Dq s₁.heap H).get? b=some o:=λe n=>Dr e n
  have noB:∀{b:Addr}{o:Obj},s₁.heap.get? b=some o->(∀us n,o.data≠.seq us n)->(∀us,o.data≠.fields us)->H b=none:=λ{b o} e d1 d2=>by
   cases q:H b with
   |none=>rfl
   | some u =>
    rcases hA b (by rw[q];simp)with e' | ⟨z,_,e'⟩
    . subst e';rw[ha]at e;cases e;exact absurd rfl (d1 _ _)
    . rw[(tabAt e').2.1]at e;cases e;exact absurd rfl (d2 _)
  have noA:∀{b:Addr}{o:Obj}{es:Array DictEntry}{ep:Nat},s₁.heap.get? b=some o->o.data=.dict es ep->H b=none:=λ{b o es ep} e d =>
   noB e (λus n z=>by rw[d]at z;cases z) λus z=>by rw[d]at z;cases z
  have nsK:∀{b:Addr}{m:Str->Option Value},s₁.heap.Ns b m->(Dq s₁.heap H).Ns b m:=λ{b m} ⟨o,es,ep,e,d,r⟩=>⟨o,es,ep,base_of e (noA e d),d,r⟩
  have hKb:K.In (Dq s₁.heap H):=λb o e=>base_of (KX b o e) (by
   cases q:H b with
   |none=>rfl
   |some u=>rw[hK b (by rw[q];simp)]at e;cases e)
  have hM:Mod K mg (Dq s₁.heap H):=⟨hKb,nsK hns,⟨mb,nsK hb,hbb⟩,let ⟨mc,h1,h2⟩:=hlim;⟨mc,nsK h1,h2⟩,let ⟨mm,h1⟩:=hsys;⟨mm,nsK h1⟩,by
   obtain⟨bm,ob,b1,b2,b3,b4,b5,b6⟩:=hbm
   exact⟨bm,ob,b1,b2,base_of b3 (noB b3 (λus n z=>by rw[b6]at z;cases z) λus z=>by rw[b6]at z;cases z),b4,b5,b6⟩,λx hx c P e=>by
   obtain⟨⟨o,vs,file,tf,flags,tg,O5,text,tt,e1,r⟩,_⟩:=htb x hx c P e
   exact⟨o,vs,file,tf,flags,tg,O5,text,tt,base_of e1 (by
    cases q:H c with
    |none=>rfl
    |some u=>exact absurd (hK c (by rw[q];simp)) (zK e)),r⟩⟩
  have e0:FW P w K mg (Dq s₁.heap H) callerA [] s₁ H:=⟨rfl,hM,λb o e=>GA e,Nat.le_of_eq (AO _ _),trivial,λb hb=>absurd (show b∈([]:List Addr)from hb) v6,hok,.of_eq hg,hT⟩;refine codeAny_mono ((F _ hKb (nsK hns)).run callerA [] s₁ H ⟨[.ref a],[]⟩ [.ref a] [.ref a] _ _ hr e0 (hbind s₁ (.ref a)) (.cons rfl .nil) (hsp H hO hS)) λr s' h=>?_
  cases r with
  |error e=>exact(hCX H e s' h).elim
  | ok fl =>
   cases fl with
   |next=>exact False.elim h
   |brk=>exact False.elim h
   |cont=>exact False.elim h
   | ret u =>
    obtain⟨v,H',os,bare,un,hok',r',q⟩:=h;have q':v=.bl true:=q;subst q';obtain rfl:u=Value.bool true:=r'
    have Ov:∀b o,s₁.heap.get? b=some o->s'.heap.get? b=some o∨(PySem.isCodeTable s₁.heap b/\o=PySem.W.tabObj #[]/\∃ps,s'.heap.get? b=some (PySem.W.tabObj ps)):=λb o e=>by
     cases q:H b with
     |none=>exact .inl (un.keep b o e q (by intro z;exact absurd (show b∈([]:List Addr)from z) v6) v6)
     | some u =>
      rcases hO b with z|⟨ob,xs,z⟩|⟨t,z⟩
      . rw[q]at z;cases z
      . have z2:=un.frzs b ob _ z;obtain⟨e1,_⟩:=hok b _ z;obtain⟨e2,_⟩:=hok' b _ z2;rw[e]at e1;cases e1;exact .inl e2
      .
       rcases hA b (by rw[q];simp)with e' | ⟨t2,_,e'⟩
       . subst e';obtain⟨ps,e1,_⟩:=hok b _ z;rw[ha]at e1;cases e1
       . obtain⟨ps,e2,_⟩:=hok' b _ (un.tbls b _ z);obtain⟨t1,t2,_⟩:=tabAt e';rw[e]at t2;cases t2;exact .inr ⟨t1,rfl,ps,e2⟩
    refine⟨rfl,⟨λb o e=>?_,λb o e=>?_⟩,os,bare⟩
    .
     rcases Ov b o e with z|⟨t,rfl,ps,z⟩
     . exact .inl z
     . exact .inr (.inl ⟨t,rfl,#[],ps,rfl,by rw[Array.empty_append];exact z⟩)
    .
     rcases Ov b o e with z|⟨t,_,ps,z⟩
     . exact⟨o,z⟩
     . exact⟨_,z⟩
 have tbsOf:∀{H:Hp},(∀b q,(dY K).lookup b=some q->H b=some (.tbl q))->Ol K H:=λ{H} h x hx c P e=>h P _ (i5 nd (List.mem_filterMap.mpr ⟨x,hx,by rw[e];rfl⟩));have okT:∀{H:Hp}{b:Addr}{q:Str},(dY K).lookup b=some q->dB P w H s₁.heap b (.tbl q):=λ{H b q} e=>⟨#[],(tabAt e).2.1,trivial,λpos cv z=>by simp[codeAmong]at z⟩;have na:∀q,(dY K).lookup a≠some q:=λq z=>by have:=(tabAt z).2.1;rw[ha]at this;cases this
 cases hk:K.lookup a with
 | some o =>
  have e:=KX a o hk;rw[ha]at e;cases e;refine core (λb=>((dY K).lookup b).map .tbl) (λb=>?_) (.inr ⟨_,vs.toArray,_,hk,rfl,rfl,rfl,by rw[List.size_toArray,lenV];exact hl,by simpa using rv⟩) (λb u z=>?_) (λb z=>?_) (λb z=>?_) (tbsOf λb q e=>by show Option.map _ _=_;rw[e];rfl)
  .
   show Option.map HO.tbl ((dY K).lookup b)=none∨_
   cases q:(dY K).lookup b with
   |none=>exact .inl rfl
   |some t=>exact .inr (.inr ⟨t,by show Option.map _ _=_;rw[q];rfl⟩)
  .
   have z':Option.map HO.tbl ((dY K).lookup b)=some u:=z
   cases q:(dY K).lookup b with
   |none=>rw[q]at z';cases z'
   |some t=>rw[q]at z';cases z';exact okT q
  .
   have z':Option.map HO.tbl ((dY K).lookup b)≠none:=z
   cases q:(dY K).lookup b with
   |none=>rw[q]at z';exact absurd rfl z'
   |some t=>exact .inr ⟨t,rfl,rfl⟩
  .
   have z':Option.map HO.tbl ((dY K).lookup b)≠none:=z
   cases q:(dY K).lookup b with
   |none=>rw[q]at z';exact absurd rfl z'
   |some t=>exact(tabAt q).2.2
 | none =>
  have at_a:∀ b,(if b=a then some (HO.frz {cls:=.type "list",data:=.seq vs.toArray} (.lst (ns.map V.int)))else((dY K).lookup b).map .tbl)≠none->b=a∨∃ q,(dY K).lookup b=some q:=λb z=>by
   by_cases hb:b=a
   . exact .inl hb
   .
    rw[if_neg hb]at z
    cases q:(dY K).lookup b with
    |none=>rw[q]at z;exact absurd rfl z
    |some t=>exact .inr ⟨t,rfl⟩
  have tabA:∀ b q,(dY K).lookup b=some q->(if b=a then some (HO.frz {cls:=.type "list",data:=.seq vs.toArray} (.lst (ns.map V.int)))else((dY K).lookup b).map .tbl)=some (.tbl q):=λb q e=>by rw[if_neg (λ(z:b=a)=>na q (by rw[<- z];exact e)),e];rfl
  refine core (λb=>if b=a then some (.frz {cls:=.type "list",data:=.seq vs.toArray} (.lst (ns.map V.int)))else((dY K).lookup b).map .tbl) (λb=>?_) (.inl (.inr ⟨{cls:=.type "list",data:=.seq vs.toArray},if_pos rfl⟩)) (λb u z=>?_) (λb z=>?_) (λb z=>?_) (tbsOf λb q e=>tabA b q e)
  .
   by_cases hb:b=a
   . exact .inr (.inl ⟨_,_,if_pos hb⟩)
   .
    cases q:(dY K).lookup b with
    |none=>exact .inl (by show ite _ _ _=_;rw[if_neg hb,q];rfl)
    |some t=>exact .inr (.inr ⟨t,tabA b t q⟩)
  .
   by_cases hb:b=a
   . have z':=(if_pos hb).symm.trans z;cases z';subst hb;exact⟨ha,by rw[SH];exact hl,vs,_,rv,ha⟩
   .
    have z':=(if_neg hb).symm.trans z
    cases q:(dY K).lookup b with
    |none=>rw[q]at z';cases z'
    |some t=>rw[q]at z';cases z';exact okT q
  .
   rcases at_a b z with e|⟨q,e⟩
   . exact .inl e
   . exact .inr ⟨q,tabA b q e,e⟩
  .
   rcases at_a b z with e|⟨q,e⟩
   . rw[e];exact hk
   . exact(tabAt e).2.2
theorem walk_of{l:PySem.W.OpenLaw}{n k:Nat}{q:Program}{loose:List Str}{XP:(Str->Option Value)->Heap->Prop}{YP:World->Heap->Prop}{d:DefRec}{K:Params->PySem.W.Frag}{CX:World->OQ}{sp:World->Sp}{x:Str}
  (hn:l.most=some n) (hq:importsNone q=true) (hn2:n<=sizeLine) (hdf:d.params.defaults=[]) (hr:k9 k callerA)
  (hY:∀(w:World)(h:Heap),YP w h->(K w.params).In h) (hto:∀w:World,tabsOk (K w.params)=true) (hrc:∀(w:World),∀x∈lamNames,PySem.W.tabIn (K w.params) x=none∨((recsOf q).find? λe=>e.name == x).isSome=true)
  (F:∀(w:World)(mg:Str->Option Value)(fa:Addr)(h:Heap),(K w.params).In h->h.Ns mainGlobals mg->mg d.name=some (.ref fa) ->
   ∃fd:FuncData,(∀(s:Shared)(u:Value),BindsTo s fd ⟨[u],[]⟩ [(x,u)]) /\
    ∀base:Heap,(K w.params).In base->base.Ns mainGlobals mg->FnOk l.prog w (K w.params) mg base (CX w) k fa fd [x] (sp w))
  (hsp:∀(w:World)(H:Hp)(a:Addr)(ns:List Int),ns.length<=n->LA H->Ow (K w.params) H a (ns.map V.int)->sp w [.ref a] H (λv _=>v=.bl true) λ_ _ _=>False)
  (hCX:∀(w:World)(H:Hp)(s:Shared)(e:Value)(s':Shared),CX w [] H s (λ_ _ _=>False) e s'->False) :
  PySem.W.WalkO q loose XP YP l.row.toRowW d [] (λf vs=>PySem.call f vs):=by
 refine Att.attach_call hn hdf λw s₀ s₁ mg mb fa o pm cd doc a vs ns G Y ho hd hcd hmg hobj hints kz hg=>?_;have KX:=hY w _ Y;obtain⟨fd,hb,hF⟩:=F w mg fa _ KX G.T.g hmg
 exact DD KX G.T.g G.T.b G.T.builtins G.T.nolimit (let ⟨mm,h1,_⟩:=(G.T.seer hq).mods;⟨mm,h1⟩) (let ⟨bm,ob,b1,b2,b3,b4,b5,b6⟩:=G.T.bmain;⟨bm,ob,b1,b2,b3,b4,b5,b6⟩) (hto w) (λy hy c P e=>by
  rcases hrc w y hy with z|z
  . rw[z]at e;cases e
  .
   obtain⟨d',hd'⟩:=Option.isSome_iff_exists.mp z
   exact PySem.W.tab_of G.T KX hd' e) hg hobj hints (SJ kz hn2) hr hF hb (λH hO hS=>hsp w H a ns kz hO hS) λH e s'=>hCX w H s₁ e s'
noncomputable def i6(s:Stmt):Arguments:=match s with
 |.FunctionDef _ a _ _ _ _ _ _ _ _=>a
 |_=>{posonlyargs:=[],args:=[],vararg:=none,kwonlyargs:=[],kw_defaults:=[],kwarg:=none,defaults:=[] }
noncomputable def eR(s:Stmt):List Stmt:=match s with
 |.FunctionDef _ _ b _ _ _ _ _ _ _=>b
 |_=>[]
noncomputable def ao(s:Stmt):Scope:=match s with
 |.FunctionDef _ _ _ _ _ _ sc _ _ _=>sc
 |_=>{kind:=.function,names:=[],isGenerator:=false,isCoroutine:=false}
noncomputable abbrev CX0:OQ:=λ_ _ _ _ _ _=>False
noncomputable abbrev E0:XK:=λ_ _ _=>False
theorem GP{X:Cx}:yo CX0 X E0:=λ_ _ _ _ _ _ _ h=>h.elim
structure O6 (K:PySem.W.Frag) (x qual:Str) (st:Stmt) (f:Addr) (fd:FuncData):Prop where
 ex:∃(oc:Value)(od:Option Addr)(kV doc pm:Value)(an:Option Addr)(cdv ct:Value)(osl:Array (Option Value)),
  fd=PySem.W.fnOf x qual (i6 st) (eR st) (ao st) .none kV doc pm an cdv ct/\K.lookup f=some ⟨oc,od,.func fd,osl⟩/\PySem.W.codeIn K cdv qual=true
 kp:PySem.W.keepIn K (.ref f)=true
section
variable{P:Program}{w:World}{K:PySem.W.Frag}{mg:Str->Option Value}{base:Heap}
theorem O6.ok{x qual:Str}{st:Stmt}{f:Addr}{fd:FuncData}{N ps:List Str}{k:Nat}{sp:Sp}(F:O6 K x qual st f fd)(S:aG N ps (ao st))(len:∀vs H Q E,sp vs H Q E->vs.length=ps.length)
  (hbody:∀(cdv:Value)(A:Around)(outer:List Env)(s:Shared)(H:Hp)(vs:List V)(Q:VK)(E:XK),k9 k (A.deeper (envOfC qual (ao st) s.heap.objs.size f cdv))->sp vs H Q E ->
   ∃t,Os (Dz CX0 P w K mg base N qual (ao st) f cdv A outer s H E).nox (eR st) t/\t {nx:=λ_ H'=>Q .non H',rt:=Q} (oY N vs) H):FnOk P w K mg base CX0 (k+1) f fd ps sp:=by
 obtain⟨oc,od,kV,doc,pm,an,cdv,ct,osl,rfl,lk,hcd⟩:=F.ex;refine JN lk hcd S len λA outer s H vs Q E hr hsp=>?_;obtain⟨t,h,q⟩:=hbody cdv A outer s H vs Q E hr hsp;exact⟨t,h.nox,q⟩
theorem O6.binds{x qual:Str}{st:Stmt}{f:Addr}{fd:FuncData}{ps:List Str}(F:O6 K x qual st f fd)
  (h:∀(kV doc pm:Value)(an:Option Addr)(cdv ct:Value)(us:List Value),us.length=ps.length->bindArgs (PySem.W.fnOf x qual (i6 st) (eR st) (ao st) .none kV doc pm an cdv ct) ⟨us,[]⟩=pure (ps.zip us)):oX K fd ps []:=by
 obtain⟨oc,od,kV,doc,pm,an,cdv,ct,osl,rfl,lk,hcd⟩:=F.ex;exact .all (h kV doc pm an cdv ct)
theorem sG{x qual:Str}{st:Stmt}{f:Addr}{oc:Value}{od an:Option Addr}{osl:Array (Option Value)}{kV doc pm cdv ct:Value}(l:K.lookup f=some ⟨oc,od,.func (PySem.W.fnOf x qual (i6 st) (eR st) (ao st) .none kV doc pm an cdv ct),osl⟩)
  (c:PySem.W.codeIn K cdv qual=true) (k:PySem.W.keepIn K (.ref f)=true):O6 K x qual st f (PySem.W.fnOf x qual (i6 st) (eR st) (ao st) .none kV doc pm an cdv ct):=⟨⟨oc,od,kV,doc,pm,an,cdv,ct,osl,rfl,l,c⟩,k⟩
end
section
variable{X:Cx}
theorem pv(i:Nat){x:Str}{pos:Pos}(hN:X.N[i]?=some x:=by rfl)(hv:On X.env.scope x:=by first | exact Or.inl rfl | exact Or.inr (Or.inl rfl) | exact Or.inr (Or.inr rfl)) (hd:(x == ("__debug__" : Str))=false:=by decide)
  (hcd:(x == ("__classdict__" : Str))=false:=by decide):PE X (.Name x pos) (GD i):=cR hN hv hd hcd
end
def Nh(H H':Hp):Prop:=∀b o,H b=some o->H' b=some o
theorem Nh.free{H H':Hp}(e:Nh H H'){l:Addr}(h:H' l=Option.none):H l=Option.none:=by
 cases q:H l with
 |none=>rfl
 | some o =>
  rw[e l o q]at h;cases h
end L2
set_option maxHeartbeats 0
namespace L2
open PySem PySem.Spec
open Sem (wp)
theorem jY:Slot "function" "__getattribute__" "object.__getattribute__" :=
 .of (owner:="object") (n:="__getattribute__") (by rw[typeLookup_type,builtinLookup_eq_fast]; kernel_rfl) y_ y_ y_
  (by first|exact .inl y_|exact .inr y_) (by rw[isSubtype_type];kernel_rfl)
theorem wV:entryFor table "object.__getattribute__"=some Builtin.«object.__getattribute__»:=by
 first | exact F.entry_object_getattribute | exact entryFor_alias (id':="object.__getattribute__") z_ (by first | rfl | decide +kernel) y_ z_ | kernel_rfl
theorem zL(a b:Value):argsOk "object.__getattribute__" ⟨[a,b],[]⟩:=by
 first|exact F.args_object_getattribute_2 a b|(unfold argsOk;kernel_rfl)
theorem wW:typeLookup (.type "function") "__class__"=pure (some (.builtin "object.__class__")):=by rw[typeLookup_type,builtinLookup_eq_fast]; kernel_rfl
theorem l9:isSubtype (.type "function") (.type (".".intercalate ("object.__class__".cutAt '.').dropLast))=pure true:=by rw[F.owner_object_class,isSubtype_type];kernel_rfl
section
variable{prog:Program}{w:World}{A:Around}{E:Value->Shared->Prop}{h:Heap}{g:Array GenState}{d:Drawn}{t:Nat}{os:OsState}{a:Addr}{o:Obj}
theorem vh{R:Result->Shared->Prop}(hx:h.get? a=some o) (hc:o.cls=.type "function") (hq:R (.ok (.ret (.type "function"))) ⟨h,g,d,t,os⟩) :
  codeAny (model prog w) A (.call (.builtin "getset_descriptor.__get__") ⟨[.builtin "object.__class__",.ref a,.type "function"],[]⟩) R ⟨h,g,d,t,os⟩:=by
 have hT:(⟨h,g,d,t,os⟩:Shared).TypeIs (.ref a) "function":=⟨_,hx,hc⟩;have hT5:(⟨h,g,d,t,os⟩:Shared).TypeIs (.builtin "object.__class__") "getset_descriptor":=F.typeOf_object_class;have f8:=l9;refine codeAny_call_builtin F.slot_gs_get.plain F.entry_gs_get (F.slot_gs_get.check _ _ _ _ _ _ _ _ hT5 (F.args_gs_get _ _ _) ?_)
 repeat (any_goals (first|assumption|wp_step))
 refine⟨Code.quiet_builtin _ y_,codeAny_builtin F.entry_object_class ?_⟩
 repeat (any_goals (first|assumption|wp_step))
theorem rK{tk:Tok}{Q:PySem.Fin->Shared->Prop}(hx:h.get? a=some o) (hc:o.cls=.type "function") (hq:Q (.done (.ret (.type "function"))) ⟨h,g,d,t,os⟩) :
  wpAny (model prog w) A (Builtin.«object.__getattribute__» ⟨[.ref a,.str "__class__" tk],[]⟩) Q E ⟨h,g,d,t,os⟩:=by
 have hT:(⟨h,g,d,t,os⟩:Shared).TypeIs (.ref a) "function":=⟨_,hx,hc⟩;have hT5:(⟨h,g,d,t,os⟩:Shared).TypeIs (.builtin "object.__class__") "getset_descriptor":=F.typeOf_object_class;have f4:=wW;have f5:=F.typeOf_object_class;have f6:=F.slot_gs_get.lookup;have f7:=F.slot_gs_set.lookup
 repeat (any_goals (first|assumption|wp_step))
 refine vh hx hc ?_
 repeat (any_goals (first|assumption|wp_step))
theorem tM{tk:Tok}{R:Result->Shared->Prop}(hx:h.get? a=some o) (hc:o.cls=.type "function") (hq:R (.ok (.ret (.type "function"))) ⟨h,g,d,t,os⟩) :
  codeAny (model prog w) A (.call (.builtin "object.__getattribute__") ⟨[.ref a,.str "__class__" tk],[]⟩) R ⟨h,g,d,t,os⟩ :=
 codeAny_call_builtin jY.plain wV (jY.check _ _ _ _ _ _ _ _ (show(⟨h,g,d,t,os⟩:Shared).TypeIs (.ref a) "function" from⟨_,hx,hc⟩) (zL _ _) (rK hx hc hq))
theorem wX{tk:Tok}{Q:Value->Shared->Prop}(hx:h.get? a=some o) (hc:o.cls=.type "function") (hq:Q (.type "function") ⟨h,g,d,t,os⟩):wpAny (model prog w) A (getAttrBy (.ref a) (.str "__class__" tk) false) Q E ⟨h,g,d,t,os⟩:=by
 have hT:(⟨h,g,d,t,os⟩:Shared).TypeIs (.ref a) "function":=⟨_,hx,hc⟩;have f2:=jY.lookup;have f3:=jY.bind (.ref a)
 repeat (any_goals (first|assumption|wp_step))
 refine tM hx hc ?_
 repeat (any_goals (first|assumption|wp_step))
theorem tN{Q:Option Value->Shared->Prop}(hx:h.get? a=some o) (hc:o.cls=.type "function") (hq:Q (some (.type "function")) ⟨h,g,d,t+1,os⟩):wpAny (model prog w) A (getAttr? (.ref a) "__class__") Q E ⟨h,g,d,t,os⟩:=by
 unfold getAttr? getAttrBy?
 repeat (any_goals (first|assumption|with_reducible apply wX hx hc|wp_step))
end
theorem Bd{K:PySem.W.Frag}{a:Addr}:PySem.W.KitX K (.ref a) (.type "function") (PySem.W.KitAt a "function"):=PySem.W.kitx_of PySem.W.kitAt_ty (λ{_ _ _ _ _ s} p k=>by obtain⟨h,g,d,t,os⟩:=s; obtain⟨o,h1,h2⟩:=p; exact tN h1 h2 k)
end L2
namespace L2
open PySem PySem.Spec PyProof.Rows
inductive D where
 |non|bl (b:Bool)|int (i:Int)|str (x:Str)|tup (xs:List D)|lst (xs:List D)|dct (n:Nat)|exc (c:Str) (ns:List Str) (xs:List D)|fn (x:Str) (d:D)|dk (ks:List Of) (vs:List D)|gf (x:Str)
def O7(K:PySem.W.Frag)(H:Hp)(a:Addr)(xs:List V):Prop :=
 (∃o,H a=some (.frz o (.lst xs))) ∨
  ∃(o:Obj)(its:Array Value)(n:Nat),K.lookup a=some o/\o.cls=.type "list"/\o.dict=none/\o.data=.seq its n/\its.size<=sizeLine/\bZ xs its.toList
theorem O7.l{K:PySem.W.Frag}{H:Hp}{a:Addr}{xs:List V}(h:O7 K H a xs):Ow K H a xs:=by
 rcases h with⟨o,h⟩|h
 . exact .inl (.inr ⟨o,h⟩)
 . exact .inr h
def DE:HO->Prop
 |.frz _ u=>DE u
 |.ins _ _ _=>False
 |_=>True
noncomputable def AF(C L:Addr):List Value:=(if C=L then[]else[.ref C])++[.ref L,.type "ValueError",.type "Exception",.type "BaseException",.type "object"]
noncomputable def km(K:PySem.W.Frag)(c:Str)(C:Addr):Bool:=match PySem.W.clsIn K C,PySem.W.nsIn K mainGlobals "LoadError" with
 | some cd,some (some (.ref L))=>cd.name == c && cd.hasDict && cd.mro == AF C L && (PySem.W.clsIn K L).any (λk=>k.name == ("LoadError" : Str)) &&
  PySem.W.findIn K (.ref C) "__getattribute__" == some (some (.builtin "BaseException.__getattribute__")) && PySem.W.findIn K (.ref C) "__getattr__" == some none && PySem.W.findIn K (.ref C) "__class__" == some (some (.builtin "object.__class__")) &&
  PySem.W.findIn K (.ref C) "__setattr__" == some (some (.builtin "object.__setattr__")) && PySem.W.typeIn K (.ref C) == some (.type "type") && PySem.W.nsIn K mainGlobals c == some (some (.ref C))
 |_,_=>false
noncomputable def JW:List Stmt->Option (Arguments×Expr×Scope×Pos)
 |[]=>none
 | st::r=>match JW r with
  |some l=>some l
  | none=>match st with
   | .Expr (.Call _ args _ _) _=>(match args.getLast? with
    |some (.Lambda p b sc pos)=>some (p,b,sc,pos)
    |_=>none)
   | .Return (some (.Call _ _ kws _)) _=>(match kws.getLast? with
    |some ⟨_,.Lambda p b sc pos,_⟩=>some (p,b,sc,pos)
    |_=>none)
   |_=>none
noncomputable def Mn(K:PySem.W.Frag)(x:Str):Option (Arguments×Expr×Scope×Pos):=match PySem.W.nsIn K mainGlobals x with
 | some (some (.ref f))=>(match K.lookup f with
  | some ⟨_,_,.func fd,_⟩=>(match fd.body with
   |.stmts b=>JW b
   |_=>none)
  |_=>none)
 |_=>none
def XF(H:Hp)(dx:Option Addr)(ns:List Str)(vs:List V):Prop:=(ns=[]/\vs=[]/\dx=none)∨∃d od,dx=some d/\H d=some (.frz od (.xd (ns.zip vs)))/\ns.length=vs.length
mutual
inductive O8 (K:PySem.W.Frag) (H:Hp):V->D->Prop where
 |non:O8 K H .non .non
 |bl (b:Bool):O8 K H (.bl b) (.bl b)
 |int (i:Int):O8 K H (.int i) (.int i)
 |str (x:Str):O8 K H (.str x) (.str x)
 |tup {a:Addr} {vs:List V} {ds:List D} (h:Ox K H a vs) (r:bM K H vs ds):O8 K H (.ref a) (.tup ds)
 |lst {a:Addr} {vs:List V} {ds:List D} (h:O7 K H a vs) (r:bM K H vs ds):O8 K H (.ref a) (.lst ds)
 |dct {a:Addr} {o:Obj} {kvs:List (Of×V)} (h:H a=some (.frz o (.dK kvs))):O8 K H (.ref a) (.dct kvs.length)
 |exc {a:Addr} {o:Obj} {u:HO} {c:Str} {C:Addr} {ns:List Str} {vs:List V} {ds:List D} (h:H a=some (.frz o u)) (hv:DE u) (hc:o.cls=.ref C) (hn:PySem.W.notCls o=true) (hs:km K c C=true) (hq:∀f∈ns,PySem.W.findIn K (.ref C) f=some none) (hf:XF H o.dict ns vs) (r:bM K H vs ds):O8 K H (.ref a) (.exc c ns ds)
 | fn {f c c':Addr} {oc oq:Obj} {x y:Str} {pr:Arguments} {bd:Expr} {sc:Scope} {pos:Pos} {pm ctv u:Value} {v:V} {d:D} (hl:Mn K x=some (pr,bd,sc,pos)) (hf:H f=some (.frz (PySem.W.kla_obj "<lambda>" (Jw x) pr bd sc [(y,c)] pm c' ctv) (.own f)))
  (hq:H c'=some (.frz oq (.own c'))) (hc:u4 oq (Jw x)) (hz:H c=some (.frz oc (.own c))) (hd:oc.data=.cell (some u)) (hv:bU v u) (hm:(y,NameKind.free)∈sc.names) (r:O8 K H v d):O8 K H (.ref f) (.fn x d)
 |dk {a:Addr} {o:Obj} {kvs:List (Of×V)} {ds:List D} (h:H a=some (.frz o (.dK kvs))) (r:bM K H (kvs.map (·.2)) ds):O8 K H (.ref a) (.dk (kvs.map (·.1)) ds)
 |gf {a:Addr} {x:Str} {fd:FuncData} (h:PySem.W.nsIn K mainGlobals x=some (some (.ref a))) (ho:K.lookup a=some ⟨.type "function",none,.func fd,#[]⟩) (hk:PySem.W.keepIn K (.ref a)=true):O8 K H (.ref a) (.gf x)
inductive bM (K:PySem.W.Frag) (H:Hp):List V->List D->Prop where
 |nil:bM K H [] []
 |cons {v:V} {d:D} {vs:List V} {ds:List D} (h:O8 K H v d) (t:bM K H vs ds):bM K H (v::vs) (d::ds)
end
def LC:HO->Prop
 |.tup _=>True
 |.frz _ _=>True
 |.tbl _=>True
 |_=>False
def sH(H H':Hp):Prop:=∀b o,LC o->H b=some o->H' b=some o
theorem Ox.pres{K:PySem.W.Frag}{H H':Hp}{a:Addr}{xs:List V}(p:sH H H')(h:Ox K H a xs):Ox K H' a xs:=by
 rcases h with(h|⟨o,h⟩)|h
 . exact .inl (.inl (p _ _ True.intro h))
 . exact .inl (.inr ⟨o,p _ _ True.intro h⟩)
 . exact .inr h
theorem O7.pres{K:PySem.W.Frag}{H H':Hp}{a:Addr}{xs:List V}(p:sH H H')(h:O7 K H a xs):O7 K H' a xs:=by
 rcases h with⟨o,h⟩|h
 . exact .inl ⟨o,p _ _ True.intro h⟩
 . exact .inr h
theorem XF.pres{H H':Hp}(p:sH H H'){dx:Option Addr}{ns:List Str}{vs:List V}(h:XF H dx ns vs):XF H' dx ns vs:=by
 rcases h with h|⟨d,od,e,h,l⟩
 . exact .inl h
 . exact .inr ⟨d,od,e,p _ _ True.intro h,l⟩
mutual
theorem O8.pres{K:PySem.W.Frag}{H H':Hp}(p:sH H H'):∀{v:V}{d:D},O8 K H v d->O8 K H' v d
 |_,_,.non=>.non
 |_,_,.bl b=>.bl b
 |_,_,.int i=>.int i
 |_,_,.str x=>.str x
 |_,_,.tup h r=>.tup (h.pres p) (bM.pres p r)
 |_,_,.lst h r=>.lst (h.pres p) (bM.pres p r)
 |_,_,.dct h=>.dct (p _ _ True.intro h)
 |_,_,.exc h hv hc hn hs hq hf r=>.exc (p _ _ True.intro h) hv hc hn hs hq (hf.pres p) (bM.pres p r)
 |_,_,.fn hl hf hq hc hz hd hv hm r=>.fn hl (p _ _ True.intro hf) (p _ _ True.intro hq) hc (p _ _ True.intro hz) hd hv hm (O8.pres p r)
 |_,_,.dk h r=>.dk (p _ _ True.intro h) (bM.pres p r)
 |_,_,.gf h ho hk=>.gf h ho hk
theorem bM.pres{K:PySem.W.Frag}{H H':Hp}(p:sH H H'):∀{vs:List V}{ds:List D},bM K H vs ds->bM K H' vs ds
 |_,_,.nil=>.nil
 |_,_,.cons h t=>.cons (O8.pres p h) (bM.pres p t)
end
theorem bM.length{K:PySem.W.Frag}{H:Hp}:∀{vs:List V}{ds:List D},bM K H vs ds->vs.length=ds.length
 |_,_,.nil=>rfl
 |_,_,.cons _ t=>by simp[bM.length t]
theorem bM.get{K:PySem.W.Frag}{H:Hp}:∀{vs:List V}{ds:List D}{i:Nat}{d:D},bM K H vs ds->ds[i]?=some d->∃v,vs[i]?=some v/\O8 K H v d
 |_,_,_,_,.nil,e=>by simp at e
 |_,_,0,_,.cons h _,e=>by simp at e;subst e;exact⟨_,rfl,h⟩
 | _,_,i+1,d,.cons _ t,e=>by obtain⟨v,h1,h2⟩:=bM.get (i:=i) (d:=d) t (by simpa using e);exact⟨v,by simpa using h1,h2⟩
theorem bM.set{K:PySem.W.Frag}{H:Hp}{v:V}{d:D}(r:O8 K H v d):∀{vs:List V}{ds:List D}(i:Nat),bM K H vs ds->bM K H (vs.set i v) (ds.set i d)
 |_,_,_,.nil=>.nil
 |_,_,0,.cons _ t=>.cons r t
 |_,_,i+1,.cons h t=>.cons h (bM.set r i t)
theorem bM.append{K:PySem.W.Frag}{H:Hp}:∀{vs us:List V}{ds es:List D},bM K H vs ds->bM K H us es->bM K H (vs++us) (ds++es)
 |_,_,_,_,.nil,s=>s
 |_,_,_,_,.cons h t,s=>.cons h (bM.append t s)
theorem bM.take{K:PySem.W.Frag}{H:Hp}:∀{vs:List V}{ds:List D}(n:Nat),bM K H vs ds->bM K H (vs.take n) (ds.take n)
 |_,_,0,_=>.nil
 |_,_,_+1,.nil=>.nil
 |_,_,n+1,.cons h t=>.cons h (bM.take n t)
theorem bM.drop{K:PySem.W.Frag}{H:Hp}:∀{vs:List V}{ds:List D}(n:Nat),bM K H vs ds->bM K H (vs.drop n) (ds.drop n)
 |_,_,0,r=>r
 |_,_,_+1,.nil=>.nil
 |_,_,n+1,.cons _ t=>bM.drop n t
inductive L where
 |un|d (x:D)|own (a:Addr) (xs:List D)|bx (k:Option Addr) (ls:List L)|dic (a:Addr) (kvs:List (Of×D))
noncomputable abbrev Ev:=List L
mutual
noncomputable def bR:L->List Addr
 |.un=>[]
 |.d _=>[]
 |.own a _=>[a]
 |.bx k ls=>k.toList++iK ls
 |.dic a _=>[a]
noncomputable def iK:List L->List Addr
 |[]=>[]
 |l::ls=>bR l++iK ls
end
noncomputable def owns(Z:Ev):List Addr:=Z.flatMap bR
theorem eS:∀ls:List L,iK ls=owns ls
 |[]=>rfl
 |l::ls=>by rw[iK,eS ls];rfl
mutual
def bI(K:PySem.W.Frag)(H:Hp)(s:Option V):L->Prop
 |.un=>True
 |.d x=>∃v,s=some v/\O8 K H v x
 |.own a xs=>s=some (.ref a)/\∃vs,H a=some (.lst vs)/\bM K H vs xs
 |.bx none ls=>∃a vs,s=some (.ref a)/\Ox K H a vs/\eH K H vs ls
 |.bx (some a) ls=>s=some (.ref a)/\∃vs,H a=some (.lst vs)/\eH K H vs ls
 |.dic a kvs=>s=some (.ref a)/\∃vs,H a=some (.dK vs)/\Paired (λ(p:Of×V) (q:Of×D)=>p.1=q.1/\O8 K H p.2 q.2) vs kvs
def eH(K:PySem.W.Frag)(H:Hp)(vs:List V):List L->Prop
 |[]=>vs=[]
 |l::ls=>∃v us,vs=v::us/\bI K H (some v) l/\eH K H us ls
end
mutual
theorem bI.pres{K:PySem.W.Frag}{H H':Hp}(p:sH H H'):∀{s:Option V}(l:L),(∀a∈bR l,H' a=H a)->bI K H s l->bI K H' s l
 |_,.un,_,_=>by simp only[bI]
 | _,.d x,_,h=>by
  simp only[bI]at h ⊢
  obtain⟨v,e,r⟩:=h
  exact⟨v,e,r.pres p⟩
 | _,.own a xs,q,h=>by
  simp only[bI]at h ⊢
  obtain⟨e,vs,ha,r⟩:=h
  exact⟨e,vs,(q a (by simp[bR])).trans ha,r.pres p⟩
 | _,.bx none ls,q,h=>by
  simp only[bI]at h ⊢
  obtain⟨a,vs,e,ha,r⟩:=h
  exact⟨a,vs,e,ha.pres p,eH.pres p ls (λb hb=>q b (by simp[bR,hb])) r⟩
 | _,.bx (some a) ls,q,h=>by
  simp only[bI]at h ⊢
  obtain⟨e,vs,ha,r⟩:=h
  exact⟨e,vs,(q a (by simp[bR])).trans ha,eH.pres p ls (λb hb=>q b (by simp[bR,hb])) r⟩
 | _,.dic a kvs,q,h=>by
  simp only[bI]at h ⊢
  obtain⟨e,vs,ha,r⟩:=h
  exact⟨e,vs,(q a (by simp[bR])).trans ha,Paired.mapP r λ_ _ z=>⟨z.1,z.2.pres p⟩⟩
theorem eH.pres{K:PySem.W.Frag}{H H':Hp}(p:sH H H'):∀{vs:List V}(ls:List L),(∀a∈iK ls,H' a=H a)->eH K H vs ls->eH K H' vs ls
 |_,[],_,h=>by simpa only[eH]using h
 | _,l::ls,q,h=>by
  simp only[eH]at h ⊢
  obtain⟨v,us,e,h1,h2⟩:=h
  exact⟨v,us,e,bI.pres p l (λb hb=>q b (by simp[iK,hb])) h1,eH.pres p ls (λb hb=>q b (by simp[iK,hb])) h2⟩
end
def GQ:HO->Prop
 |.lst _=>True
 |.dK _=>True
 |_=>False
theorem GQ.no{o:HO}(h:GQ o)(p:LC o):False:=by cases o<;>first|exact h|exact p
mutual
theorem bI.lstAt{K:PySem.W.Frag}{H:Hp}:∀{s:Option V}(l:L),bI K H s l->∀a∈bR l,∃o,H a=some o/\GQ o
 |_,.un,_,a,ha=>by simp[bR]at ha
 |_,.d x,_,a,ha=>by simp[bR]at ha
 | _,.own b xs,h,a,ha=>by
  simp only[bI]at h
  have e:a=b:=by simpa[bR]using ha
  subst e
  obtain⟨_,vs,q,_⟩:=h
  exact⟨_,q,True.intro⟩
 | _,.bx none ls,h,a,ha=>by
  simp only[bI]at h
  obtain⟨b,vs,e,_,r⟩:=h
  exact eH.lstAt ls r a (by simpa[bR]using ha)
 | _,.bx (some b) ls,h,a,ha=>by
  simp only[bI]at h
  obtain⟨e,vs,q,r⟩:=h
  rcases(by simpa[bR]using ha:a=b∨a∈iK ls)with z|z
  .
   subst z;exact⟨_,q,True.intro⟩
  .
   exact eH.lstAt ls r a z
 | _,.dic b xs,h,a,ha=>by
  simp only[bI]at h
  have e:a=b:=by simpa[bR]using ha
  subst e
  obtain⟨_,vs,q,_⟩:=h
  exact⟨_,q,True.intro⟩
theorem eH.lstAt{K:PySem.W.Frag}{H:Hp}:∀{vs:List V}(ls:List L),eH K H vs ls->∀a∈iK ls,∃o,H a=some o/\GQ o
 |_,[],_,a,ha=>by simp[iK]at ha
 | _,l::ls,h,a,ha=>by
  simp only[eH]at h
  obtain⟨v,us,e,h1,h2⟩:=h
  rcases(by simpa[iK]using ha:a∈bR l∨a∈iK ls)with z|z
  .
   exact bI.lstAt l h1 a z
  .
   exact eH.lstAt ls h2 a z
end
structure aA (K:PySem.W.Frag) (Pr H:Hp) (σ:St) (Z:Ev):Prop where
 sub:∀b o,Pr b=some o->H b=some o
 nd:(owns Z).Nodup
 off:∀a∈owns Z,Pr a=none
 sl:Paired (bI K H) σ Z
theorem dN{Z:Ev}{a:Addr}:a∈owns Z↔∃l∈Z,a∈bR l:=by unfold owns;rw[List.mem_flatMap]
theorem GR{Z:Ev}{a:Addr}{xs:List D}(h:L.own a xs∈Z):a∈owns Z:=dN.mpr ⟨_,h,by simp[bR]⟩
theorem aK(a b:Ev):owns (a++b)=owns a++owns b:=List.flatMap_append
theorem Paired.mem2{α β:Type}{F:α->β->Prop}:∀{l1:List α}{l2:List β}{b:β},Paired F l1 l2->b∈l2->∃a,a∈l1/\F a b
 |_,_,_,.nil,h=>by simp at h
 | _,_,_,.cons r t,h=>by
  rcases SK.mp h with rfl|h
  . exact⟨_,SE,r⟩
  . obtain⟨a,h1,h2⟩:=Paired.mem2 t h;exact⟨a,SC _ h1,h2⟩
theorem Paired.app{α β:Type}{F:α->β->Prop}:∀{a c:List α}{b d:List β},Paired F a b->Paired F c d->Paired F (a++c) (b++d)
 |_,_,_,_,.nil,s=>s
 |_,_,_,_,.cons r t,s=>.cons r (Paired.app t s)
theorem Paired.unapp{α β:Type}{F:α->β->Prop}:∀{a c:List α}{b d:List β},a.length=b.length->Paired F (a++c) (b++d)->Paired F a b/\Paired F c d
 |[],_,[],_,_,s=>⟨.nil,s⟩
 | x::a,_,y::b,_,hl,.cons r t=>by obtain⟨p,q⟩:=Paired.unapp (a:=a) (b:=b) (by simpa using hl) t;exact⟨.cons r p,q⟩
 |[],_,_::_,_,hl,_=>by simp at hl
 |_::_,_,[],_,hl,_=>by simp at hl
theorem Paired.get2{α β:Type}{F:α->β->Prop}:∀{l1:List α}{l2:List β}{i:Nat}{b:β},Paired F l1 l2->l2[i]?=some b->∃a,l1[i]?=some a/\F a b
 |_,_,_,_,.nil,e=>by simp at e
 |_,_,0,_,.cons h _,e=>by simp at e;subst e;exact⟨_,rfl,h⟩
 | _,_,i+1,d,.cons _ t,e=>by obtain⟨v,h1,h2⟩:=Paired.get2 (i:=i) (b:=d) t (by simpa using e);exact⟨v,by simpa using h1,h2⟩
theorem Paired.set2{α β:Type}{F:α->β->Prop}{a:α}{b:β}(r:F a b):∀{l1:List α}{l2:List β}(i:Nat),Paired F l1 l2->Paired F (l1.set i a) (l2.set i b)
 |_,_,_,.nil=>.nil
 |_,_,0,.cons _ t=>.cons r t
 |_,_,i+1,.cons h t=>.cons h (Paired.set2 r i t)
theorem Paired.impMem{α β:Type}{F G:α->β->Prop}:∀{l1:List α}{l2:List β},Paired F l1 l2->(∀b∈l2,∀a,F a b->G a b)->Paired G l1 l2
 |_,_,.nil,_=>.nil
 |_,_,.cons r t,h=>.cons (h _ SE _ r) (Paired.impMem t λb hb=>h b (SC _ hb))
theorem Paired.set_r{α β:Type}{F:α->β->Prop}{b:β}:∀{l1:List α}{l2:List β}(i:Nat),Paired F l1 l2->(∀a,l1[i]?=some a->F a b)->Paired F l1 (l2.set i b)
 |_,_,_,.nil,_=>.nil
 |_,_,0,.cons _ t,h=>.cons (h _ rfl) t
 |_,_,i+1,.cons q t,h=>.cons q (Paired.set_r i t λa e=>h a (by simpa using e))
section
variable{K:PySem.W.Frag}{Pr H H':Hp}{σ τ w σ':St}{Z μ lam Z':Ev}
theorem aA.len(E:aA K Pr H σ Z):σ.length=Z.length:=Paired.length E.sl
noncomputable def bF(H:Hp)(Z:Ev):Hp:=λb=>if b∈owns Z then none else H b
theorem aA.at_own(E:aA K Pr H σ Z){a:Addr}(h:a∈owns Z):∃o,H a=some o/\GQ o:=by obtain⟨l,hx,ha⟩:=dN.mp h;obtain⟨s,_,q⟩:=Paired.mem2 E.sl hx;exact q.lstAt l a ha
theorem aA.wide(E:aA K Pr H σ Z):aA K (bF H Z) H σ Z :=
 ⟨λb o e=>by unfold bF at e;split at e;cases e;exact e,E.nd,λa h=>by unfold bF;rw[if_pos h],E.sl⟩
theorem aA.drop(E:aA K Pr H (τ++σ) (lam++Z))(hl:τ.length=lam.length):aA K Pr H σ Z :=
 ⟨E.sub,(List.nodup_append.mp (aK lam Z ▸ E.nd)).2.1,λa h=>E.off a (by rw[aK];exact List.mem_append_right _ h),(Paired.unapp hl E.sl).2⟩
theorem aA.left(E:aA K Pr H (τ++σ) (lam++Z))(hl:τ.length=lam.length):aA K Pr H τ lam :=
 ⟨E.sub,(List.nodup_append.mp (aK lam Z ▸ E.nd)).1,λa h=>E.off a (by rw[aK];exact List.mem_append_left _ h),(Paired.unapp hl E.sl).1⟩
theorem tO{H H':Hp}{Z:Ev}{σ:St}{Pr:Hp}(E:aA K Pr H σ Z)(h:∀b o,bF H Z b=some o->H' b=some o):sH H H':=λb o p e=>by refine h b o ?_;unfold bF;rw[if_neg,e];intro hm;obtain⟨u,e',m⟩:=E.at_own hm;rw[e]at e';cases e';exact m.no p
theorem aA.step(E:aA K Pr H (τ++σ) (lam++Z))(hl:τ.length=lam.length)(E':aA K (bF H Z) H' (w++σ') (μ++Z'))(hw:w.length=μ.length):aA K Pr H' (w++(τ++σ')) (μ++(lam++Z')):=by
 have Eσ:=E.drop hl;have p:sH H H':=tO Eσ E'.sub;have dis:∀a∈owns lam,a∉owns Z:=λa h1 h2=>(List.nodup_append.mp (aK lam Z ▸ E.nd)).2.2 a h1 a h2 rfl;have at':∀a∈owns lam,bF H Z a=H a:=λa h=>by unfold bF;rw[if_neg (dis a h)]
 have some':∀a∈owns lam,∃o,H a=some o/\GQ o:=λa h=>E.at_own (by rw[aK];exact List.mem_append_left _ h);have out:∀a∈owns lam,a∉owns (μ++Z'):=λa h h2=>by have z:=E'.off a h2;rw[at' a h]at z;obtain⟨vs,e,_⟩:=some' a h;rw[e]at z;cases z
 have s1:=(Paired.unapp hw E'.sl);have s2:=(Paired.unapp hl E.sl).1;refine⟨λb o e=>?_,?_,λa ha=>?_,Paired.app s1.1 (Paired.app ?_ s1.2)⟩
 . refine E'.sub b o ?_;unfold bF;rw[if_neg,E.sub b o e];intro hm;have z:=Eσ.off b hm;rw[e]at z;cases z
 .
  have n1:=E'.nd;rw[aK]at n1;rw[aK,aK];obtain⟨q1,q2,q3⟩:=List.nodup_append.mp n1;refine List.nodup_append.mpr ⟨q1,List.nodup_append.mpr ⟨(List.nodup_append.mp (aK lam Z ▸ E.nd)).1,q2,λa ha b hb=>?_⟩,λa ha b hb=>?_⟩
  . rintro rfl;exact out a ha (by rw[aK];exact List.mem_append_right _ hb)
  .
   rcases List.mem_append.mp hb with hb|hb
   . rintro rfl;exact out a hb (by rw[aK];exact List.mem_append_left _ ha)
   . exact q3 a ha b hb
 .
  rw[aK,aK]at ha
  have key:a∈owns (μ++Z')->Pr a=none:=λh=>by
   have z:=E'.off a h;unfold bF at z;by_cases hm:a∈owns Z
   . exact Eσ.off a hm
   .
    rw[if_neg hm]at z
    cases q:Pr a with
    |none=>rfl
    |some o=>rw[E.sub a o q]at z;cases z
  rcases List.mem_append.mp ha with h|h
  . exact key (by rw[aK];exact List.mem_append_left _ h)
  .
   rcases List.mem_append.mp h with h|h
   . exact E.off a (by rw[aK];exact List.mem_append_left _ h)
   . exact key (by rw[aK];exact List.mem_append_right _ h)
 .
  have:∀l∈lam,∀s,bI K H s l->bI K H' s l:=λl hlm s h=>h.pres p l λa e=>by have ha:a∈owns lam:=dN.mpr ⟨l,hlm,e⟩;obtain⟨vs,e,_⟩:=some' a ha;rw[E'.sub a _ ((at' a ha).trans e),e]
  exact Paired.impMem s2 this
end
end L2
namespace L2
open PySem PySem.Spec PyProof.Rows PySem.W
structure rF (K:Frag) (c:Str) (C L:Addr) (cd:ClassData):Prop where
 cls:clsIn K C=some cd
 load:nsIn K mainGlobals "LoadError"=some (some (.ref L))
 name:cd.name=c
 dct:cd.hasDict=true
 mro:cd.mro=AF C L
 lname:∃ k,clsIn K L=some k/\k.name=("LoadError" : Str)
 ga:findIn K (.ref C) "__getattribute__"=some (some (.builtin "BaseException.__getattribute__"))
 gx:findIn K (.ref C) "__getattr__"=some none
 gc:findIn K (.ref C) "__class__"=some (some (.builtin "object.__class__"))
 sa:findIn K (.ref C) "__setattr__"=some (some (.builtin "object.__setattr__"))
 ty:typeIn K (.ref C)=some (.type "type")
 own:nsIn K mainGlobals c=some (some (.ref C))
theorem i7{K:Frag}{c:Str}{C:Addr}(h:km K c C=true):∃L cd,rF K c C L cd:=by
 unfold km at h;split at h
 . rename_i cd L e1 e2;simp only[Bool.and_eq_true,beq_iff_eq]at h;obtain⟨⟨⟨⟨⟨⟨⟨⟨⟨h1,h2⟩,h3⟩,h4⟩,h5⟩,h6⟩,h7⟩,h8⟩,h9⟩,h10⟩:=h;obtain⟨k,hk,hn⟩:=any_some h4;exact⟨L,cd,e1,e2,h1,h2,h3,⟨k,hk,beq_iff_eq.mp hn⟩,h5,h6,h7,h8,h9,h10⟩
 . cases h
section
variable{K:Frag}{c:Str}{C L:Addr}{cd:ClassData}
theorem wY(C L:Addr):AF C L=[.ref C,.ref L,.type "ValueError",.type "Exception",.type "BaseException",.type "object"]∨AF C L=[.ref L,.type "ValueError",.type "Exception",.type "BaseException",.type "object"]/\C=L:=by
 by_cases h:C=L
 . exact .inr ⟨by unfold AF;rw[if_pos h];rfl,h⟩
 . exact .inl (by unfold AF;rw[if_neg h];rfl)
theorem DF(C L:Addr)(b:Value):(AF C L).contains b=([.ref C,.ref L,.type "ValueError",.type "Exception",.type "BaseException",.type "object"]:List Value).contains b:=by
 rcases wY C L with e|⟨e,h⟩
 . rw[e]
 . subst h;rw[e];simp only[List.contains_cons,<- Bool.or_assoc,Bool.or_self]
theorem rF.mroIn(S:rF K c C L cd)(b:Value):PySem.W.mroIn K C b=some (([.ref C,.ref L,.type "ValueError",.type "Exception",.type "BaseException",.type "object"]:List Value).contains b):=by
 unfold PySem.W.mroIn;rw[S.cls,Option.bind_some,S.mro];have ne:(AF C L).isEmpty=false:=by rcases wY C L with e|⟨e,_⟩<;>rw[e]<;>rfl
 show(if(AF C L).isEmpty=true then none else some ((AF C L).contains b))=_
 rw[ne,DF];rfl
theorem pQ(C L:Addr)(T:String):(([.ref C,.ref L,.type "ValueError",.type "Exception",.type "BaseException",.type "object"]:List Value).contains (.type T))=(["ValueError","Exception","BaseException","object"]:List String).contains T:=by
 simp only[List.contains_cons,List.contains_nil,Bool.or_false];have e:∀a:Addr,(Value.type T == Value.ref a)=false:=λ_=>rfl
 have f:∀U:String,(Value.type T == Value.type U)=(T == U):=λU=>by
  by_cases q:T=U
  . subst q;simp
  . rw[beq_eq_false_iff_ne.mpr q,beq_eq_false_iff_ne];intro z;injection z with z;exact q z
 rw[e,e,f,f,f,f];rfl
theorem DG(C L D:Addr):(([.ref C,.ref L,.type "ValueError",.type "Exception",.type "BaseException",.type "object"]:List Value).contains (.ref D))=(D == C ||D == L):=by
 simp only[List.contains_cons,List.contains_nil,Bool.or_false];have e:∀T:String,(Value.ref D == Value.type T)=false:=λ_=>rfl
 have f:∀a:Addr,(Value.ref D == Value.ref a)=(D == a):=λU=>by
  by_cases q:D=U
  . subst q;simp
  . rw[beq_eq_false_iff_ne.mpr q,beq_eq_false_iff_ne];intro z;injection z with z;exact q z
 rw[e,e,e,e,f,f,Bool.or_false,Bool.or_false,Bool.or_false,Bool.or_false]
theorem rF.has(S:rF K c C L cd){T:String} (h:(["ValueError","Exception","BaseException","object"]:List String).contains T=true):PySem.W.mroIn K C (.type T)=some true:=by rw[S.mroIn,pQ,h]
theorem rF.isT(S:rF K c C L cd){M:Model}{h:Heap}(X:K.In h)(T:String):Looks M h (isSubtype (.ref C) (.type T)) ((["ValueError","Exception","BaseException","object"]:List String).contains T):=looks_mroIn X (by rw[S.mroIn,pQ])
end
section
variable{prog:Program}{w:World}{A:Around}{E:Value->Shared->Prop}{s:Shared}{K:Frag}{c:Str}{x C L:Addr}{cd:ClassData}{ox:Obj}{od:Option Obj}{name:Str}
theorem vi{tk:Tok}{Q:Fin->Shared->Prop}(S:rF K c C L cd)(X:K.In s.heap)(I:InstAt s.heap x ox C od) (hf:findObj K C od "__class__"=some (.bind (.builtin "getset_descriptor.__get__") (.builtin "object.__class__"))) (hq:Q (.done (.ret (.ref C))) s) :
  wpAny (model prog w) A (Builtin.«object.__getattribute__» ⟨[.ref x,.str "__class__" tk],[]⟩) Q E s:=by
 obtain⟨hh,g,d,t,os⟩:=s;have L0:=I.type (M:=model prog w);have L1:=looks_find (M:=model prog w) X I hf;unfold Builtin.«object.__getattribute__»;refine kS (SG (kS (SG ?_)));refine kS (L0.at (kS (L1.at ?_)));show wpAny _ _ (holding [Value.builtin "object.__class__"] (call (.builtin "getset_descriptor.__get__") [.builtin "object.__class__",.ref x,.ref C]) >>= ret) _ _ _;refine kS (wpAny_holding (wpAny_call ?_));exact class_get (s:=⟨hh,g,d,t,os⟩) (ox:=ox) (od:=od) X I (S.has x_) (SG hq)
theorem GT{tk:Tok}{v:Value}{fill expr:Bool}{Q:Value->Shared->Prop}(S:rF K c C L cd)(X:K.In s.heap)(I:InstAt s.heap x ox C od)
  (he:∀(A':Around)(Q':Fin->Shared->Prop),Q' (.done (.ret v)) s->wpAny (model prog w) A' (Builtin.«object.__getattribute__» ⟨[.ref x,.str name tk],[]⟩) Q' (λ_ _=>False) s) (hh:handedIn v=true) (hq:Q v s) :
  wpAny (model prog w) A (getAttrBy (.ref x) (.str name tk) fill expr) Q E s:=by
 have FB:=F.excAttr_ValueError;have L0:=I.type (M:=model prog w);have L1:=looks_findIn (M:=model prog w) X S.ga;have L2:=looks_findIn (M:=model prog w) X S.gx;unfold getAttrBy;refine wpAny_holding (kS (L0.here (kS (L1.here ?_))));have hx2:(Value.builtin "BaseException.__getattribute__" == Value.builtin "object.__getattribute__")=false:=by decide +kernel
 dsimp only;rw[hx2,Bool.and_false,if_neg (by decide)];unfold getAttrByItsOwn;refine kS ((looks_hook (mc:=.ref C) X (r:=none) S.gx).here ?_);refine kS (wpAny_attempt (wpAny_holding ?_));have hx0:(expr && onTheHeap (Value.builtin "BaseException.__getattribute__"))=false:=by cases expr <;> rfl
 unfold callGetattribute boundAndCalled;rw[hx0,if_neg (by decide),FB.ga.bind];refine kS (SG (wpAny_call ?_));have hi:Looks (model prog w) s.heap (isInstance (.ref x) (.type "BaseException")) true:=L0.andThen (S.isT X _);have hkd:builtinKind "BaseException.__getattribute__"=some .slot:=by decide +kernel
 have hsp:splitId "BaseException.__getattribute__"=some ("BaseException","__getattribute__"):=by decide +kernel
 refine codeAny_call_builtin FB.ga.plain F.entry_bexc_ga (@check_slot (model prog w) _ _ s "BaseException.__getattribute__" "BaseException" "__getattribute__" (.ref x) [.str name tk] [] _ hkd hsp hi (F.args_bexc_ga (.ref x) (.str name tk)) ?_);refine wpAny_mono (he _ _ ?_) (λ_ _ z=>z) λ_ _ z=>z.elim;show wpAny _ _ (handedOut v) _ _ _;rw[handedOut_of hh];exact SG hq
end
theorem GU(K:Frag):specialIn K (.builtin "object.__class__") "__get__"=some (some (.builtin "getset_descriptor.__get__")):=(by decide +kernel:specialIn [] (.builtin "object.__class__") "__get__"=some (some (.builtin "getset_descriptor.__get__")))
theorem Be(K:Frag):takesIn K (.builtin "object.__class__")=some true:=(by decide +kernel:takesIn [] (.builtin "object.__class__")=some true)
section
variable{prog:Program}{w:World}{A:Around}{E:Value->Shared->Prop}{s:Shared}{K:Frag}{c:Str}{x C L:Addr}{cd:ClassData}{ox:Obj}{od:Option Obj}
theorem rF.fclass(S:rF K c C L cd)(od:Option Obj):findObj K C od "__class__"=some (.bind (.builtin "getset_descriptor.__get__") (.builtin "object.__class__")):=by unfold findObj;rw[S.cls,Option.bind_some,S.gc,Option.bind_some];simp[GU,Be]
theorem wZ{Q:Option Value->Shared->Prop}(S:rF K c C L cd)(X:K.In s.heap)(I:InstAt s.heap x ox C od)(hq:Q (some (.ref C)) {s with toks:=s.toks+1}) :
  wpAny (model prog w) A (getAttr? (.ref x) "__class__") Q E s:=by
 obtain⟨hh,g,d,t,os⟩:=s;unfold getAttr? getAttrBy?;refine kS (wpAny_mkText (kS (wpAny_attempt ?_)));exact GT (s:=⟨hh,g,d,t+1,os⟩) (ox:=ox) (od:=od) S X I (λA' Q' q=>vi (s:=⟨hh,g,d,t+1,os⟩) S X I (S.fclass od) q) rfl (SG hq)
theorem DH(S:rF K c C L cd):KitX K (.ref x) (.ref C) (λh=>∃ox od,InstAt h x ox C od) where
 ty:=λ_ _ _ ⟨_,_,I⟩=>I.type
 it:=λ_ _ X _=>by
  have hc:=S.cls;unfold clsIn at hc;split at hc
  . rename_i ho;intro A' Q' E' s' k q;unfold isType loadHead;exact kS (wpAny_loadPart (k _ _ (X _ _ ho)) (SG q))
  . cases hc
 ne:=λh tp dd its n sl X htp=>by
  refine Bool.eq_false_iff.mpr λq=>?_;have e:C=tp:=Value.ref.inj (beq_iff_eq.mp q);subst e;have hc:=S.cls;unfold clsIn at hc;split at hc
  . rename_i ho;have z:=(X _ _ ho).symm.trans htp;cases z
  . cases hc
 ca:=λX ⟨_,_,I⟩ k=>wZ S X I k
end
theorem pR{K:Frag}{C:Addr}{cd:ClassData}(h:clsIn K C=some cd):∃oc odc sl,K.lookup C=some ⟨oc,odc,.cls cd,sl⟩:=by
 unfold clsIn at h;split at h
 . rename_i ho;cases h;exact⟨_,_,_,ho⟩
 . cases h
section
variable{prog:Program}{w:World}{A:Around}{E:Value->Shared->Prop}{s:Shared}{K:Frag}{c:Str}{x C L:Addr}{cd:ClassData}{ox:Obj}{od:Option Obj}{name:Str}
theorem Mo{vs:Array Value}{text:Value}{Q:Value->Shared->Prop}(S:rF K c C L cd)(X:K.In s.heap)(I:InstAt s.heap x ox C od)(hd:ox.data=.fields vs)(hz:0<vs.size)
  (hq:∀ t,Q .none {s with heap:=(s.heap.push {cls:=.type "tuple",data:=.seq #[text] }).update x (Obj.mapFields (·.setIfInBounds 0 (.ref s.heap.objs.size))),toks:=t}) :
  wpAny (model prog w) A (call (.builtin "ValueError.__init__") [.ref x,text]) Q E s:=by
 have FB:=F.excBase_ValueError;have hi:Looks (model prog w) s.heap (isInstance (.ref x) (.type "ValueError")) true:=I.type.andThen (S.isT X _);have hx:=I.at_;obtain⟨hh,g,d,t,os⟩:=s;have hx1:=tu (h:=hh) {cls:=.type "tuple",data:=.seq #[text] } hx;have h0:vs[0]?=some vs[0]:=Array.getElem?_eq_getElem hz;have hst:=FB.noStar;refine wpAny_call (codeAny_call_builtin FB.init.plain FB.initEntry ?_);simp only[checkBuiltinCall,FB.initKind,FB.initSplit,FB.initRow];refine kS (hi.here ?_);simp only[Bool.not_true,Bool.false_eq_true,if_false];have hcl:=I.cls;obtain⟨oc,odc,sl,hK⟩:=pR S.cls;have hC:hh.get? C=some ⟨oc,odc,.cls cd,sl⟩:=X _ _ hK
 repeat (first|(with_reducible refine wpAny_loadPart_at hx ?_;rw[hcl])|with_reducible refine wpAny_loadPart_at hC ?_|with_reducible refine(S.isT X _).here ?_|wp_step)
 rw[hd];refine SG ?_;rw[h0];refine SG (kS (wpAny_setField hx1 hd hz ?_))
 have done:∀t',wpAny (model prog w) A.in1 (ret Value.none) (λOv s'=>match Ov with
   | Fin.done f=>(match (Except.ok f:Result)with
    |.ok (.ret v)=>Q v s'
    |.ok _=>False
    |.error e=>E e s')
   | Fin.again c'=>c'.quiet=true/\codeAny (model prog w) A c' (λr s'=>match r with
    |.ok (.ret v)=>Q v s'
    |.ok _=>False
    |.error e=>E e s') s') (λe s'=>E e s') ⟨(hh.push {cls:=.type "tuple",data:=.seq #[text] }).update x (Obj.mapFields (·.setIfInBounds 0 (.ref hh.objs.size))),g,d,t',os⟩:=λt'=>SG (hq t')
 split
 . exact wpAny_letGo (done _)
 . exact SG (done _)
theorem vj{v:Value}{Q:Unit->Shared->Prop}(S:rF K c C L cd)(X:K.In s.heap)(I:InstAt s.heap x ox C od)(hna:findIn K (.ref C) name=some none)
  (h:∀(A':Around)(R:Fin->Shared->Prop),(∀s',Q () s'->R (.done (.ret .none)) s')->wpAny (model prog w) A' (Builtin.ObjectAttr.storeInOwnDict (.ref x) (.ref C) (.str name s.toks) name v false) R (λ_ _=>False) {s with toks:=s.toks+1}) :
  wpAny (model prog w) A (setAttr (.ref x) name v) Q E s:=by
 have SF:=PySem.F.store_ValueError;obtain⟨hh,g,d,t,os⟩:=s;have L0:=I.type (M:=model prog w);have L1:=looks_findIn (M:=model prog w) X S.sa;have L2:=looks_findIn (M:=model prog w) X hna;have Lm:Looks (model prog w) hh (mroOf (.ref C)) cd.mro:=(looks_clsIn X S.cls).andThen .now;have hi:Looks (model prog w) hh (isInstance (.ref x) (.type "object")) true:=L0.andThen (S.isT X _);unfold setAttr callSpecial? specialOf;refine kS (wpAny_mkText (kS (kS (kS (L0.at (L1.at ?_))))));dsimp only;refine wpAny_holding (kS ?_);rw[SF.slot.bind];refine SG (kS (wpAny_call ?_));refine codeAny_call_builtin SF.slot.plain SF.entry (@check_slot (model prog w) _ _ ⟨hh,g,d,t+1,os⟩ "object.__setattr__" "object" "__setattr__" (.ref x) [.str name t,v] [] _ SF.kind SF.split hi (SF.args (.ref x) (.str name t) v) ?_);show wpAny _ _ (Builtin.«object.__setattr__» ⟨[.ref x,.str name t,v],[]⟩) _ _ _;rw[osa_eq,refuse_eq];refine kS (kS (L0.at (kS (Lm.at ?_))));rw[S.mro];have em:AF C L=[.ref C,.ref L,.type "ValueError",.type "Exception",.type "BaseException",.type "object"]∨AF C L=[.ref L,.type "ValueError",.type "Exception",.type "BaseException",.type "object"]:=(wY C L).imp id And.left;rcases em with e|e
 all_goals
  rw[e]
  first|rw[refuseLoop_ref,refuseLoop_ref,SF.passes] | rw[refuseLoop_ref,SF.passes]
  refine SG (kS (L0.at (kS (L2.at (kS (SG ?_))))));dsimp only;refine wpAny_mono (h _ _ λs' q=>?_) (λ_ _ z=>z) λ_ _ z=>z.elim;exact SG (SG q)
theorem DI{v:Value}{Q:Unit->Shared->Prop}(S:rF K c C L cd)(X:K.In s.heap)(I:InstAt s.heap x ox C od)(hdn:ox.dict=none)(hna:findIn K (.ref C) name=some none)
  (hq:∀h' tk,h'.get? x=some {ox with dict:=some s.heap.objs.size}->h'.Ns1 s.heap.objs.size (λy=>if y=name then some v else none)->(∀b o,b≠x->s.heap.get? b=some o->h'.get? b=some o)->Q () {s with heap:=h',toks:=tk}) :
  wpAny (model prog w) A (setAttr (.ref x) name v) Q E s:=by
 refine vj S X I hna λA' R k=>?_;obtain⟨hh,g,d,t,os⟩:=s;have hx:=I.at_;have hcl:=I.cls;have hno:=I.no;have Lc:=looks_clsIn (M:=model prog w) X S.cls;have hxs:x≠hh.objs.size:=Nat.ne_of_lt (SI hx);unfold Builtin.ObjectAttr.storeInOwnDict;refine kS (SG ?_);rw[if_neg (by show ¬ ((Value.ref C == Value.type "module")=true); exact λz=>by cases z)];refine kS ?_;show wpAny _ _ (instanceDict x true) _ _ _;unfold instanceDict;refine kS (wpAny_loadPart_at hx ?_);rw[hcl];dsimp only;refine kS (Lc.at ?_);rw[S.dct];simp only[Bool.not_true,Bool.false_eq_true,if_false];rw[hdn];dsimp only;rw[if_neg (by simp[typeHasDict])]
 have go:∀(Q':Option Addr->Shared->Prop),(∀ h1,h1.get? x=some {ox with dict:=some hh.objs.size}->h1.get? hh.objs.size=some {cls:=.type "dict",data:=.dict #[] }->(∀ b o,b≠x->hh.get? b=some o->h1.get? b=some o)->Q' (some hh.objs.size) ⟨h1,g,d,t+1,os⟩) ->
   wpAny (model prog w) A' (do
    let d <- alloc {cls:=.type "dict",data:=.dict #[] }
    update x λo=>{o with dict:=some d}
    dictMade (.ref C) x d) Q' (λ_ _=>False) ⟨hh,g,d,t+1,os⟩:=λQ' q=>by
  have hx1:(hh.push {cls:=.type "dict",data:=.dict #[] }).get? x=some ox:=tu _ hx;refine kS (wpAny_alloc' ?_);refine kS (wpAny_update' hx1 ?_);refine SG (q _ ?_ ?_ λb o hb e=>?_)
  .
   refine Heap.get?_update_self _ hx1 ?_;have fr:=(Heap.get?_some_iff.mp hx).2;obtain⟨c0,d0,dt,s0⟩:=ox
   cases dt<;>first|rfl|exact fr
  . exact(Heap.get?_update_ne _ _ _ _ hxs.symm).trans (Heap.get?_push_at rfl rfl)
  . exact(Heap.get?_update_ne _ _ _ _ hb).trans (tu _ e)
 have Ov:∀ h1,h1.get? x=some {ox with dict:=some hh.objs.size}->h1.get? hh.objs.size=some {cls:=.type "dict",data:=.dict #[] }->(∀ b o,b≠x->hh.get? b=some o->h1.get? b=some o) ->
   wpAny (model prog w) A' (Builtin.ObjectAttr.storeInDict hh.objs.size (.str name t) name v) R (λ_ _=>False) ⟨h1,g,d,t+1,os⟩:=λh1 e1 e2 e3=>by
  have n0:h1.Ns hh.objs.size (λ_=>none):=⟨_,#[],_,e2,rfl,λe he=>absurd he v6,λ_=>rfl⟩;unfold Builtin.ObjectAttr.storeInDict Builtin.ObjectAttr.newKeyGuard;refine kS (SG (kS (wpAny_nsSet1 (Heap.Ns1.of_empty n0) λh2 n2 hs=>?_)));obtain⟨oD,esD,epD,hoD,hdD,hcD⟩:=n2.count (Within.cons name v Within.nil);refine kS (wpAny_lookBehind hoD (by rw[hdD];exact pastItsLine_dict (SJ hcD (by rw[List.length_cons,List.length_nil,sizeLine_eq];omega))) ?_);refine SG (k _ (hq h2 _ ((hs.2 x hxs).trans e1) n2 λb o hb e=>(hs.2 b (Nat.ne_of_lt (SI e))).trans (e3 b o hb e)))
 split
 . rename_i q;rw[notCls,q]at hno;cases hno
 . exact go _ Ov
theorem DJ{v:Value}{Q:Unit->Shared->Prop}{dx:Addr}{mA:Str->Option Value}{ns:List Str}(S:rF K c C L cd)(X:K.In s.heap)(I:InstAt s.heap x ox C od)(hdx:ox.dict=some dx)(hN:s.heap.Ns1 dx mA)(hw:PySem.Within mA ns)(hz:ns.length<=1000)(hna:findIn K (.ref C) name=some none)
  (hq:∀h' tk,h'.Ns1 dx (λy=>if y=name then some v else mA y)->Heap.SameBut dx s.heap h'->Q () {s with heap:=h',toks:=tk}) :
  wpAny (model prog w) A (setAttr (.ref x) name v) Q E s:=by
 refine vj S X I hna λA' R k=>?_;obtain⟨hh,g,d,t,os⟩:=s;have hx:=I.at_;have hcl:=I.cls;have Lc:=looks_clsIn (M:=model prog w) X S.cls;unfold Builtin.ObjectAttr.storeInOwnDict;refine kS (SG ?_);rw[if_neg (by show ¬ ((Value.ref C == Value.type "module")=true); exact λz=>by cases z)];refine kS ?_;show wpAny _ _ (instanceDict x true) _ _ _;unfold instanceDict;refine kS (wpAny_loadPart_at hx ?_);rw[hcl];dsimp only;refine kS (Lc.at ?_);rw[S.dct];simp only[Bool.not_true,Bool.false_eq_true,if_false];rw[hdx];refine SG ?_;show wpAny _ _ (Builtin.ObjectAttr.storeInDict dx (.str name t) name v) _ _ _;unfold Builtin.ObjectAttr.storeInDict Builtin.ObjectAttr.newKeyGuard;refine kS (SG (kS (wpAny_nsSet1 hN λh2 n2 hs=>?_)));obtain⟨oD,esD,epD,hoD,hdD,hcD⟩:=n2.count (Within.cons name v hw);refine kS (wpAny_lookBehind hoD (by rw[hdD];exact pastItsLine_dict (SJ hcD (by rw[List.length_cons,sizeLine_eq];omega))) ?_);exact SG (k _ (hq h2 _ n2 hs))
end
end L2
namespace L2
open PySem PySem.Spec PyProof.Rows
section
variable{X:Cx}{gV:List (Addr×Obj)}{σ:St}{H:Hp}{s:Shared}
theorem Oq.reword{a:Addr}{u w:HO}(I:Oq X gV σ H s)(h:H a=some u)(hu:¬LC u)(hw:∀y,u≠.own y)(nw:dB X.prog X.w H s.heap a w)(hw2:∀C dx fs,w≠.ins C dx fs):Oq X gV σ (Og H a w) s:=by
 have ne:∀b,H b=none->b≠a:=λb n e=>by subst e;rw[h]at n;cases n
 have nt:∀b xs,H b=some (.tup xs)->b≠a:=λb xs n e=>by subst e;rw[h]at n;cases n;exact hu True.intro
 have nf:∀b o z,H b=some (.frz o z)->b≠a:=λb o z n e=>by subst e;rw[h]at n;cases n;exact hu True.intro
 have no:∀b z,H b=some (.own z)->b≠a:=λb z n e=>by subst e;rw[h]at n;cases n;exact hw _ rfl
 refine⟨I.ok,I.os,I.bare,⟨I.base.keep,I.base.slot,λb ob e n hx=>?_,I.base.there,λb xs e=>?_,λb ob z e=>?_,λb ps e=>?_⟩,I.loc,I.cell,?_,λx c e=>?_,λp hp=>?_,λb z e=>?_,I.len⟩
 . have q:=I.base.free b ob e n hx;rw[aD (ne b q)];exact q
 . have q:=I.base.tups b xs e;rw[aD (nt b xs q)];exact q
 . have q:=I.base.frzs b ob z e;rw[aD (nf b ob z q)];exact q
 . have q:=I.base.tbls b ps e;rw[aD (λz=>by subst z;rw[h]at q;cases q;exact hu True.intro)];exact q
 . rw[aD (ne _ I.free)];exact I.free
 .
  rcases I.freeC x c e with z|⟨hf,o,z⟩
  . exact .inl (by rw[aD (ne _ z)];exact z)
  . exact .inr ⟨hf,o,by rw[aD (nf _ _ _ z)];exact z⟩
 . obtain⟨e,n,r⟩:=I.pin p hp;exact⟨e,by rw[aD (ne _ n)];exact n,r⟩
 .
  by_cases hb:b=a
  . subst hb;rw[aY]at e;cases e;exact nw.stay (λc v _ q=>q) (λc q=>by rw[aD (no c _ q)];exact q) (λc xs q=>by rw[aD (nt c xs q)];exact q) λc ob _ _ q=>by rw[aD (nf c ob _ q)];exact q
  . rw[aD hb]at e;exact(I.hok b z e).stay (λc v _ q=>q) (λc q=>by rw[aD (no c _ q)];exact q) (λc xs q=>by rw[aD (nt c xs q)];exact q) λc ob _ _ q=>by rw[aD (nf c ob _ q)];exact q
theorem Oq.freezeL{a:Addr}{xs:List V}(I:Oq X gV σ H s)(h:H a=some (.lst xs)):∃o,Oq X gV σ (Og H a (.frz o (.lst xs))) s:=by obtain⟨z,its,n,r,e⟩:=id (I.hok a _ h);exact⟨_,I.reword h (λq=>q) (λ_ q=>nomatch q) ⟨e,z,its,n,r,e⟩ (λ_ _ _ q=>nomatch q)⟩
theorem Oq.freezeD{a:Addr}{xs:List (Of×V)}(I:Oq X gV σ H s)(h:H a=some (.dK xs)):∃o,Oq X gV σ (Og H a (.frz o (.dK xs))) s:=by obtain⟨z,y,vs,r,o,es,ep,e,c⟩:=id (I.hok a _ h);exact⟨_,I.reword h (λq=>q) (λ_ q=>nomatch q) ⟨e,z,y,vs,r,o,es,ep,e,c⟩ (λ_ _ _ q=>nomatch q)⟩
end
section
variable{K:PySem.W.Frag}{Pr H:Hp}{σ:St}{Z:Ev}
theorem aA.new(E:aA K Pr H σ Z){p:Addr}{o:HO}(h:H p=none):aA K Pr (Og H p o) σ Z:=by
 have k:∀b u,H b=some u->Og H p o b=some u:=λb u e=>by rw[aD (bq e h)];exact e
 exact⟨λb u e=>k b u (E.sub b u e),E.nd,E.off,Paired.impMem E.sl λl hl s q=>q.pres (λb u _ e=>k b u e) l λa e=>by
  obtain⟨vs,e,_⟩:=E.at_own (dN.mpr ⟨l,hl,e⟩)
  rw[k _ _ e,e]⟩
theorem bM.new{vs:List V}{ds:List D}(r:bM K H vs ds){p:Addr}{o:HO}(h:H p=none):bM K (Og H p o) vs ds:=r.pres λb u _ e=>by rw[aD (bq e h)];exact e
theorem O8.new{v:V}{d:D}(r:O8 K H v d){p:Addr}{o:HO}(h:H p=none):O8 K (Og H p o) v d:=r.pres λb u _ e=>by rw[aD (bq e h)];exact e
theorem oB:owns (.un::Z)=owns Z:=rfl
theorem aS{a:Addr}{xs:List D}:owns (.own a xs::Z)=a::owns Z:=rfl
theorem aA.cons_d(E:aA K Pr H σ Z){v:V}{x:D}(r:O8 K H v x):aA K Pr H (some v::σ) (.d x::Z):=⟨E.sub,E.nd,E.off,.cons ⟨v,rfl,r⟩ E.sl⟩
theorem aA.cons_un(E:aA K Pr H σ Z){v:Option V}:aA K Pr H (v::σ) (.un::Z):=⟨E.sub,E.nd,E.off,.cons True.intro E.sl⟩
theorem aA.cons_own(E:aA K Pr H σ Z){p:Addr}{vs:List V}{xs:List D}(h:H p=none)(r:bM K H vs xs):aA K Pr (Og H p (.lst vs)) (some (.ref p)::σ) (.own p xs::Z):=by
 have E':=E.new (o:=.lst vs) h;refine⟨E'.sub,?_,λa ha=>?_,.cons ⟨rfl,vs,aY,r.new h⟩ E'.sl⟩
 . rw[aS];refine List.nodup_cons.mpr ⟨λhm=>?_,E.nd⟩;obtain⟨us,e,_⟩:=E.at_own hm;rw[h]at e;cases e
 .
  rw[aS]at ha;rcases SK.mp ha with rfl|ha
  .
   cases q:Pr a with
   |none=>rfl
   |some u=>rw[E.sub a u q]at h;cases h
  . exact E.off a ha
theorem aA.cons_tup(E:aA K Pr H σ Z){p:Addr}{vs:List V}{xs:List D}(h:H p=none)(r:bM K H vs xs):aA K Pr (Og H p (.tup vs)) (some (.ref p)::σ) (.d (.tup xs)::Z) :=
 (E.new h).cons_d (.tup (Ox.of aY) (r.new h))
theorem aA.freeze(E:aA K Pr H σ (.own a xs::Z)){vs:List V}(h:H a=some (.lst vs))(o:Obj):aA K Pr (Og H a (.frz o (.lst vs))) σ (.d (.lst xs)::Z):=by
 have pa:Pr a=none:=E.off a (by rw[aS];exact SE);have nd:=E.nd;rw[aS]at nd;obtain⟨hn,nd⟩:=List.nodup_cons.mp nd;have p:sH H (Og H a (.frz o (.lst vs))):=λb u pu e=>by rw[aD];exact e;rintro rfl;rw[h]at e;cases e;exact pu
 refine⟨λb u e=>?_,nd,λb hb=>E.off b (by rw[aS];exact SC _ hb),?_⟩
 . rw[aD];exact E.sub b u e;rintro rfl;rw[pa]at e;cases e
 .
  have sl:=E.sl
  cases sl with
  | cons q t =>
   obtain⟨e,us,e2,r⟩:=q;rw[h]at e2;cases e2;refine .cons ⟨.ref a,e,.lst (.inl ⟨o,aY⟩) (r.pres p)⟩ (Paired.impMem t λl hl s z=>z.pres p l λb hbm=>?_);rw[aD];rintro rfl;exact hn (dN.mpr ⟨l,hl,hbm⟩)
theorem aI(l:L)(Z:Ev):owns (l::Z)=bR l++owns Z:=rfl
theorem jZ{k:L}:∀{Z:Ev}{i:Nat}{l:L},Z[i]?=some k->bR l=[]->(owns Z).Perm (bR k++owns (Z.set i l))
 |[],_,_,h,_=>by simp at h
 | _::Z,0,l,h,hl=>by simp at h;subst h;show(owns (_::Z)).Perm (_++owns (l::Z));rw[aI,aI,hl];exact List.Perm.refl _
 | m::Z,i+1,l,h,hl=>by have ih:=jZ (i:=i) (Z:=Z) (l:=l) (by simpa using h) hl;show(owns (m::Z)).Perm (bR k++owns (m::Z.set i l));rw[aI,aI];refine(List.Perm.append_left _ ih).trans ?_;rw[<- List.append_assoc,<- List.append_assoc];exact List.Perm.append_right _ List.perm_append_comm
theorem Bf{a:Addr}{xs:List D}{Z:Ev}{i:Nat}{l:L}(h:Z[i]?=some (.own a xs))(hl:bR l=[]):(owns Z).Perm (a::owns (Z.set i l)):=jZ h hl
theorem yr{Z:Ev}{i:Nat}(l:L)(h:Z[i]?=some .un):(owns (Z.set i l)).Perm (bR l++owns Z):=by
 have hi:i<Z.length:=(SB.mp h).1;have pm:=jZ (Z:=Z.set i l) (i:=i) (k:=l) (l:=.un) (by simp[hi]) rfl;rw[List.set_set]at pm;have e2:Z.set i .un=Z:=by have:=List.set_getElem_self (as:=Z) (i:=i) hi;have e3:Z[i]=.un:=(SB.mp h).2;rw[e3]at this;exact this
 rw[e2]at pm;exact pm
theorem aA.outL(E:aA K Pr H σ Z){i:Nat}{k:L}{s:Option V}(h:Z[i]?=some k)(hs:σ[i]?=some s):aA K Pr H (s::σ) (k::Z.set i .un):=by have pm:=jZ (l:=.un) h rfl;obtain⟨s',hs',q⟩:=Paired.get2 E.sl h;rw[hs]at hs';cases hs';refine⟨E.sub,?_,λb hb=>E.off b (pm.mem_iff.mpr (by rw[aI]at hb;exact hb)),.cons q (Paired.set_r i E.sl λ_ _=>by simp only[bI])⟩;rw[aI];exact pm.nodup_iff.mp E.nd
theorem aA.out(E:aA K Pr H σ Z){i:Nat}{a:Addr}{xs:List D}(h:Z[i]?=some (.own a xs)):aA K Pr H (some (.ref a)::σ) (.own a xs::Z.set i .un):=by
 have pm:=Bf (l:=.un) h rfl;obtain⟨s,hs,q⟩:=Paired.get2 E.sl h;refine⟨E.sub,?_,λb hb=>E.off b (pm.mem_iff.mpr (by rw[aS]at hb;exact hb)),.cons ?_ (Paired.set_r i E.sl λ_ _=>by simp only[bI])⟩
 . rw[aS];exact pm.nodup_iff.mp E.nd
 . obtain⟨_,r⟩:=q;exact⟨rfl,r⟩
theorem aA.back{v:Option V}{l:L}(E:aA K Pr H (v::σ) (l::Z)){i:Nat}(h:Z[i]?=some .un)(hs:σ[i]?=some v):aA K Pr H σ (Z.set i l):=by
 have sl:=E.sl
 cases sl with
 | cons q t =>
  have e1:Z.set i l=(Z.set i l):=rfl;refine⟨E.sub,?_,λb hb=>?_,Paired.set_r i t λa e=>by rw[hs]at e;cases e;exact q⟩
  . exact(yr l h).nodup_iff.mpr E.nd
  . exact E.off b ((yr l h).mem_iff.mp hb)
theorem aA.write(E:aA K Pr H σ (.own a xs::Z)){vs:List V}{ys:List D}(r:bM K H vs ys):aA K Pr (Og H a (.lst vs)) σ (.own a ys::Z):=by
 have pa:Pr a=none:=E.off a (by rw[aS];exact SE);have nd:=E.nd;rw[aS]at nd;obtain⟨hn,nd'⟩:=List.nodup_cons.mp nd;obtain⟨us,ha,mu⟩:=E.at_own (a:=a) (by rw[aS];exact SE);have p:sH H (Og H a (.lst vs)):=λb u pu e=>by rw[aD];exact e;rintro rfl;rw[ha]at e;cases e;exact mu.no pu
 refine⟨λb u e=>?_,nd,λb hb=>E.off b hb,?_⟩
 . rw[aD];exact E.sub b u e;rintro rfl;rw[pa]at e;cases e
 .
  have sl:=E.sl
  cases sl with
  | cons q t =>
   obtain⟨e,_⟩:=q;refine .cons ⟨e,vs,aY,r.pres p⟩ (Paired.impMem t λl hl s z=>z.pres p l λb hbm=>?_);rw[aD];rintro rfl;exact hn (dN.mpr ⟨l,hl,hbm⟩)
end
noncomputable abbrev W(α:Type):=Ev->(α->Ev->Prop)->Prop
inductive Fl where
 |nx|bk|ct|rt (r:L)
def EL(X:Cx)(gV:List (Addr×Obj))(σ:St)(Pr:Hp)(p4:L->Ev->Prop)(u:Value)(s':Shared):Prop :=
 ∃v H' r Z',Oq X gV σ H' s'/\bU v u/\aA X.K Pr H' (some v::σ) (r::Z')/\p4 r Z'
def PL(X:Cx)(e:Expr)(t:W L):Prop :=
 ∀(gV:List (Addr×Obj))(s:Shared)(σ:St)(H Pr:Hp)(Z:Ev)(p4:L->Ev->Prop),Oq X gV σ H s->aA X.K Pr H σ Z->t Z p4->wpAny (model X.prog X.w) X.A (eval e X.env) (EL X gV σ Pr p4) X.xe s
def EB(X:Cx)(gV:List (Addr×Obj))(σ:St)(Pr:Hp)(p4:Bool->Ev->Prop)(b:Bool)(s':Shared):Prop :=
 ∃H' Z',Oq X gV σ H' s'/\aA X.K Pr H' σ Z'/\p4 b Z'
def PB(X:Cx)(e:Expr)(t:W Bool):Prop :=
 ∀(gV:List (Addr×Obj))(s:Shared)(σ:St)(H Pr:Hp)(Z:Ev)(p4:Bool->Ev->Prop),Oq X gV σ H s->aA X.K Pr H σ Z->t Z p4->wpAny (model X.prog X.w) X.A (isTrue e X.env (eval e X.env)) (EB X gV σ Pr p4) X.xe s
def EA(X:Cx)(gV:List (Addr×Obj))(σ:St)(Pr:Hp)(bs:List (Option Nat))(p4:List L->Ev->Prop)(us:List Value)(s':Shared):Prop :=
 ∃vs H' ls Z',Oq X gV σ H' s'/\bZ vs us/\vs.length=ls.length/\vs.length=bs.length/\aA X.K Pr H' (vs.map some++σ) (ls++Z')/\(∀(k i:Nat),bs[k]?=some (some i)->ls[k]?=some L.un/\∃v,vs[k]?=some v/\σ[i]?=some (some v))/\p4 ls Z'
def O9(X:Cx)(es:List Expr)(bs:List (Option Nat))(t:W (List L)):Prop :=
 ∀(pos:Pos)(gV:List (Addr×Obj))(s:Shared)(σ:St)(H Pr:Hp)(Z:Ev)(p4:List L->Ev->Prop),Oq X gV σ H s->aA X.K Pr H σ Z->t Z p4 ->
  wpAny (model X.prog X.w) X.A (spliced (backTo pos (starEach es X.env))) (EA X gV σ Pr bs p4) X.xe s
def SM(X:Cx)(gV:List (Addr×Obj))(Pr:Hp)(p4:Fl->Ev->Prop)(f:Flow)(s':Shared):Prop :=
 match f with
 |.next=>∃σ' H' Z',Oq X gV σ' H' s'/\aA X.K Pr H' σ' Z'/\p4 .nx Z'
 |.brk=>∃σ' H' Z',Oq X gV σ' H' s'/\aA X.K Pr H' σ' Z'/\p4 .bk Z'
 |.cont=>∃σ' H' Z',Oq X gV σ' H' s'/\aA X.K Pr H' σ' Z'/\p4 .ct Z'
 |.ret u=>∃v σ' H' r Z' τ,Oq X gV σ' H' s'/\bU v u/\aA X.K Pr H' (some v::τ) (r::Z')/\p4 (.rt r) Z'
def PM(X:Cx)(st:Stmt)(t:W Fl):Prop :=
 ∀(gV:List (Addr×Obj))(s:Shared)(σ:St)(H Pr:Hp)(Z:Ev)(p4:Fl->Ev->Prop),Oq X gV σ H s->aA X.K Pr H σ Z->t Z p4->wpAny (model X.prog X.w) X.A (exec st X.env) (SM X gV Pr p4) X.xe s
def Pa(X:Cx)(st:List Stmt)(t:W Fl):Prop :=
 ∀(gV:List (Addr×Obj))(s:Shared)(σ:St)(H Pr:Hp)(Z:Ev)(p4:Fl->Ev->Prop),Oq X gV σ H s->aA X.K Pr H σ Z->t Z p4->wpAny (model X.prog X.w) X.A (execs st X.env) (SM X gV Pr p4) X.xe s
section
variable{X:Cx}{e a b:Expr}{pos:Pos}{ta tb:W L}
theorem PL.of{t:TE}{u:W L}(h:PE X e t)(q:∀σ H Pr Z p4,aA X.K Pr H σ Z->u Z p4->t σ H λv H'=>∃r Z',aA X.K Pr H' (some v::σ) (r::Z')/\p4 r Z'):PL X e u :=
 λgV s σ H Pr Z p4 I E hu=>Ot (h gV s σ H _ I (q σ H Pr Z p4 E hu)) λu s1 ⟨v,H1,I1,r1,r,Z',E1,p⟩=>⟨v,H1,r,Z',I1,r1,E1,p⟩
mutual
noncomputable def cJ:L->Option D
 |.un=>none
 |.d x=>some x
 |.own _ xs=>some (.lst xs)
 |.bx none ls=>(cY ls).map .tup
 |.bx (some _) ls=>(cY ls).map .lst
 |.dic _ _=>none
noncomputable def cY:List L->Option (List D)
 |[]=>some []
 | l::ls=>match cJ l,cY ls with
  |some x,some xs=>some (x::xs)
  |_,_=>none
end
def eT:Option D->(D->Prop)->Prop
 |some x,k=>k x
 |none,_=>False
theorem zM{o:Option D}{k:D->Prop}(h:eT o k):∃x,o=some x/\k x:=by
 cases o with
 |some x=>exact⟨x,rfl,h⟩
 |none=>exact h.elim
def AG(a:Option Addr)(ls:List L)(k:D->Prop):Prop:=eT (cJ (.bx a ls)) k
def Pb:L->(D->Prop)->Prop
 |.un,_=>False
 |.d x,k=>k x
 |.own _ xs,k=>k (.lst xs)
 |.bx a ls,k=>AG a ls k
 |.dic _ _,_=>False
theorem Bg{a:Option Addr}{ls:List L}{k:D->Prop}(h:AG a ls k):∃x,cJ (.bx a ls)=some x/\k x:=zM h
def DK(ls:List L)(k:List D->Prop):Prop:=∃xs,cY ls=some xs/\k xs
theorem JX(ls:List L)(k:D->Prop):AG none ls k=DK ls λxs=>k (.tup xs):=by
 unfold AG DK;simp only[cJ]
 cases cY ls with
 |none=>simp[eT]
 |some xs=>simp[eT]
theorem JY(a:Addr)(ls:List L)(k:D->Prop):AG (some a) ls k=DK ls λxs=>k (.lst xs):=by
 unfold AG DK;simp only[cJ]
 cases cY ls with
 |none=>simp[eT]
 |some xs=>simp[eT]
theorem DL(k:List D->Prop):DK [] k=k []:=by unfold DK;simp[cY]
theorem GV(l:L)(k:D->Prop):Pb l k=∃x,cJ l=some x/\k x:=by
 cases l with
 |un=>simp[Pb,cJ]
 |d x=>simp[Pb,cJ]
 |own a xs=>simp[Pb,cJ]
 | bx a ls =>
  show eT _ k=_
  cases cJ (.bx a ls)with
  |none=>simp[eT]
  |some x=>simp[eT]
 |dic a kvs=>simp[Pb,cJ]
theorem Bh(l:L)(ls:List L)(k:List D->Prop):DK (l::ls) k=Pb l λx=>DK ls λxs=>k (x::xs):=by
 rw[GV];unfold DK;simp only[cY]
 cases cJ l with
 |none=>simp
 | some x =>
  cases cY ls with
  |none=>simp
  |some xs=>simp
theorem dZ{K:PySem.W.Frag}{H:Hp}:∀{vs:List V}{ls:List L},eH K H vs ls↔Paired (bI K H) (vs.map some) ls
 |[],[]=>⟨λ_=>.nil,λ_=>by simp only[eH]⟩
 | v::vs,l::ls=>by
  simp only[eH,List.map_cons];constructor
  . rintro⟨w,us,e,h1,h2⟩;cases e;exact .cons h1 (dZ.mp h2)
  .
   intro h
   cases h with
   |cons q t=>exact⟨v,vs,rfl,q,dZ.mpr t⟩
 | [],l::ls=>by
  simp only[eH,List.map_nil];constructor
  . rintro⟨w,us,e,_⟩;cases e
  . intro h;cases h
 | v::vs,[]=>by
  simp only[eH,List.map_cons];constructor
  . intro h;cases h
  . intro h;cases h
theorem w4{K:PySem.W.Frag}{H:Hp}:∀{vs:List V}{xs:List D},Paired (bI K H) (vs.map some) (xs.map .d)->bM K H vs xs
 |[],[],_=>.nil
 | v::vs,x::xs,h=>by
  simp only[List.map_cons]at h
  cases h with
  | cons q t =>
   simp only[bI]at q;obtain⟨w,e,r⟩:=q;cases e;exact .cons r (w4 t)
 |[],_::_,h=>by simp only[List.map_cons,List.map_nil]at h;cases h
 |_::_,[],h=>by simp only[List.map_cons,List.map_nil]at h;cases h
theorem eH.len{K:PySem.W.Frag}{H:Hp}{vs:List V}{ls:List L}(h:eH K H vs ls):vs.length=ls.length:=by have:=Paired.length (dZ.mp h);simpa using this
theorem g7:∀{ls:List L}{xs:List D},cY ls=some xs->xs.length=ls.length
 |[],_,h=>by simp[cY]at h;subst h;rfl
 | l::ls,xs,h=>by
  simp only[cY]at h;split at h
  . rename_i x ys h1 h2;cases h;simp[g7 h2]
  . cases h
theorem aA.openT{K:PySem.W.Frag}{Pr H:Hp}{σ:St}{Z:Ev}{v:Option V}{ls:List L}(E:aA K Pr H (v::σ) (.bx none ls::Z)):∃a vs,v=some (.ref a)/\Ox K H a vs/\vs.length=ls.length/\aA K Pr H (vs.map some++σ) (ls++Z):=by
 have sl:=E.sl
 cases sl with
 | cons q t =>
  simp only[bI]at q;obtain⟨a,vs,e,h,r⟩:=q;have ow:owns (.bx none ls::Z)=owns (ls++Z):=by rw[aI,aK];simp only[bR,Option.toList,List.nil_append,eS]
  exact⟨a,vs,e,h,r.len,E.sub,by rw[<- ow];exact E.nd,λb hb=>E.off b (by rw[ow];exact hb),Paired.app (dZ.mp r) t⟩
theorem aA.openO{K:PySem.W.Frag}{Pr H:Hp}{σ:St}{Z:Ev}{v:Option V}{a:Addr}{ls:List L}(E:aA K Pr H (v::σ) (.bx (some a) ls::Z)):∃vs,v=some (.ref a)/\H a=some (.lst vs)/\vs.length=ls.length/\a∉owns (ls++Z)/\Pr a=none/\aA K Pr H (vs.map some++σ) (ls++Z):=by
 have sl:=E.sl
 cases sl with
 | cons q t =>
  simp only[bI]at q;obtain⟨e,vs,h,r⟩:=q;have ow:owns (.bx (some a) ls::Z)=a::owns (ls++Z):=by rw[aI,aK];simp only[bR,Option.toList,List.cons_append,List.nil_append,eS]
  have nd:=E.nd;rw[ow]at nd;obtain⟨n1,n2⟩:=List.nodup_cons.mp nd;exact⟨vs,e,h,r.len,n1,E.off a (by rw[ow];exact SE),E.sub,n2,λb hb=>E.off b (by rw[ow];exact SC _ hb),Paired.app (dZ.mp r) t⟩
theorem Bi(xs:List D):owns (xs.map .d)=[]:=by
 induction xs with
 |nil=>rfl
 |cons x xs ih=>rw[List.map_cons,aI,ih];rfl
def sI(H H':Hp)(S:List Addr):Prop:=sH H H'/\(∀b,b∉S->H' b=H b)/\∀a∈S,∀vs,H a=some (.lst vs)->∃o,H' a=some (.frz o (.lst vs))
theorem sI.refl(H:Hp):sI H H []:=⟨λ_ _ _ e=>e,λ_ _=>rfl,λ_ h=>by simp at h⟩
mutual
theorem LD:∀(l:L){gV:List (Addr×Obj)}{σ0:St}{s:Shared}{Pr H:Hp}{σ:St}{Z:Ev}{v:Option V}{x:D},Oq X gV σ0 H s->aA X.K Pr H (v::σ) (l::Z)->cJ l=some x->∃H',Oq X gV σ0 H' s/\aA X.K Pr H' (v::σ) (.d x::Z)/\sI H H' (bR l)
 |.un,_,_,_,_,_,_,_,_,_,_,_,h=>by simp[cJ]at h
 |.dic _ _,_,_,_,_,_,_,_,_,_,_,_,h=>by simp[cJ]at h
 | .d y,_,_,_,_,_,_,_,_,_,I,E,h=>by
  simp only[cJ,Option.some.injEq]at h
  subst h
  exact⟨_,I,E,sI.refl _⟩
 | .own a xs,_,_,_,_,H,σ,Z,v,_,I,E,h=>by
  simp only[cJ,Option.some.injEq]at h
  subst h
  have sl:=E.sl
  cases sl with
  | cons q t =>
   simp only[bI]at q
   obtain⟨e0,vs,ha,r⟩:=q
   obtain⟨o,I'⟩:=I.freezeL ha
   refine⟨_,I',E.freeze ha o,λb u pu eb=>?_,λb hb=>?_,λb hb vs' eb=>?_⟩
   .
    rw[aD];exact eb
    rintro rfl
    rw[ha]at eb;cases eb;exact pu
   .
    rw[aD]
    rintro rfl
    exact hb (by simp[bR])
   .
    have e:b=a:=by simpa[bR]using hb
    subst e
    rw[ha]at eb;cases eb
    exact⟨o,aY⟩
 | .bx none ls,_,_,_,Pr,H,σ,Z,v,x,I,E,h=>by
  simp only[cJ,Option.map_eq_some_iff]at h
  obtain⟨xs,h,rfl⟩:=h
  obtain⟨a,vs,rfl,ha,hl,E1⟩:=E.openT
  obtain⟨H',I',E',F⟩:=GW ls hl I E1 h
  have hxl:=g7 h
  obtain⟨s1,s2⟩:=Paired.unapp (by simp[hl,hxl]) E'.sl
  refine⟨H',I',(E'.drop (by simp[hl,hxl])).cons_d (.tup (ha.pres F.1) (w4 s1)),F.1,λb hb=>F.2.1 b ?_,λb hb=>F.2.2 b ?_⟩
  .
   simpa[bR,eS]using hb
  .
   simpa[bR,eS]using hb
 | .bx (some a) ls,_,_,_,Pr,H,σ,Z,v,x,I,E,h=>by
  simp only[cJ,Option.map_eq_some_iff]at h
  obtain⟨xs,h,rfl⟩:=h
  obtain⟨vs,rfl,ha,hl,hn,hp,E1⟩:=E.openO
  obtain⟨H',I',E',F⟩:=GW ls hl I E1 h
  have hxl:=g7 h
  have hal:a∉owns ls:=λz=>hn (by rw[aK];exact List.mem_append_left _ z)
  have haρ:a∉owns Z:=λz=>hn (by rw[aK];exact List.mem_append_right _ z)
  have ha':H' a=some (.lst vs):=(F.2.1 a hal).trans ha
  obtain⟨s1,s2⟩:=Paired.unapp (by simp[hl,hxl]) E'.sl
  have E2:=E'.drop (by simp[hl,hxl])
  have E3:aA X.K Pr H' (some (.ref a)::σ) (.own a xs::Z):=by
   refine⟨E2.sub,?_,λb hb=>?_,.cons ?_ E2.sl⟩
   .
    rw[aS];exact List.nodup_cons.mpr ⟨haρ,E2.nd⟩
   .
    rw[aS]at hb
    rcases SK.mp hb with z|z
    .
     rw[z];exact hp
    .
     exact E2.off b z
   .
    unfold bI
    exact⟨rfl,vs,ha',w4 s1⟩
  obtain⟨o,I2⟩:=I'.freezeL ha'
  refine⟨_,I2,E3.freeze ha' o,λb u pu e=>?_,λb hb=>?_,λb hb vs' eb=>?_⟩
  .
   rw[aD];exact F.1 b u pu e
   rintro rfl
   rw[ha]at e;cases e;exact pu
  .
   have hb':b≠a/\b∉owns ls:=by simpa[bR,eS,not_or]using hb
   rw[aD hb'.1]
   exact F.2.1 b hb'.2
  .
   by_cases hba:b=a
   .
    subst hba
    rw[ha]at eb;cases eb
    exact⟨o,aY⟩
   .
    have hb':b∈owns ls:=by
     rcases(by simpa[bR,eS]using hb:b=a∨b∈owns ls)with z|z
     .
      exact absurd z hba
     .
      exact z
    rw[aD hba]
    exact F.2.2 b hb' vs' eb
theorem GW:∀(ls:List L){gV:List (Addr×Obj)}{σ0:St}{s:Shared}{Pr H:Hp}{σ:St}{Z:Ev}{vs:List V}{xs:List D},vs.length=ls.length->Oq X gV σ0 H s->aA X.K Pr H (vs.map some++σ) (ls++Z)->cY ls=some xs->∃H',Oq X gV σ0 H' s/\aA X.K Pr H' (vs.map some++σ) (xs.map .d++Z)/\sI H H' (owns ls)
 | [],_,_,_,_,_,_,_,vs,xs,hl,I,E,h=>by
  simp only[cY,Option.some.injEq]at h
  subst h
  cases vs with
  |nil=>exact⟨_,I,E,sI.refl _⟩
  |cons _ _=>simp at hl
 | l::ls,_,_,_,Pr,H,σ,Z,vs,xs,hl,I,E,h=>by
  simp only[cY]at h
  split at h
  rotate_left
  .
   cases h
  rename_i x ys h1 h2
  cases h
  cases vs with
  |nil=>simp at hl
  | cons v vs =>
   have hl':vs.length=ls.length:=by simpa using hl
   obtain⟨H1,I1,E1,F1⟩:=LD l I E h1
   have E2:aA X.K (bF H1 (ls++Z)) H1 (vs.map some++σ) (ls++Z):=(E1.drop (τ:=[some v]) (lam:=[.d x]) rfl).wide
   obtain⟨H2,I2,E3,F2⟩:=GW ls hl' I1 E2 h2
   have hyl:=g7 h2
   have E4:aA X.K Pr H2 (some v::(vs.map some++σ)) (.d x::(ys.map .d++Z)):=by
    have z:=aA.step (τ:=[some v]) (lam:=[.d x]) (w:=[]) (μ:=[]) (σ':=vs.map some++σ) (Z':=ys.map .d++Z) E1 rfl E3 rfl
    exact z
   refine⟨H2,I2,E4,λb u pu e=>F2.1 b u pu (F1.1 b u pu e),λb hb=>?_,λb hb vs' eb=>?_⟩
   .
    rw[aI]at hb
    rw[F2.2.1 b (λz=>hb (List.mem_append_right _ z)),F1.2.1 b (λz=>hb (List.mem_append_left _ z))]
   .
    rw[aI]at hb
    rcases List.mem_append.mp hb with z|z
    .
     obtain⟨o,eo⟩:=F1.2.2 b z vs' eb
     exact⟨o,F2.1 b _ True.intro eo⟩
    .
     have hn:b∉bR l:=λz'=>by
      have nd:=E.nd
      rw[List.cons_append,aI,aK]at nd
      exact(List.nodup_append.mp nd).2.2 b z' b (List.mem_append_left _ z) rfl
     exact F2.2.2 b z vs' ((F1.2.1 b hn).trans eb)
end
theorem EL.frz{gV:List (Addr×Obj)}{σ:St}{Pr:Hp}{p4:D->Ev->Prop}{u:Value}{s':Shared}(h:EL X gV σ Pr (λr Z=>Pb r λx=>p4 x Z) u s') :
  ∃v H' x Z',Oq X gV σ H' s'/\bU v u/\aA X.K Pr H' (some v::σ) (.d x::Z')/\p4 x Z':=by
 obtain⟨v,H',r,Z',I,rv,E,p⟩:=h
 cases r with
 |un=>exact p.elim
 |d x=>exact⟨v,H',x,Z',I,rv,E,p⟩
 | own a xs =>
  obtain⟨H2,I2,E2,_⟩:=LD (.own a xs) I E rfl;exact⟨v,H2,.lst xs,Z',I2,rv,E2,p⟩
 | bx a ls =>
  obtain⟨x,ex,p⟩:=Bg p;obtain⟨H2,I2,E2,_⟩:=LD (.bx a ls) I E ex;exact⟨v,H2,x,Z',I2,rv,E2,p⟩
 |dic a kvs=>exact p.elim
def bE(t:W L):W L:=λZ p4=>t Z λr Z1=>Pb r λx=>p4 (.d x) Z1
theorem az{t:W L}(h:PL X e t):PL X e (bE t):=λgV s σ H Pr Z p4 I E ht =>
 Ot (h gV s σ H Pr Z _ I E ht) λu s1 q=>by obtain⟨v,H',x,Z',I',rv,E',p⟩:=EL.frz (p4:=λx Z=>p4 (.d x) Z) q;exact⟨v,H',.d x,Z',I',rv,E',p⟩
theorem aA.head_d{K:PySem.W.Frag}{Pr H:Hp}{v:Option V}{σ:St}{x:D}{Z:Ev}(E:aA K Pr H (v::σ) (.d x::Z)):∃w,v=some w/\O8 K H w x:=by
 have sl:=E.sl
 cases sl with
 |cons q t=>exact q
theorem aA.tail{K:PySem.W.Frag}{Pr H:Hp}{v:Option V}{σ:St}{l:L}{Z:Ev}(E:aA K Pr H (v::σ) (l::Z)):aA K Pr H σ Z:=aA.drop (τ:=[v]) (lam:=[l]) E rfl
theorem two{gV:List (Addr×Obj)}{s:Shared}{σ:St}{H Pr:Hp}{Z:Ev}{R:D->D->Ev->Prop}(ha:PL X a ta)(hb:PL X b tb)(I:Oq X gV σ H s)(E:aA X.K Pr H σ Z)
  (h:ta Z λx Z1=>Pb x λdx=>tb Z1 λy Z2=>Pb y λdy=>R dx dy Z2) {α:Type} {Q:α->Shared->Prop} {f:Value->Value->Sem α}
  (hf:∀v u s2 x y H2 dx dy Z2,Oq X gV σ H2 s2->bU x v->bU y u->aA X.K Pr H2 (some y::some x::σ) (.d dy::.d dx::Z2)->O8 X.K H2 x dx->O8 X.K H2 y dy->R dx dy Z2->wpAny (model X.prog X.w) X.A (f v u) Q X.xe s2) :
  wpAny (model X.prog X.w) X.A (eval a X.env) (λv s₁=>wpAny (model X.prog X.w) X.A (eval b X.env) (λu s₂=>wpAny (model X.prog X.w) X.A (f v u) Q X.xe s₂) X.xe s₁) X.xe s:=by
 refine Ot (ha gV s σ H Pr Z _ I E h) λv s1 q=>?_;obtain⟨x,H1,dx,Z1,I1,r1,E1,q1⟩:=EL.frz (p4:=λdx Z1=>tb Z1 λy Z2=>Pb y λdy=>R dx dy Z2) q;refine Ot (hb gV s1 σ H1 _ Z1 _ I1 E1.tail.wide q1) λu s2 q=>?_;obtain⟨y,H2,dy,Z2,I2,r2,E2,q2⟩:=EL.frz (p4:=λdy Z2=>R dx dy Z2) q;have E3:aA X.K Pr H2 (some y::some x::σ) (.d dy::.d dx::Z2):=aA.step (τ:=[some x]) (lam:=[.d dx]) (w:=[some y]) (μ:=[.d dy]) E1 rfl E2 rfl;obtain⟨_,e1,p1⟩:=E3.head_d;obtain⟨_,e2,p2⟩:=E3.tail.head_d;cases e1;cases e2;exact hf v u s2 x y H2 dx dy Z2 I2 r1 r2 E3 p2 p1 q2
abbrev Pc:=D->D->(L->Prop)->Prop
def Pd(X:Cx)(f:Value->Value->Sem Value)(op:Pc):Prop :=
 ∀(gV:List (Addr×Obj))(s:Shared)(σ:St)(H Pr:Hp)(Z:Ev)(x y:V)(v u:Value)(dx dy:D)(p4:L->Prop),Oq X gV σ H s->bU x v->bU y u->aA X.K Pr H σ Z->O8 X.K H x dx->O8 X.K H y dy->op dx dy p4 ->
  wpAny (model X.prog X.w) X.A (f v u) (λw s'=>∃z H' r,Oq X gV σ H' s'/\bU z w/\aA X.K Pr H' (some z::σ) (r::Z)/\p4 r) X.xe s
theorem Pd.of{f:Value->Value->Sem Value}{r:R2}{op:Pc}(h:OI X f r)(q:∀σ H Pr Z x y dx dy p4,aA X.K Pr H σ Z->O8 X.K H x dx->O8 X.K H y dy->op dx dy p4->r x y H λz H'=>∃r,aA X.K Pr H' (some z::σ) (r::Z)/\p4 r):Pd X f op :=
 λgV s σ H Pr Z x y v u dx dy p4 I rx ry E px py ho=>Ot (h gV s σ H x y v u _ I rx ry (q σ H Pr Z x y dx dy p4 E px py ho)) λw s' ⟨z,H',I',rz,r,E',p⟩=>⟨z,H',r,I',rz,E',p⟩
theorem Pd.imp{f:Value->Value->Sem Value}{o1 o2:Pc}(h1:Pd X f o1)(h:∀x y p,o2 x y p->o1 x y p):Pd X f o2 :=
 λgV s σ H Pr Z x y v u dx dy p4 I rx ry E px py ho=>h1 gV s σ H Pr Z x y v u dx dy p4 I rx ry E px py (h _ _ _ ho)
def au(op:Pc)(ta tb:W L):W L:=λZ p4=>ta Z λx Z1=>Pb x λdx=>tb Z1 λy Z2=>Pb y λdy=>op dx dy λr=>p4 r Z2
theorem ax{op:Operator}{o:Pc}(ho:Pd X (binaryOp op) o)(ha:PL X a ta)(hb:PL X b tb):PL X (.BinOp a op b pos) (au o ta tb):=λgV s σ H Pr Z p4 I E h =>
 wpAny_BinOp (two (R:=λdx dy Z2=>o dx dy λr=>p4 r Z2) ha hb I E h λv u s2 x y H2 dx dy Z2 I2 r1 r2 E2 p1 p2 q =>
  Ot (ho gV s2 σ H2 Pr Z2 x y v u dx dy _ I2 r1 r2 E2.tail.tail p1 p2 q) λw s3 ⟨z,H3,r,I3,rz,E3,p⟩=>⟨z,H3,r,Z2,I3,rz,E3,p⟩)
theorem bV{op:CmpOp}{o:Pc}(ho:Pd X (compareOp op) o)(ha:PL X a ta)(hb:PL X b tb)(hm:behindInMarks op b=false):PL X (.Compare a [op] [b] pos) (au o ta tb):=λgV s σ H Pr Z p4 I E h =>
 wpAny_Compare1 (two (R:=λdx dy Z2=>o dx dy λr=>p4 r Z2) ha hb I E h λv u s2 x y H2 dx dy Z2 I2 r1 r2 E2 p1 p2 q =>
  Ot (ho gV s2 σ H2 Pr Z2 x y v u dx dy _ I2 r1 r2 E2.tail.tail p1 p2 q) λw s3 ⟨z,H3,r,I3,rz,E3,p⟩=>⟨z,H3,r,Z2,I3,rz,E3,p⟩) hm
def wC(x:D):W L:=λZ p4=>p4 (.d x) Z
theorem ah {i j pos}:PL X (.Constant (.int i) j pos) (wC (.int i)):=PL.of Jx λσ H Pr Z p4 E h=>⟨_,_,E.cons_d (.int i),h⟩
theorem w5 {b j pos}:PL X (.Constant (.bool b) j pos) (wC (.bl b)):=PL.of Mb λσ H Pr Z p4 E h=>⟨_,_,E.cons_d (.bl b),h⟩
theorem pS {j pos}:PL X (.Constant .none j pos) (wC .non):=PL.of Jy λσ H Pr Z p4 E h=>⟨_,_,E.cons_d .non,h⟩
theorem cm {x j pos}:PL X (.Constant (.str x) j pos) (wC (.str x)):=PL.of AQ λσ H Pr Z p4 E h=>⟨_,_,E.cons_d (.str x),h⟩
def JZ(o:Option L)(i:Nat)(Z:Ev)(p4:L->Ev->Prop):Prop:=match o with
 |some (.d x)=>p4 (.d x) Z
 |some (.own _ xs)=>p4 (.d (.lst xs)) (Z.set i (.d (.lst xs)))
 |some (.bx a ls)=>AG a ls λx=>p4 (.d x) (Z.set i (.d x))
 |_=>False
def ak(i:Nat):W L:=λZ p4=>JZ Z[i]? i Z p4
theorem J0(x:D)(i:Nat)(Z:Ev)(p4:L->Ev->Prop):JZ (some (.d x)) i Z p4=p4 (.d x) Z:=(rfl)
theorem DM(a:Addr)(xs:List D)(i:Nat)(Z:Ev)(p4:L->Ev->Prop):JZ (some (.own a xs)) i Z p4=p4 (.d (.lst xs)) (Z.set i (.d (.lst xs))):=(rfl)
theorem GX(a:Option Addr)(ls:List L)(i:Nat)(Z:Ev)(p4:L->Ev->Prop):JZ (some (.bx a ls)) i Z p4=AG a ls λx=>p4 (.d x) (Z.set i (.d x)):=(rfl)
theorem aA.slot{K:PySem.W.Frag}{Pr H:Hp}{σ:St}{Z:Ev}{i:Nat}{l:L}(E:aA K Pr H σ Z)(h:Z[i]?=some l):∃s,σ[i]?=some s/\bI K H s l:=Paired.get2 E.sl h
theorem ae(i:Nat){x:Str}{pos:Pos}(hN:X.N[i]?=some x:=by rfl)(hv:On X.env.scope x:=by first | exact Or.inl rfl | exact Or.inr (Or.inl rfl) | exact Or.inr (Or.inr rfl)) (hd:(x == ("__debug__" : Str))=false:=by decide)
  (hcd:(x == ("__classdict__" : Str))=false:=by decide):PL X (.Name x pos) (ak i):=by
 intro gV s σ H Pr Z p4 I E h;unfold ak JZ at h
 cases q:Z[i]? with
 |none=>rw[q]at h;exact h.elim
 | some l =>
  rw[q]at h;obtain⟨sv,hs,sl⟩:=E.slot q
  cases l with
  |un=>exact h.elim
  |dic a kvs=>exact h.elim
  | d y =>
   obtain⟨v,rfl,r⟩:=sl;exact Ot (cR hN hv hd hcd gV s σ H (λw H'=>w=v/\H'=H) I ⟨v,hs,rfl,rfl⟩) λu s1 ⟨w,H1,I1,r1,e1,e2⟩=>by subst e1 e2;exact⟨w,H1,_,Z,I1,r1,E.cons_d r,h⟩
  | own a xs =>
   obtain⟨rfl,vs,ha,r⟩:=sl;refine Ot (cR hN hv hd hcd gV s σ H (λw H'=>w=.ref a/\H'=H) I ⟨.ref a,hs,rfl,rfl⟩) λu s1 jqz=>?_;obtain⟨w,H1,I1,r1,e1,e2⟩:=jqz;subst e1 e2;obtain⟨o,I2⟩:=I1.freezeL ha;have E2:=(E.out q).freeze ha o;have hi:i<Z.length:=(SB.mp q).1;have E3:=E2.back (i:=i) (by simp[hi]) hs;rw[List.set_set]at E3;obtain⟨_,e,p⟩:=E2.head_d;cases e;exact⟨_,_,_,_,I2,r1,E3.cons_d p,h⟩
  | bx a ls =>
   obtain⟨y,ey,h⟩:=Bg h
   have hv':∃b,sv=some (.ref b):=by
    cases a with
    |none=>simp only[bI]at sl;obtain⟨b,_,e,_⟩:=sl;exact⟨b,e⟩
    |some b=>simp only[bI]at sl;exact⟨b,sl.1⟩
   obtain⟨b,rfl⟩:=hv';refine Ot (cR hN hv hd hcd gV s σ H (λw H'=>w=.ref b/\H'=H) I ⟨.ref b,hs,rfl,rfl⟩) λu s1 jqz=>?_;obtain⟨w,H1,I1,r1,e1,e2⟩:=jqz;subst e1 e2;obtain⟨H2,I2,E2,_⟩:=LD (.bx a ls) I1 (E.outL q hs) ey;have hi:i<Z.length:=(SB.mp q).1;have E3:=E2.back (i:=i) (by simp[hi]) hs;rw[List.set_set]at E3;obtain⟨_,e,p⟩:=E2.head_d;cases e;exact⟨_,_,_,_,I2,r1,E3.cons_d p,h⟩
def J1(o:Option L)(i:Nat)(Z:Ev)(p4:L->Ev->Prop):Prop:=match o with
 |some (.d x)=>p4 (.d x) Z
 |some (.own a xs)=>p4 (.own a xs) (Z.set i .un)
 |some (.bx a ls)=>p4 (.bx a ls) (Z.set i .un)
 |_=>False
def pT(i:Nat):W L:=λZ p4=>J1 Z[i]? i Z p4
theorem J2(x:D)(i:Nat)(Z:Ev)(p4:L->Ev->Prop):J1 (some (.d x)) i Z p4=p4 (.d x) Z:=(rfl)
theorem DN(a:Addr)(xs:List D)(i:Nat)(Z:Ev)(p4:L->Ev->Prop):J1 (some (.own a xs)) i Z p4=p4 (.own a xs) (Z.set i .un):=(rfl)
theorem GY(a:Option Addr)(ls:List L)(i:Nat)(Z:Ev)(p4:L->Ev->Prop):J1 (some (.bx a ls)) i Z p4=p4 (.bx a ls) (Z.set i .un):=(rfl)
theorem i8(i:Nat){x:Str}{pos:Pos}(hN:X.N[i]?=some x:=by rfl)(hv:On X.env.scope x:=by first | exact Or.inl rfl | exact Or.inr (Or.inl rfl) | exact Or.inr (Or.inr rfl)) (hd:(x == ("__debug__" : Str))=false:=by decide)
  (hcd:(x == ("__classdict__" : Str))=false:=by decide):PL X (.Name x pos) (pT i):=by
 intro gV s σ H Pr Z p4 I E h;unfold pT J1 at h
 cases q:Z[i]? with
 |none=>rw[q]at h;exact h.elim
 | some l =>
  rw[q]at h;obtain⟨sv,hs,sl⟩:=E.slot q
  cases l with
  |un=>exact h.elim
  |dic a kvs=>exact h.elim
  | d y =>
   obtain⟨v,rfl,r⟩:=sl;exact Ot (cR hN hv hd hcd gV s σ H (λw H'=>w=v/\H'=H) I ⟨v,hs,rfl,rfl⟩) λu s1 ⟨w,H1,I1,r1,e1,e2⟩=>by subst e1 e2;exact⟨w,H1,_,Z,I1,r1,E.cons_d r,h⟩
  | own a xs =>
   obtain⟨rfl,vs,ha,r⟩:=sl;refine Ot (cR hN hv hd hcd gV s σ H (λw H'=>w=.ref a/\H'=H) I ⟨.ref a,hs,rfl,rfl⟩) λu s1 jqz=>?_;obtain⟨w,H1,I1,r1,e1,e2⟩:=jqz;subst e1 e2;exact⟨_,_,_,_,I1,r1,E.out q,h⟩
  | bx a ls =>
   have hv':∃b,sv=some (.ref b):=by
    cases a with
    |none=>simp only[bI]at sl;obtain⟨b,_,e,_⟩:=sl;exact⟨b,e⟩
    |some b=>simp only[bI]at sl;exact⟨b,sl.1⟩
   obtain⟨b,rfl⟩:=hv';refine Ot (cR hN hv hd hcd gV s σ H (λw H'=>w=.ref b/\H'=H) I ⟨.ref b,hs,rfl,rfl⟩) λu s1 jqz=>?_;obtain⟨w,H1,I1,r1,e1,e2⟩:=jqz;subst e1 e2;exact⟨_,_,_,_,I1,r1,E.outL q hs,h⟩
theorem GZ{x:Str}{v:V}{u:Value}{y:D}{pos:Pos}(hg:Gl X x)(hm:X.mg x=some u)(r:bU v u)(hy:∀ H,O8 X.K H v y) (hd:(x == ("__debug__" : Str))=false:=by decide):PL X (.Name x pos) (wC y) :=
 PL.of (GE hg hm r hd) λσ H Pr Z p4 E h=>⟨_,_,E.cons_d (hy H),h⟩
def AH:L->(Bool->Prop)->Prop
 |.d (.bl b),k=>k b
 |_,_=>False
def aZ(t:W L):W Bool:=λZ p4=>t Z λr Z1=>AH r λb=>p4 b Z1
theorem tP{r:L}{k:Bool->Prop}(h:AH r k):∃b,r=.d (.bl b)/\k b:=by
 cases r with
 | d x=>cases x with
  |bl b=>exact⟨b,rfl,h⟩
  |_=>exact h.elim
 |_=>exact h.elim
theorem iL{t:W L}(h:PL X e t)(he:∀whole,isTrue e X.env whole=(do let v <- whole;standAt e.pos;holding [v] (truthy v)):=by intro _;rfl):PB X e (aZ t):=by intro gV s σ H Pr Z p4 I E ht;rw[he];refine kS (Ot (h gV s σ H Pr Z _ I E ht) λu s1 ⟨v,H1,r,Z1,I1,rv,E1,p⟩=>kS (wpAny_standAt (wpAny_holding ?_)));obtain⟨b,rfl,p⟩:=tP p;obtain⟨_,e1,p1⟩:=E1.head_d;cases e1;cases p1;cases rv;exact wpAny_truthy_bool ⟨H1,Z1,I1,E1.tail,p⟩
end
section
variable{X:Cx}{e a b c:Expr}{cL:List Expr}{pos:Pos}{ta tb:W L}{tA tB:W Bool}
def Pe(X:Cx)(e:Expr)(t:W Bool):Prop :=
 ∀(whole:Sem Value)(gV:List (Addr×Obj))(s:Shared)(σ:St)(H Pr:Hp)(Z:Ev)(p4:Bool->Ev->Prop),Oq X gV σ H s->aA X.K Pr H σ Z->t Z p4->wpAny (model X.prog X.w) X.A (isTrue e X.env whole) (EB X gV σ Pr p4) X.xe s
theorem Pe.pb{t:W Bool}(h:Pe X e t):PB X e t:=h _
def DO(t u:W Bool):W Bool:=λZ p4=>t Z λc Z1=>if c=true then u Z1 p4 else p4 false Z1
def Pf(t u:W Bool):W Bool:=λZ p4=>t Z λc Z1=>if c=true then p4 true Z1 else u Z1 p4
def LF(t:W Bool):W Bool:=λZ p4=>t Z λc Z1=>p4 (!c) Z1
theorem g8(ha:PB X a tA):Pe X (.BoolOp .And [a] pos) tA:=by
 intro wh gV s σ H Pr Z p4 I E h;refine isTrue_and (Ot (ha gV s σ H Pr Z p4 I E h) λc s1 e=>?_)
 cases c with
 |true=>exact isTrue_and_nil e
 |false=>exact e
theorem pV(ha:PB X a tA):Pe X (.BoolOp .Or [a] pos) tA:=by
 intro wh gV s σ H Pr Z p4 I E h;refine isTrue_or (Ot (ha gV s σ H Pr Z p4 I E h) λc s1 e=>?_)
 cases c with
 |false=>exact isTrue_or_nil e
 |true=>exact e
theorem la(ha:PB X a tA)(hb:Pe X (.BoolOp .And (b::cL) pos) tB):Pe X (.BoolOp .And (a::b::cL) pos) (DO tA tB):=by
 intro wh gV s σ H Pr Z p4 I E h;refine isTrue_and (Ot (ha gV s σ H Pr Z _ I E h) λc s1 jqz=>?_);obtain⟨H1,Z1,I1,E1,q1⟩:=jqz
 cases c with
 |true=>exact hb wh gV s1 σ H1 Pr Z1 p4 I1 E1 q1
 |false=>exact⟨H1,Z1,I1,E1,q1⟩
theorem vk(ha:PB X a tA)(hb:Pe X (.BoolOp .Or (b::cL) pos) tB):Pe X (.BoolOp .Or (a::b::cL) pos) (Pf tA tB):=by
 intro wh gV s σ H Pr Z p4 I E h;refine isTrue_or (Ot (ha gV s σ H Pr Z _ I E h) λc s1 jqz=>?_);obtain⟨H1,Z1,I1,E1,q1⟩:=jqz
 cases c with
 |true=>exact⟨H1,Z1,I1,E1,q1⟩
 |false=>exact hb wh gV s1 σ H1 Pr Z1 p4 I1 E1 q1
theorem F4(ha:PB X a tA):PB X (.UnaryOp .Not a pos) (LF tA):=by intro gV s σ H Pr Z p4 I E h;exact isTrue_not (ha gV s σ H Pr Z (λc Z1=>p4 (!c) Z1) I E h)
theorem Pg{op:CmpOp}{o:Pc}(ho:Pd X (compareOp op) o)(ha:PL X a ta)(hb:PL X b tb)(hm:behindInMarks op b=false):PB X (.Compare a [op] [b] pos) (aZ (au o ta tb)):=by intro gV s σ H Pr Z p4 I E h;refine wpAny_isTrue_Compare1 (two (R:=λdx dy Z2=>o dx dy λr=>AH r λb=>p4 b Z2) ha hb I E h λv u s2 x y H2 dx dy Z2 I2 r1 r2 E2 p1 p2 q=>?_) hm;refine Ot (ho gV s2 σ H2 Pr Z2 x y v u dx dy _ I2 r1 r2 E2.tail.tail p1 p2 q) λw s3 jqz=>?_;obtain⟨z,H3,r,I3,rz,E3,p⟩:=jqz;obtain⟨b,rfl,p⟩:=tP p;obtain⟨_,e1,p1⟩:=E3.head_d;cases e1;cases p1;cases rz;exact wpAny_truthy_bool ⟨H3,Z2,I3,E3.tail,p⟩
def ma(ta tb:W L):W L:=λZ p4=>ta Z λr Z1=>AH r λc=>if c=true then tb Z1 p4 else p4 (.d (.bl false)) Z1
def J3(ta tb:W L):W L:=λZ p4=>ta Z λr Z1=>AH r λc=>if c=true then p4 (.d (.bl true)) Z1 else tb Z1 p4
def G0(t:W Bool):W L:=λZ p4=>t Z λc Z1=>p4 (.d (.bl (!c))) Z1
theorem iM {op} {t:W L} (h:PL X a t):PL X (.BoolOp op [a] pos) t:=λgV s σ H Pr Z p4 I E hw=>BoolOp_one (h gV s σ H Pr Z p4 I E hw)
theorem EL.bl{gV:List (Addr×Obj)}{σ:St}{Pr:Hp}{p4:Bool->Ev->Prop}{u:Value}{s':Shared}(h:EL X gV σ Pr (λr Z=>AH r λb=>p4 b Z) u s') :
  ∃H' b Z',u=.bool b/\Oq X gV σ H' s'/\aA X.K Pr H' σ Z'/\p4 b Z':=by
 obtain⟨v,H',r,Z',I,rv,E,p⟩:=h;obtain⟨b,rfl,p⟩:=tP p;obtain⟨_,e1,p1⟩:=E.head_d;cases e1;cases p1;cases rv;exact⟨H',b,Z',rfl,I,E.tail,p⟩
theorem iN(ha:PL X a ta)(hb:PL X (.BoolOp .And (b::cL) pos) tb):PL X (.BoolOp .And (a::b::cL) pos) (ma ta tb):=by
 intro gV s σ H Pr Z p4 I E h;refine BoolOp_and (Ot (ha gV s σ H Pr Z _ I E h) λv s1 q=>?_)
 obtain⟨H1,c,Z1,rfl,I1,E1,q1⟩:=EL.bl (p4:=λc Z1=>if c=true then tb Z1 p4 else p4 (.d (.bl false)) Z1) q
 refine wpAny_truthy_bool ?_
 cases c with
 |true=>exact hb gV s1 σ H1 Pr Z1 p4 I1 E1 q1
 |false=>exact⟨.bl false,H1,_,Z1,I1,rfl,E1.cons_d (.bl false),q1⟩
theorem G1(ha:PL X a ta)(hb:PL X (.BoolOp .Or (b::cL) pos) tb):PL X (.BoolOp .Or (a::b::cL) pos) (J3 ta tb):=by
 intro gV s σ H Pr Z p4 I E h;refine BoolOp_or (Ot (ha gV s σ H Pr Z _ I E h) λv s1 q=>?_)
 obtain⟨H1,c,Z1,rfl,I1,E1,q1⟩:=EL.bl (p4:=λc Z1=>if c=true then p4 (.d (.bl true)) Z1 else tb Z1 p4) q
 refine wpAny_truthy_bool ?_
 cases c with
 |false=>exact hb gV s1 σ H1 Pr Z1 p4 I1 E1 q1
 |true=>exact⟨.bl true,H1,_,Z1,I1,rfl,E1.cons_d (.bl true),q1⟩
theorem J4(ha:PL X a ta):PL X (.UnaryOp .Not a pos) (G0 (aZ ta)):=by intro gV s σ H Pr Z p4 I E h;refine UnaryOp_ (Ot (ha gV s σ H Pr Z _ I E h) λv s1 q=>?_);obtain⟨H1,c,Z1,rfl,I1,E1,q1⟩:=EL.bl (p4:=λc Z1=>p4 (.d (.bl (!c))) Z1) q;exact not_of (wpAny_truthy_bool ⟨.bl (!c),H1,_,Z1,I1,rfl,E1.cons_d (.bl _),q1⟩)
def J5(t:W Bool)(ta tb:W L):W L:=λZ p4=>t Z λc Z1=>if c=true then ta Z1 p4 else tb Z1 p4
theorem Bj(hc:PB X c tA)(ha:PL X a ta)(hb:PL X b tb):PL X (.IfExp c a b pos) (J5 tA ta tb):=by
 intro gV s σ H Pr Z p4 I E h;refine wpAny_IfExp (Ot (hc gV s σ H Pr Z _ I E h) λd s1 jqz=>?_);obtain⟨H1,Z1,I1,E1,q1⟩:=jqz
 cases d with
 |true=>exact ha gV s1 σ H1 Pr Z1 p4 I1 E1 q1
 |false=>exact hb gV s1 σ H1 Pr Z1 p4 I1 E1 q1
def Ph(op:D->(L->Prop)->Prop)(t:W L):W L:=λZ p4=>t Z λx Z1=>Pb x λdx=>op dx λr=>p4 r Z1
def DP:D->(L->Prop)->Prop
 |.int i,k=>k (.d (.int (-i)))
 |_,_=>False
theorem J6(ha:PL X a ta):PL X (.UnaryOp .USub a pos) (Ph DP ta):=by
 intro gV s σ H Pr Z p4 I E h;refine UnaryOp_ (Ot (ha gV s σ H Pr Z _ I E h) λv s1 q=>?_);obtain⟨x,H1,dx,Z1,I1,r1,E1,q1⟩:=EL.frz (p4:=λdx Z1=>DP dx λr=>p4 r Z1) q;obtain⟨_,e1,p1⟩:=E1.head_d;cases e1
 cases p1 with
 | int i =>
  exact Ot (JI gV s1 σ H1 _ v (λw H'=>w=.int (-i)/\H'=H1) I1 r1 ⟨i,rfl,rfl,rfl⟩) λu s2 ⟨w,H2,I2,r2,e1,e2⟩=>by subst e1 e2;exact⟨_,_,_,Z1,I2,r2,E1.tail.cons_d (.int _),q1⟩
 |_=>exact q1.elim
variable{st:Stmt}{sts:List Stmt}{t u:W Fl}
def c8:W Fl:=λZ p4=>p4 .nx Z
def aT(t u:W Fl):W Fl:=λZ p4=>t Z λf Z1=>match f with
 |.nx=>u Z1 p4
 |f=>p4 f Z1
theorem bj:Pa X [] c8:=λ_ _ σ H Pr Z p4 I E h=>wpAny_execs_nil ⟨σ,H,Z,I,E,h⟩
theorem ai(h1:PM X st t)(h2:Pa X sts u):Pa X (st::sts) (aT t u):=by
 intro gV s σ H Pr Z p4 I E h;refine wpAny_execs_cons (Ot (h1 gV s σ H Pr Z _ I E h) λf s1 q=>?_)
 cases f with
 | next =>
  obtain⟨σ',H',Z',I',E',q⟩:=q;exact h2 gV s1 σ' H' Pr Z' p4 I' E' q
 |ret v=>exact q
 |brk=>exact q
 |cont=>exact q
theorem aq(h1:PM X st t):Pa X [st] t:=by
 intro gV s σ H Pr Z p4 I E h;refine wpAny_execs_cons (Ot (h1 gV s σ H Pr Z _ I E h) λf s1 q=>?_)
 cases f with
 |next=>exact wpAny_execs_nil q
 |ret v=>exact q
 |brk=>exact q
 |cont=>exact q
def nJ(t:W L):W Fl:=λZ p4=>t Z λ_ Z1=>p4 .nx Z1
theorem g9{te:W L}(he:PL X e te)(hs:swapsWith e none pos.line X.env=pure false:=by rfl):PM X (.Expr e pos) (nJ te):=by intro gV s σ H Pr Z p4 I E h;exact wpAny_Expr_any (Ot (he gV s σ H Pr Z _ I E h) λv s1 ⟨x,H1,r,Z1,I1,r1,E1,q1⟩=>⟨σ,H1,Z1,I1,E1.tail,q1⟩) I.quiet hs
def cQ(t:W L):W Fl:=λZ p4=>t Z λr Z1=>p4 (.rt r) Z1
theorem aL{te:W L}(he:PL X e te):PM X (.Return (some e) pos) (cQ te):=by intro gV s σ H Pr Z p4 I E h;exact wpAny_Return_some (Ot (he gV s σ H Pr Z _ I E h) λv s1 ⟨x,H1,r,Z1,I1,r1,E1,q1⟩=>⟨x,σ,H1,r,Z1,σ,I1,r1,E1,q1⟩)
def Pi(c:W Bool)(t u:W Fl):W Fl:=λZ p4=>c Z λb Z1=>if b=true then t Z1 p4 else u Z1 p4
theorem dc{sa sb:List Stmt}(hc:PB X c tA)(ha:Pa X sa t)(hb:Pa X sb u):PM X (.If c sa sb pos) (Pi tA t u):=by
 intro gV s σ H Pr Z p4 I E h;refine wpAny_If (Ot (hc gV s σ H Pr Z _ I E h) λd s1 jqz=>?_);obtain⟨H1,Z1,I1,E1,q1⟩:=jqz
 cases d with
 |true=>exact ha gV s1 σ H1 Pr Z1 p4 I1 E1 q1
 |false=>exact hb gV s1 σ H1 Pr Z1 p4 I1 E1 q1
theorem aA.forget{K:PySem.W.Frag}{Pr H:Hp}{σ:St}{Z:Ev}(E:aA K Pr H σ Z)(i:Nat)(v:Option V):aA K Pr H (σ.set i v) (Z.set i .un):=by
 have hsub:(owns (Z.set i .un)).Sublist (owns Z):=by
  have:∀(Z:Ev)(i:Nat),(owns (Z.set i .un)).Sublist (owns Z):=by
   intro Z
   induction Z with
   |nil=>intro i;exact List.Sublist.refl _
   | cons l Z ih =>
    intro i
    cases i with
    | zero =>
     show(owns Z).Sublist (owns (l::Z));rw[aI];exact List.sublist_append_right _ _
    | succ i =>
     show(owns (l::Z.set i .un)).Sublist (owns (l::Z));rw[aI,aI];exact(List.Sublist.refl _).append (ih i)
  exact this Z i
 exact⟨E.sub,E.nd.sublist hsub,λa h=>E.off a (hsub.subset h),Paired.set2 True.intro i E.sl⟩
theorem aA.store{K:PySem.W.Frag}{Pr H:Hp}{σ:St}{Z:Ev}{v:Option V}{l:L}(E:aA K Pr H (v::σ) (l::Z)){i:Nat}(hi:i<σ.length):aA K Pr H (σ.set i v) (Z.set i l):=by have E1:=E.forget (i+1) v;have E2:aA K Pr H (v::σ.set i v) (l::Z.set i .un):=E1;have hl:=E.tail.len;have E3:=E2.back (i:=i) (by rw[List.getElem?_set_self xL]) (by rw[List.getElem?_set_self hi]);rw[List.set_set]at E3;exact E3
def bo(i:Nat)(t:W L):W Fl:=λZ p4=>t Z λr Z1=>p4 .nx (Z1.set i r)
theorem ay{i:Nat}{x:Str}{te:W L}{pos':Pos}(hN:X.N.Nodup)(hi:X.N[i]?=some x)(hx:Oo X.env.scope x)(he:PL X e te)(hs:swapsWith e (some (.Name x pos')) pos.line X.env=pure false:=by rfl)(hf:X.fn x=true∨X.env.scope.names.lookup x=some .local:=by first|exact .inl rfl|exact .inr rfl|assumption) :
  PM X (.Assign [.Name x pos'] e pos) (bo i te):=by
 intro gV s σ H Pr Z p4 I E h;refine wpAny_Assign_Name (Ot (he gV s σ H Pr Z _ I E h) λv s1 ⟨y,H1,r,Z1,I1,r1,E1,q1⟩=>?_) hs;exact l8 I1 hN hi hx r1 (λs2 I2=>⟨_,H1,_,I2,E1.store (by rw[I1.len];exact(SB.mp hi).1),q1⟩) hf
end
theorem me{a b:Ev}(h:a.Perm b):(owns a).Perm (owns b):=by
 induction h with
 |nil=>exact .refl _
 |cons x _ ih=>rw[aI,aI];exact ih.append_left _
 | swap x y l =>
  rw[aI,aI,aI,aI,<- List.append_assoc,<- List.append_assoc];exact List.Perm.append_right _ List.perm_append_comm
 |trans _ _ h1 h2=>exact h1.trans h2
theorem DQ{a b:Ev}(h:a.Sublist b):(owns a).Sublist (owns b):=by
 induction h with
 |slnil=>exact .refl _
 |cons x _ ih=>rw[aI];exact ih.trans (List.sublist_append_right _ _)
 |cons_cons x _ ih=>rw[aI,aI];exact(List.Sublist.refl _).append ih
def tL(K:PySem.W.Frag)(t:W L):TE:=λσ H Q=>∃Pr Z p4,aA K Pr H σ Z/\t Z p4/\∀v H' r Z',aA K Pr H' (some v::σ) (r::Z')->p4 r Z'->Q v H'
def tW(K:PySem.W.Frag)(t:W Fl):TS:=λD σ H=>∃Pr Z p4,aA K Pr H σ Z/\t Z p4/\(∀σ' H' Z',aA K Pr H' σ' Z'->p4 .nx Z'->D.nx σ' H')/\(∀σ' H' Z',aA K Pr H' σ' Z'->p4 .bk Z'->D.bk σ' H')/\(∀σ' H' Z',aA K Pr H' σ' Z'->p4 .ct Z'->D.ct σ' H') /\
 ∀v τ H' r Z',aA K Pr H' (some v::τ) (r::Z')->p4 (.rt r) Z'->D.rt v H'
noncomputable def Pj(K:PySem.W.Frag)(t:W Bool):TT:=λσ H Q=>∃Pr Z p4,aA K Pr H σ Z/\t Z p4/\∀b H' Z',aA K Pr H' σ Z'->p4 b Z'->Q b H'
section
variable{X:Cx}{e a b:Expr}{es:List Expr}{pos:Pos}{st:Stmt}{sts:List Stmt}{t u:W Fl}
theorem PL.pe{t:W L}(h:PL X e t):PE X e (tL X.K t):=λgV s σ H Q I ⟨Pr,Z,p4,E,ht,q⟩ =>
 Ot (h gV s σ H Pr Z p4 I E ht) λu s1 ⟨v,H1,r,Z1,I1,rv,E1,p⟩=>⟨v,H1,I1,rv,q v H1 r Z1 E1 p⟩
theorem PB.pt{t:W Bool}(h:PB X e t):PT X e (Pj X.K t):=λgV s σ H Q I ⟨Pr,Z,p4,E,ht,q⟩ =>
 Ot (h gV s σ H Pr Z p4 I E ht) λb s1 ⟨H1,Z1,I1,E1,p⟩=>⟨H1,I1,q b H1 Z1 E1 p⟩
theorem Pa.pss(h:Pa X sts t):Os X sts (tW X.K t):=λgV s σ H D I ⟨Pr,Z,p4,E,ht,q1,q2,q3,q4⟩ =>
 Ot (h gV s σ H Pr Z p4 I E ht) λf s1 q=>by
  cases f with
  |next=>obtain⟨σ',H',Z',I',E',p⟩:=q;exact⟨σ',H',I',q1 σ' H' Z' E' p⟩
  |brk=>obtain⟨σ',H',Z',I',E',p⟩:=q;exact⟨σ',H',I',q2 σ' H' Z' E' p⟩
  |cont=>obtain⟨σ',H',Z',I',E',p⟩:=q;exact⟨σ',H',I',q3 σ' H' Z' E' p⟩
  |ret u=>obtain⟨v,σ',H',r,Z',τ,I',rv,E',p⟩:=q;exact⟨v,σ',H',I',rv,q4 v τ H' r Z' E' p⟩
noncomputable def J7(K:PySem.W.Frag)(Pr:Hp)(p4:Fl->Ev->Prop):Jk where
 nx:=λσ' H'=>∃Z',aA K Pr H' σ' Z'/\p4 .nx Z'
 rt:=λv H'=>∃τ r Z',aA K Pr H' (some v::τ) (r::Z')/\p4 (.rt r) Z'
 bk:=λσ' H'=>∃Z',aA K Pr H' σ' Z'/\p4 .bk Z'
 ct:=λσ' H'=>∃Z',aA K Pr H' σ' Z'/\p4 .ct Z'
theorem PM.of{ts:TS}(h:PS X st ts)(q:∀σ H Pr Z p4,σ.length=X.N.length->aA X.K Pr H σ Z->t Z p4->ts (J7 X.K Pr p4) σ H):PM X st t:=λgV s σ H Pr Z p4 I E ht =>
 Ot (h gV s σ H _ I (q σ H Pr Z p4 I.len E ht)) λf s1 q=>by
  cases f with
  |next=>obtain⟨σ',H',I',Z',E',p⟩:=q;exact⟨σ',H',Z',I',E',p⟩
  |brk=>obtain⟨σ',H',I',Z',E',p⟩:=q;exact⟨σ',H',Z',I',E',p⟩
  |cont=>obtain⟨σ',H',I',Z',E',p⟩:=q;exact⟨σ',H',Z',I',E',p⟩
  |ret u=>obtain⟨v,σ',H',I',rv,τ,r,Z',E',p⟩:=q;exact⟨v,σ',H',r,Z',τ,I',rv,E',p⟩
theorem aA.narrow{K:PySem.W.Frag}{Pr H1 H:Hp}{σ1 σ:St}{Z1 Z:Ev}(E1:aA K Pr H1 σ1 Z1)(E:aA K (bF H1 Z1) H σ Z):aA K Pr H σ Z:=by
 refine⟨λb o e=>E.sub b o ?_,E.nd,λa ha=>?_,E.sl⟩
 . unfold bF;rw[if_neg,E1.sub b o e];intro hm;have z:=E1.off b hm;rw[e]at z;cases z
 .
  have z:=E.off a ha;unfold bF at z;by_cases hm:a∈owns Z1
  . exact E1.off a hm
  .
   rw[if_neg hm]at z
   cases q:Pr a with
   |none=>rfl
   |some o=>rw[E1.sub a o q]at z;cases z
def aJ:W (List L):=λZ p4=>p4 [] Z
def ar(t:W L)(r:W (List L)):W (List L):=λZ p4=>t Z λx Z1=>r Z1 λxs Z2=>p4 (x::xs) Z2
def gJ(i:Nat)(r:W (List L)):W (List L):=λZ p4=>match Z[i]? with
 |some (.own _ _)=>r Z λxs Z2=>p4 (.un::xs) Z2
 |_=>False
theorem ag:O9 X [] [] aJ:=λ_ gV s σ H Pr Z p4 I E h=>Calls.spliced_nil ⟨[],H,[],Z,I,.nil,rfl,rfl,E,λk i e=>by simp at e,h⟩
theorem af{bs:List (Option Nat)}{r:W (List L)}{t:W L}(ha:PL X e t)(hr:O9 X es bs r)(hs:starEach (e::es) X.env=(false,eval e X.env)::starEach es X.env:=by rfl):O9 X (e::es) (none::bs) (ar t r):=by
 intro pos gV s σ H Pr Z p4 I E h;rw[hs];show wpAny _ _ (spliced ((false,eval e X.env)::backTo pos (starEach es X.env))) _ _ s;refine Calls.spliced_cons (Ot (ha gV s σ H Pr Z _ I E h) λu s1 jqz=>?_);obtain⟨x,H1,l,Z1,I1,r1,E1,q1⟩:=jqz;refine Ot (hr pos gV s1 σ H1 _ Z1 _ I1 E1.tail.wide q1) λus s2 jqz=>?_;obtain⟨vs,H2,ls,Z2,I2,r2,hl,hb,E2,hv,q2⟩:=jqz;have E3:aA X.K Pr H2 (vs.map some++(some x::σ)) (ls++(l::Z2)):=aA.step (τ:=[some x]) (lam:=[l]) E1 rfl E2 (by simp[hl])
 have E4:aA X.K Pr H2 (some x::(vs.map some++σ)) (l::(ls++Z2)):=by
  have pm:(owns (ls++(l::Z2))).Perm (owns (l::(ls++Z2))):=me List.perm_middle;have s1:=Paired.unapp (by simp[hl]) E3.sl;obtain⟨s1,s2⟩:=s1
  cases s2 with
  |cons q t=>exact⟨E3.sub,pm.nodup_iff.mp E3.nd,λa h=>E3.off a (pm.mem_iff.mpr h),.cons q (Paired.app s1 t)⟩
 refine⟨x::vs,H2,l::ls,Z2,I2,.cons r1 r2,by simp[hl],by simp[hb],E4,λk i e=>?_,q2⟩
 cases k with
 |zero=>simp at e
 |succ k=>simpa using hv k i (by simpa using e)
theorem aQ(i:Nat){x:Str}{p:Pos}{bs:List (Option Nat)}{r:W (List L)}(hr:O9 X es bs r)(hN:X.N[i]?=some x:=by rfl)(hv:On X.env.scope x:=by first | exact Or.inl rfl | exact Or.inr (Or.inl rfl) | exact Or.inr (Or.inr rfl)) (hd:(x == ("__debug__" : Str))=false:=by decide)
  (hcd:(x == ("__classdict__" : Str))=false:=by decide) (hs:starEach (.Name x p::es) X.env=(false,eval (.Name x p) X.env)::starEach es X.env:=by rfl):O9 X (.Name x p::es) (some i::bs) (gJ i r):=by
 intro pos gV s σ H Pr Z p4 I E h;unfold gJ at h
 cases q:Z[i]? with
 |none=>rw[q]at h;exact h.elim
 | some l =>
  rw[q]at h
  cases l with
  |un=>exact h.elim
  |d y=>exact h.elim
  |bx _ _=>exact h.elim
  |dic _ _=>exact h.elim
  | own a xs =>
   obtain⟨sv,hsl,sl⟩:=E.slot q;obtain⟨rfl,_⟩:=sl;rw[hs];show wpAny _ _ (spliced ((false,eval (.Name x p) X.env)::backTo pos (starEach es X.env))) _ _ s;refine Calls.spliced_cons (Ot (cR hN hv hd hcd gV s σ H (λw H'=>w=.ref a/\H'=H) I ⟨.ref a,hsl,rfl,rfl⟩) λu s1 jqz=>?_);obtain⟨w,H1,I1,r1,e1,e2⟩:=jqz;subst e1 e2;refine Ot (hr pos gV s1 σ H1 Pr Z _ I1 E h) λus s2 jqz=>?_;obtain⟨vs,H2,ls,Z2,I2,r2,hl,hb,E2,hv,q2⟩:=jqz;refine⟨.ref a::vs,H2,.un::ls,Z2,I2,.cons r1 r2,by simp[hl],by simp[hb],E2.cons_un,λk j e=>?_,q2⟩
   cases k with
   |zero=>simp at e;subst e;exact⟨rfl,.ref a,rfl,hsl⟩
   |succ k=>simpa using hv k j (by simpa using e)
def DS:List L->(List D->Prop)->Prop
 |[],k=>k []
 |.d x::r,k=>DS r λxs=>k (x::xs)
 |_::_,_=>False
theorem i9:∀{ls:List L}{k:List D->Prop},DS ls k->∃xs,ls=xs.map .d/\k xs
 |[],_,h=>⟨[],rfl,h⟩
 | .d x::r,k,h=>by obtain⟨xs,e,q⟩:=i9 (ls:=r) h;exact⟨x::xs,by rw[e];rfl,q⟩
 |.un::_,_,h=>h.elim
 |.own _ _::_,_,h=>h.elim
theorem lg{K:PySem.W.Frag}{Pr H:Hp}{σ:St}{Z:Ev}:∀{vs:List V}{xs:List D},vs.length=xs.length->aA K Pr H (vs.map some++σ) (xs.map .d++Z)->bM K H vs xs
 |[],[],_,_=>.nil
 | v::vs,x::xs,hl,E=>by obtain⟨w,e,r⟩:=aA.head_d (v:=some v) (x:=x) E;cases e;exact .cons r (lg (by simpa using hl) (aA.tail (v:=some v) (l:=.d x) E))
 |[],_::_,hl,_=>by simp at hl
 |_::_,[],hl,_=>by simp at hl
def ko(t:W (List L)):W L:=λZ p4=>t Z λls Z1=>DS ls λxs=>xs.length<=sizeLine/\p4 (.d (.tup xs)) Z1
def l6(t:W (List L)):W L:=λZ p4=>t Z λls Z1=>DS ls λxs=>xs.length<=sizeLine/\∀a,p4 (.own a xs) Z1
theorem bG {x1} {bs:List (Option Nat)} {t:W (List L)} (h:O9 X es bs t):PL X (.Tuple es x1 pos) (ko t):=by
 intro gV s σ H Pr Z p4 I E hq;refine wpAny_Tuple_spliced (Ot (h pos gV s σ H Pr Z _ I E hq) λus s1 jqz=>?_);obtain⟨vs,H1,ls,Z1,I1,r,hl,hb,E1,hv,q⟩:=jqz;obtain⟨xs,rfl,z,q⟩:=i9 q;have kz:vs.length=xs.length:=by simpa using hl
 refine⟨by rw[<- r.length,kz];exact z,?_⟩;have hf:H1 s1.heap.objs.size=none:=I1.hok.fresh (SN _);refine⟨.ref s1.heap.objs.size,Og H1 s1.heap.objs.size (.tup vs),_,Z1,I1.laid (t':=s1.toks) (λb u e=>tu _ e) (SN _) ?_,rfl,(E1.drop (by simp[kz])).cons_tup hf (lg kz E1),q⟩;exact⟨by rw[kz];exact z,us,r,⟨_,Heap.get?_push_size _ rfl,rfl,_,rfl⟩⟩
theorem bP{bs:List (Option Nat)}{t:W (List L)}(h:O9 X es bs t):PL X (.List es pos) (l6 t):=by
 intro gV s σ H Pr Z p4 I E hq;refine wpAny_List_spliced (Ot (h pos gV s σ H Pr Z _ I E hq) λus s1 jqz=>?_);obtain⟨vs,H1,ls,Z1,I1,r,hl,hb,E1,hv,q⟩:=jqz;obtain⟨xs,rfl,z,q⟩:=i9 q;have kz:vs.length=xs.length:=by simpa using hl
 refine⟨by rw[<- r.length,kz];exact z,?_⟩;have hf:H1 s1.heap.objs.size=none:=I1.hok.fresh (SN _);refine⟨.ref s1.heap.objs.size,Og H1 s1.heap.objs.size (.lst vs),_,Z1,I1.laid (t':=s1.toks) (λb u e=>tu _ e) (SN _) ?_,rfl,(E1.drop (by simp[kz])).cons_own hf (lg kz E1),q _⟩;exact⟨by rw[kz];exact z,us,0,r,Heap.get?_push_size _ rfl⟩
abbrev FS:=List L->(L->List L->Prop)->Prop
noncomputable def spF(K:PySem.W.Frag)(n:Nat)(fs:FS):Sp:=λvs H Q _=>vs.length=n/\∃Pr ls p4,aA K Pr H (vs.map some) ls/\fs ls p4/\∀v H' r ls',aA K Pr H' (some v::vs.map some) (r::ls')->p4 r ls'->Q v H'
theorem aA.swap{K:PySem.W.Frag}{Pr H:Hp}{σ τ:St}{Z lam:Ev}(hl:τ.length=lam.length)(E:aA K Pr H (τ++σ) (lam++Z)):aA K Pr H (σ++τ) (Z++lam):=by have pm:(owns (lam++Z)).Perm (owns (Z++lam)):=me List.perm_append_comm;obtain⟨s1,s2⟩:=Paired.unapp hl E.sl;exact⟨E.sub,pm.nodup_iff.mp E.nd,λa h=>E.off a (pm.mem_iff.mpr h),Paired.app s2 s1⟩
theorem F5{K:PySem.W.Frag}{Pr H H':Hp}{σ τ:St}{Z ls ls':Ev}{v:Option V}{r:L}(hl:τ.length=ls.length)(E:aA K Pr H (τ++σ) (ls++Z))(E':aA K (bF H ls) H' (v::τ) (r::ls')):aA K Pr H' (v::(τ++σ)) (r::(ls'++Z)):=by
 have hρ:σ.length=Z.length:=(E.drop hl).len;have z:=aA.step (τ:=σ) (σ:=τ) (lam:=Z) (Z:=ls) (w:=[v]) (μ:=[r]) (E.swap hl) hρ E' rfl;have hl':τ.length=ls'.length:=by have:=E'.len;simpa using this
 obtain⟨s1,s2⟩:=Paired.unapp (a:=[v]) (b:=[r]) rfl z.sl;obtain⟨s2,s3⟩:=Paired.unapp hρ s2;have pm:(owns ([r]++(Z++ls'))).Perm (owns (r::(ls'++Z))):=me (List.Perm.cons r (List.perm_append_comm (l₁:=Z) (l₂:=ls')));exact⟨z.sub,pm.nodup_iff.mp z.nd,λa h=>z.off a (pm.mem_iff.mpr h),Paired.app s1 (Paired.app s3 s2)⟩
def ba(fs:FS)(t:W (List L)):W L:=λZ p4=>t Z λls Z1=>fs ls λr _=>p4 r Z1
def a7(fs:FS)(k i:Nat)(t:W (List L)):W L:=λZ p4=>t Z λls Z1=>match Z1[i]? with
 |some (.own a xs)=>fs (ls.set k (.own a xs)) λr ls'=>∃ys,ls'[k]?=some (.own a ys)/\p4 r (Z1.set i (.own a ys))
 |_=>False
section
variable{CX:OQ}{k n:Nat}{f:Addr}{fd:FuncData}{ps:List Str}{fs:FS}{E:XK}{x:Str}{p:Pos}{bs:List (Option Nat)}{t:W (List L)}
theorem aA.drop1{K:PySem.W.Frag}{Pr H:Hp}{σ τ:St}{Z lam:Ev}{v:Option V}{r:L}(hl:τ.length=lam.length)(E:aA K Pr H (v::(τ++σ)) (r::(lam++Z))):aA K Pr H (v::σ) (r::Z):=by obtain⟨s1,s2⟩:=Paired.unapp (a:=[v]) (b:=[r]) rfl E.sl;obtain⟨s2,s3⟩:=Paired.unapp hl s2;have sb:(owns (r::Z)).Sublist (owns (r::(lam++Z))):=DQ (List.Sublist.cons_cons r (List.sublist_append_right _ _));exact⟨E.sub,E.nd.sublist sb,λa h=>E.off a (sb.subset h),Paired.app s1 s3⟩
theorem G2(F:FnOk X.prog X.w X.K X.mg X.base CX k f fd ps (spF X.K n fs))(hr:k9 k X.A)(hg:Gl X x)(hm:X.mg x=some (.ref f))(hk:PySem.W.keepIn X.K (.ref f)=true)(hb:oX X.K fd ps [])(hx:yo CX X E)
  (ha:O9 X (e::es) bs t) (hn:bs.length=n) (hdb:(x == ("__debug__" : Str))=false:=by decide) (he:starEach (e::es) X.env=(false,eval e X.env)::starEach es X.env:=by rfl) (hpl:(backTo pos (starEach es X.env)).any (·.1)=false:=by rfl) :
  PL X (.Call (.Name x p) (e::es) [] pos) (ba fs t):=by
 intro gV s σ H Pr Z p4 I E0 h;refine wpAny_Call_Name_kw (k8 I hg hm ?_ hdb);refine PySem.W.callWith_K (h₀:=X.base) I.ok.mod.kin hk (Ot (ha pos gV s σ H Pr Z _ I E0 h) λus s1 ⟨vs,H1,ls,Z1,I1,r,hl,hbl,E1,hv,q⟩=>⟨I1.kIn,?_⟩) he hpl;have hl':(vs.map some).length=ls.length:=by simp[hl]
 refine Ot (A3 (Q:=λv H'=>∃r Z',aA X.K Pr H' (some v::σ) (r::Z')/\p4 r Z') F hr hb .nil hx I1 r ?_) λu s2 ⟨v,H2,I2,rv,r,Z',E2,p⟩=>⟨v,H2,r,Z',I2,rv,E2,p⟩;rw[List.append_nil];refine⟨hbl.trans hn,bF H1 ls,ls,_,(E1.left hl').wide,q,λv H' r ls' E2 p=>⟨r,Z1,?_,p⟩⟩;have z:=F5 hl' E1 E2;have hl2:(vs.map some).length=ls'.length:=by have:=E2.len;simpa using this
 exact z.drop1 hl2
theorem DT(F:FnOk X.prog X.w X.K X.mg X.base CX k f fd ps (spF X.K n fs))(hr:k9 k X.A)(hg:Gl X x)(hm:X.mg x=some (.ref f))(hk:PySem.W.keepIn X.K (.ref f)=true)(hb:oX X.K fd ps [])(hx:yo CX X E)
  (j i:Nat) (ha:O9 X (e::es) bs t) (hj:bs[j]?=some (some i)) (hn:bs.length=n) (hdb:(x == ("__debug__" : Str))=false:=by decide) (he:starEach (e::es) X.env=(false,eval e X.env)::starEach es X.env:=by rfl) (hpl:(backTo pos (starEach es X.env)).any (·.1)=false:=by rfl) :
  PL X (.Call (.Name x p) (e::es) [] pos) (a7 fs j i t):=by
 intro gV s σ H Pr Z p4 I E0 h;refine wpAny_Call_Name_kw (k8 I hg hm ?_ hdb);refine PySem.W.callWith_K (h₀:=X.base) I.ok.mod.kin hk (Ot (ha pos gV s σ H Pr Z _ I E0 h) λus s1 ⟨vs,H1,ls,Z1,I1,r,hl,hbl,E1,hv,q⟩=>⟨I1.kIn,?_⟩) he hpl;have hl':(vs.map some).length=ls.length:=by simp[hl]
 refine Ot (A3 (Q:=λv H'=>∃r Z',aA X.K Pr H' (some v::σ) (r::Z')/\p4 r Z') F hr hb .nil hx I1 r ?_) λu s2 ⟨v,H2,I2,rv,r,Z',E2,p⟩=>⟨v,H2,r,Z',I2,rv,E2,p⟩;rw[List.append_nil];dsimp only at q
 cases qi:Z1[i]? with
 |none=>rw[qi]at q;exact q.elim
 | some l =>
  rw[qi]at q
  cases l with
  |un=>exact q.elim
  |d y=>exact q.elim
  |bx _ _=>exact q.elim
  |dic _ _=>exact q.elim
  | own a xs =>
   obtain⟨hun,w,hw,hσ⟩:=hv j i hj;obtain⟨sv,hs2,rfl,_⟩:=(E1.drop hl').slot qi;rw[hσ]at hs2;cases hs2;have hjl:j<ls.length:=(SB.mp hun).1;have hjv:j<vs.length:=by omega
   have hil:i<Z1.length:=(SB.mp qi).1;have E2:=E1.out (i:=ls.length+i) (a:=a) (xs:=xs) (by rw[List.getElem?_append_right xL];simpa using qi);rw[List.set_append_right _ _ xL,Nat.add_sub_cancel_left]at E2;have E3:=E2.back (i:=j) (by rw[List.getElem?_append_left hjl];exact hun) (by rw[List.getElem?_append_left (by simp;omega)];simp[hw]);rw[List.set_append_left _ _ hjl]at E3;have hl3:(vs.map some).length=(ls.set j (.own a xs)).length:=by simp[hl]
   refine⟨hbl.trans hn,bF H1 (ls.set j (.own a xs)),_,_,(E3.left hl3).wide,q,λv H' r ls' E4 p=>?_⟩;obtain⟨ys,hys,p⟩:=p;refine⟨r,Z1.set i (.own a ys),?_,p⟩;have z:=F5 hl3 E3 E4;have hl4:(vs.map some).length=ls'.length:=by have:=E4.len;simpa using this
   have hjl':j<ls'.length:=by simp at hl4;omega
   have z1:=z.out (i:=1+j) (a:=a) (xs:=ys) (by rw[Nat.add_comm];simp only[List.getElem?_cons_succ];rw[List.getElem?_append_left hjl'];exact hys);rw[Nat.add_comm 1 j,List.set_cons_succ,List.set_append_left _ _ hjl']at z1
   have z2:=z1.back (i:=(1+ls'.length)+i) (by
    rw[Nat.add_comm 1,Nat.add_right_comm,List.getElem?_cons_succ,List.getElem?_append_right v6]
    simp[hil]) (by
    rw[Nat.add_comm 1,Nat.add_right_comm,List.getElem?_cons_succ,List.getElem?_append_right (by simp at hl4 ⊢;omega)];simp at hl4 ⊢;rw[<- hl4,Nat.add_sub_cancel_left]
    exact hσ)
   rw[Nat.add_comm 1,Nat.add_right_comm,List.set_cons_succ,List.set_append_right _ _ v6]at z2;simp only[List.length_set,Nat.add_sub_cancel_left,List.set_set]at z2;exact z2.drop1 (by simp at hl4 ⊢;exact hl4)
end
end
def yt(Z:Ev):List L->List L->Prop:=Paired λl l'=>match l with
 |.own a _=>(∃ys,l'=.own a ys/\L.own a ys∈Z)∨l'=.un
 |.bx _ _=>l'=.un
 |.dic _ _=>l'=.un
 |l=>l'=l
def aO(ls:List L)(p4:L->List L->Prop):Fl->Ev->Prop:=λf Z=>match f with
 |.rt r=>∃ls',yt Z ls ls'/\p4 r ls'
 |.nx=>∃ls',yt Z ls ls'/\p4 (.d .non) ls'
 |_=>False
theorem yt.owns{Z:Ev}:∀{ls ls':List L},yt Z ls ls'->(owns ls').Sublist (owns ls)
 |_,_,.nil=>.refl _
 | l::ls,l'::ls',.cons h t=>by
  have ih:=yt.owns t;rw[aI,aI]
  cases l with
  | own a xs =>
   rcases h with⟨ys,rfl,_⟩|rfl
   . exact(List.Sublist.refl _).append ih
   . exact ih.trans (List.sublist_append_right _ _)
  |un=>have e:l'=.un:=h;subst e;exact(List.Sublist.refl _).append ih
  |d x=>have e:l'=.d x:=h;subst e;exact(List.Sublist.refl _).append ih
  |bx k ms=>have e:l'=.un:=h;subst e;exact ih.trans (List.sublist_append_right _ _)
  |dic k ms=>have e:l'=.un:=h;subst e;exact ih.trans (List.sublist_append_right _ _)
theorem yt.sub{Z:Ev}:∀{ls ls':List L},yt Z ls ls'->∀a∈L2.owns ls',a∈L2.owns Z
 |_,_,.nil=>λa ha=>by simp[L2.owns]at ha
 | l::ls,l'::ls',.cons h t=>λa ha=>by
  have ih:=yt.sub t;rw[aI]at ha;rcases List.mem_append.mp ha with z|z
  .
   cases l with
   | own b xs =>
    rcases h with⟨ys,rfl,hm⟩|rfl
    .
     have e:a=b:=by simpa[bR]using z
     subst e;exact GR hm
    . simp[bR]at z
   |un=>have e:l'=.un:=h;subst e;simp[bR]at z
   |d x=>have e:l'=.d x:=h;subst e;simp[bR]at z
   |bx k ms=>have e:l'=.un:=h;subst e;simp[bR]at z
   |dic k ms=>have e:l'=.un:=h;subst e;simp[bR]at z
  . exact ih a z
theorem yu{K:PySem.W.Frag}{Pr H H':Hp}{σ τ:St}{ls ls' Z:Ev}{v:Option V}{r:L}(E:aA K Pr H σ ls)(E':aA K (bF H ls) H' (v::τ) (r::Z))(B:yt Z ls ls'):aA K Pr H' (v::σ) (r::ls'):=by
 have E1:=E.narrow E';have p:sH H H':=tO E E'.sub;have sub:=B.sub;have nd1:(owns ls').Nodup:=E.nd.sublist B.owns;refine⟨E1.sub,?_,λa ha=>?_,?_⟩
 . have nd:=E'.nd;rw[aI]at nd ⊢;obtain⟨n1,n2,n3⟩:=List.nodup_append.mp nd;exact List.nodup_append.mpr ⟨n1,nd1,λa ha b hb=>n3 a ha b (sub b hb)⟩
 .
  rw[aI]at ha;refine E1.off a ?_;rw[aI];rcases List.mem_append.mp ha with z|z
  . exact List.mem_append_left _ z
  . exact List.mem_append_right _ (sub a z)
 .
  have s1:=E'.sl
  cases s1 with
  | cons q t =>
   refine .cons q ?_;have sl:=E.sl;clear E E' E1 nd1 sub
   induction B generalizing σ with
   |nil=>cases sl;exact .nil
   | cons h u ih =>
    rename_i l l' _ _
    cases sl with
    | cons s0 s2 =>
     refine .cons ?_ (ih s2)
     cases l with
     | own a xs =>
      rcases h with⟨ys,rfl,hm⟩|rfl
      . obtain⟨e,_⟩:=s0;obtain⟨_,_,_,z⟩:=Paired.mem2 t hm;exact⟨e,z⟩
      . unfold bI;exact True.intro
     |un=>have e:l'=.un:=h;subst e;unfold bI;exact True.intro
     |bx k ms=>have e:l'=.un:=h;subst e;unfold bI;exact True.intro
     |dic k ms=>have e:l'=.un:=h;subst e;unfold bI;exact True.intro
     | d x =>
      have e:l'=.d x:=h;subst e;obtain⟨w,e,r⟩:=s0;exact⟨w,e,r.pres p⟩
section
variable{P:Program}{w:World}{K:PySem.W.Frag}{mg:Str->Option Value}{base:Heap}
theorem aA.uns{K:PySem.W.Frag}{Pr H:Hp}{σ:St}{Z:Ev}(E:aA K Pr H σ Z):∀n,aA K Pr H (σ++List.replicate n none) (Z++List.replicate n .un):=λn=>by
 have e:owns (Z++List.replicate n .un)=owns Z:=by
  rw[aK]
  have:owns (List.replicate n L.un)=[]:=by
   induction n with
   |zero=>rfl
   |succ n ih=>rw[List.replicate_succ,oB];exact ih
  rw[this,List.append_nil]
 refine⟨E.sub,by rw[e];exact E.nd,λa h=>E.off a (by rw[e]at h;exact h),Paired.app E.sl ?_⟩
 induction n with
 |zero=>exact .nil
 | succ n ih =>
  rw[List.replicate_succ,List.replicate_succ];refine .cons True.intro (ih ?_)
  have:owns (List.replicate n L.un)=[]:=by
   clear ih e
   induction n with
   |zero=>rfl
   |succ n ih=>rw[List.replicate_succ,oB];exact ih
  rw[aK,this,List.append_nil]
theorem bD{x qual:Str}{st:Stmt}{f:Addr}{fd:FuncData}{N ps:List Str}{k:Nat}{fs:FS}(F:O6 K x qual st f fd)(S:aG N ps (ao st))(t:W Fl)
  (hbody:∀(cdv:Value)(A:Around)(outer:List Env)(s:Shared)(H:Hp)(E:XK),k9 k (A.deeper (envOfC qual (ao st) s.heap.objs.size f cdv))->Pa (Dz CX0 P w K mg base N qual (ao st) f cdv A outer s H E).nox (eR st) t)
  (h:∀ls p4,ls.length=ps.length->fs ls p4->t (ls++List.replicate (N.length-ps.length) .un) (aO ls p4)):FnOk P w K mg base CX0 (k+1) f fd ps (spF K ps.length fs):=by
 refine F.ok S (λvs H Q E q=>q.1) (λcdv A outer s H vs Q E hr q=>?_);obtain⟨hl,Pr,ls,p4,E0,hf,q⟩:=q;refine⟨_,(hbody cdv A outer s H E hr).pss,bF H ls,ls++List.replicate (N.length-ps.length) .un,aO ls p4,?_,h ls p4 (by rw[<- hl];have:=E0.len;simpa using this.symm) hf,λσ' H' Z' E' p=>?_,λ_ _ _ _ p=>p.elim,λ_ _ _ _ p=>p.elim,λv τ H' r Z' E' p=>?_⟩
 . unfold oY;rw[hl];exact E0.wide.uns _
 . obtain⟨ls',B,p⟩:=p;exact q .non H' (.d .non) ls' (yu E0 (E'.cons_d .non) B) p
 . obtain⟨ls',B,p⟩:=p;exact q v H' r ls' (yu E0 E' B) p
end
theorem aX{Z:Ev}:yt Z [] []:=.nil
theorem aj{Z:Ev}{x:D}{a b:List L}(t:yt Z a b):yt Z (.d x::a) (.d x::b):=.cons rfl t
theorem dO{Z:Ev}{p:Addr}{xs ys:List D}{a b:List L}(h:L.own p ys∈Z)(t:yt Z a b):yt Z (.own p xs::a) (.own p ys::b):=.cons (.inl ⟨ys,rfl,h⟩) t
section
variable{X:Cx}{e a b c tg:Expr}{es:List Expr}{pos:Pos}{tA:W Bool}{t u:W Fl}
def mf(c:W Bool)(b:W Fl):W Fl:=λZ p4=>∃J:Nat->Ev->Prop,(∃n,J n Z)/\∀n Z,J n Z->c Z λt Z1=>if t=true then b Z1 λf Z2=>(match f with
 |.nx=>∃m,m<n/\J m Z2
 |.ct=>∃m,m<n/\J m Z2
 |.bk=>p4 .nx Z2
 |.rt r=>p4 (.rt r) Z2)else p4 .nx Z1
theorem j2{body:List Stmt}(hp:PassesOwn (model X.prog X.w) X.A X.env X.xe)(hc:PB X c tA)(hb:Pa X body t):PM X (.While c body [] pos) (mf tA t):=by
 refine PM.of (Dt hp hc.pt hb.pss) λσ H Pr Z p4 kz E h=>?_;obtain⟨J,⟨n0,j0⟩,turn⟩:=h;refine⟨λn σ H=>∃Z,aA X.K Pr H σ Z/\J n Z,⟨n0,Z,E,j0⟩,λn σ1 H1 ⟨Z1,E1,j1⟩=>⟨Pr,Z1,_,E1,turn n Z1 j1,λb H2 Z2 E2 q=>?_⟩⟩
 cases b with
 |false=>exact⟨Z2,E2,q⟩
 | true =>
  refine⟨λσ' H'=>∃Z' m,aA X.K Pr H' σ' Z'/\m<n/\J m Z',λσ' H' ⟨Z',m,E',hm,j⟩=>⟨m,hm,Z',E',j⟩,Pr,Z2,_,E2,q,λσ' H' Z' E' ⟨m,hm,j⟩=>⟨Z',m,E',hm,j⟩,λσ' H' Z' E' p=>⟨Z',E',p⟩,λσ' H' Z' E' ⟨m,hm,j⟩=>⟨Z',m,E',hm,j⟩,λv τ H' r Z' E' p=>⟨τ,r,Z',E',p⟩⟩
abbrev Tg:=D->Ev->(Ev->Prop)->Prop
def Pk(X:Cx)(tg:Expr)(g:Tg):Prop:=∃gg:TG,PG X tg gg/\∀v σ H Pr Z x k,σ.length=X.N.length->aA X.K Pr H σ Z->O8 X.K H v x->g x Z k->gg v σ H λσ' H'=>H'=H/\σ'.length=X.N.length/\∃Z',aA X.K Pr H σ' Z'/\k Z'
def aW(i:Nat):Tg:=λx Z k=>k (Z.set i (.d x))
theorem cN{i:Nat}{x:Str}(hN:X.N.Nodup)(hi:X.N[i]?=some x)(hx:Oo X.env.scope x)(hf:X.fn x=true∨X.env.scope.names.lookup x=some .local:=by first|exact .inl rfl|exact .inr rfl|assumption):Pk X (.Name x pos) (aW i) :=
 ⟨_,tI hN hi hx hf,λv σ H Pr Z x k hl E r h=>⟨rfl,by simpa using hl,_,(E.cons_d r).store (by rw[hl];exact(SB.mp hi).1),h⟩⟩
def hG:List Nat->List D->Ev->(Ev->Prop)->Prop
 |[],[],Z,k=>k Z
 |i::is,x::xs,Z,k=>hG is xs (Z.set i (.d x)) k
 |_,_,_,_=>False
def Pl(X:Cx)(es:List Expr)(is:List Nat):Prop:=∃gg:Oy,Oz X es gg/\es.length=is.length/\∀vs σ H Pr Z xs k,σ.length=X.N.length->aA X.K Pr H σ Z->bM X.K H vs xs->hG is xs Z k->gg vs σ H λσ' H'=>H'=H/\σ'.length=X.N.length/\∃Z',aA X.K Pr H σ' Z'/\k Z'
theorem w7:Pl X [] []:=⟨_,AV,rfl,λvs σ H Pr Z xs k hl E r h=>by
 cases r with
 |nil=>exact⟨rfl,rfl,hl,Z,E,h⟩
 |cons _ _=>exact h.elim⟩
theorem fM{i:Nat}{is:List Nat}{x:Str}(hN:X.N.Nodup)(hi:X.N[i]?=some x)(hx:Oo X.env.scope x)(hr:Pl X es is)(hf:X.fn x=true∨X.env.scope.names.lookup x=some .local:=by first|exact .inl rfl|exact .inr rfl|assumption)
  (hs:(assignEach (.Name x pos::es) X.env).map (·.2)=assign (.Name x pos) X.env::(assignEach es X.env).map (·.2):=by rfl):Pl X (.Name x pos::es) (i::is):=by
 obtain⟨gg,hg,kz,q⟩:=hr;refine⟨_,ym (tI hN hi hx hf) hg hs,by simp[kz],λvs σ H Pr Z xs k hl E r h=>?_⟩
 cases r with
 |nil=>exact h.elim
 | cons r0 t =>
  refine⟨_,_,rfl,?_⟩;exact q _ _ H Pr _ _ k (by simpa using hl) ((E.cons_d r0).store (by rw[hl];exact(SB.mp hi).1)) t h
def kg(is:List Nat):Tg:=λx Z k=>match x with
 |.tup xs=>hG is xs Z k
 |_=>False
theorem lh:∀{is:List Nat}{xs:List D}{Z:Ev}{k:Ev->Prop},hG is xs Z k->xs.length=is.length
 |[],[],_,_,_=>rfl
 |_::is,_::xs,_,_,h=>by simp[lh (is:=is) (xs:=xs) h]
 |[],_::_,_,_,h=>h.elim
 |_::_,[],_,_,h=>h.elim
theorem Bk{is:List Nat}{k:Nat}(hc:X.calm=true)(h:Pl X es is)(hn:(assignEach es X.env).length=is.length:=by rfl)(hst:(assignEach es X.env).findIdx? (·.1)=none:=by rfl):Pk X (.Tuple es k pos) (kg is):=by
 obtain⟨gg,hg,kz,q⟩:=h;refine⟨_,FT hc hg hn hst,λv σ H Pr Z x k hl E r h=>?_⟩
 cases r with
 |tup hs rs=>exact⟨_,_,rfl,hs,by rw[rs.length];exact lh h,q _ σ H Pr Z _ k hl E rs h⟩
 |_=>exact h.elim
def mh(g:Tg)(b:W Fl):List D->W Fl
 |[]=>λZ p4=>p4 .nx Z
 | x::xs=>λZ p4=>g x Z λZ1=>b Z1 λf Z2=>match f with
  |.nx=>mh g b xs Z2 p4
  |.ct=>mh g b xs Z2 p4
  |.bk=>p4 .nx Z2
  |.rt r=>p4 (.rt r) Z2
def ja:D->(List D->Prop)->Prop
 |.lst xs,k=>k xs
 |.tup xs,k=>k xs
 |_,_=>False
def J8(H H':Hp):Prop:=H'=H∨∃p o,H p=none/\H'=Og H p o
theorem aA.grown{K:PySem.W.Frag}{Pr H H':Hp}{σ:St}{Z:Ev}(E:aA K Pr H σ Z)(g:J8 H H'):aA K Pr H' σ Z:=by
 rcases g with rfl|⟨p,o,h,rfl⟩
 . exact E
 . exact E.new h
def zN(K:PySem.W.Frag)(H:Hp)(J:It)(xs:List D):Prop:=∀H',sH H H' ->
 (∀i x,xs[i]?=some x->J.go i H'/\∀v H2,J.yld i H' v H2->J8 H' H2/\O8 K H2 v x)/\J.stop xs.length H'
def EI(X:Cx)(gV:List (Addr×Obj))(σ:St)(tg:Expr)(Pr:Hp)(p4:List D->Ev->Prop)(itv:Value)(s2:Shared):Prop :=
 ∃(it:Addr)(fp:List Addr)(tn:Nat->Heap->Prop)(J:It)(H':Hp)(xs:List D)(Z':Ev),itv=.ref it/\Oq X gV σ H' s2/\GH X.prog X.w X.K tg J fp it tn/\tn 0 s2.heap/\(∀b∈fp,Dk X gV H' b)/\aA X.K Pr H' σ Z'/\zN X.K H' J xs/\p4 xs Z'
def Pn(X:Cx)(tg iter:Expr)(w:W (List D)):Prop :=
 ∀(gV:List (Addr×Obj))(s:Shared)(σ:St)(H Pr:Hp)(Z:Ev)(p4:List D->Ev->Prop),Oq X gV σ H s->aA X.K Pr H σ Z->w Z p4 ->
  wpAny (model X.prog X.w) X.A (eval iter X.env) (λv s1=>wpAny (model X.prog X.w) X.A (pyIter v) (EI X gV σ tg Pr p4) X.xe s1) X.xe s
def rL(t:W L):W (List D):=λZ p4=>t Z λr Z1=>Pb r λx=>ja x λxs=>p4 xs Z1
theorem zP{K:PySem.W.Frag}{H:Hp}{a:Addr}{vs:List V}{xs:List D}(h:O7 K H a vs)(r:bM K H vs xs):zN K H (OF K a) xs:=λH' p=>by have h':=(h.pres p).l;refine⟨λi x e=>?_,⟨vs,h',by rw[r.length];exact SN _⟩⟩;obtain⟨v,ev,rv⟩:=r.get e;refine⟨⟨vs,v,h',ev⟩,λw H2 ⟨e1,e2⟩=>?_⟩;have e3:=e2 vs h';rw[ev]at e3;cases e3;subst e1;exact⟨.inl rfl,rv.pres p⟩
theorem Bl{K:PySem.W.Frag}{H:Hp}{a:Addr}{vs:List V}{xs:List D}(h:Ox K H a vs)(r:bM K H vs xs):zN K H (OG K a) xs:=λH' p=>by have h':=h.pres p;refine⟨λi x e=>?_,⟨vs,h',by rw[r.length];exact SN _⟩⟩;obtain⟨v,ev,rv⟩:=r.get e;refine⟨⟨vs,v,h',ev⟩,λw H2 ⟨e1,e2⟩=>?_⟩;have e3:=e2 vs h';rw[ev]at e3;cases e3;subst e1;exact⟨.inl rfl,rv.pres p⟩
theorem bX{t:W L}(h:PL X e t):Pn X tg e (rL t):=by
 intro gV s σ H Pr Z p4 I E ht;refine Ot (h gV s σ H Pr Z _ I E ht) λu s1 q=>?_;obtain⟨v,H1,x,Z1,I1,r1,E1,q2⟩:=EL.frz (p4:=λx Z1=>ja x λxs=>p4 xs Z1) q;obtain⟨_,e1,p⟩:=E1.head_d;cases e1
 cases p with
 | lst hz rs =>
  cases r1;obtain⟨its,rv,pl,hz'⟩:=I1.list hz.l;refine wpAny_pyIter_list pl.isList ?_;refine⟨s1.heap.objs.size,[s1.heap.objs.size],_,_,H1,_,Z1,rfl,I1.kept (t':=s1.toks) λb o e=>tu _ e,AW _ _,⟨_,Heap.get?_push_size _ rfl,rfl,rfl⟩,λb hb=>?_,E1.tail,zP hz rs,q2⟩;have e:b=s1.heap.objs.size:=by simpa using hb
  subst e;exact I1.fpOk (SN _) (I1.hok.fresh (SN _))
 | tup hz rs =>
  cases r1;obtain⟨its,rv,pl,hz'⟩:=I1.tuple hz;refine wpAny_pyIter_tuple (show s1.heap.IsTuple _ its.toArray from pl) ?_;refine⟨s1.heap.objs.size,[s1.heap.objs.size],_,_,H1,_,Z1,rfl,I1.kept (t':=s1.toks) λb o e=>tu _ e,zy _ _,⟨_,Heap.get?_push_size _ rfl,rfl,rfl⟩,λb hb=>?_,E1.tail,Bl hz rs,q2⟩;have e:b=s1.heap.objs.size:=by simpa using hb
  subst e;exact I1.fpOk (SN _) (I1.hok.fresh (SN _))
 |_=>exact q2.elim
noncomputable def rM(lo:Int)(n:Nat):List D:=(List.range n).map λ(i:Nat)=>.int (lo+(i:Int))
theorem vm{K:PySem.W.Frag}{H:Hp}(lo:Int)(n:Nat):zN K H (OH lo n) (rM lo n):=λH' p=>by
 refine⟨λi x e=>?_,?_⟩
 .
  have hi:i<n:=by have:=(SB.mp e).1;simpa[rM]using this
  refine⟨hi,λv H2 ⟨e1,e2⟩=>?_⟩;subst e1 e2;have:x=.int (lo+(i:Int)):=by unfold rM at e;rw[List.getElem?_map,List.getElem?_range hi]at e;simpa using e.symm
  subst this;exact⟨.inl rfl,.int _⟩
 . show n<=(rM lo n).length;simp[rM]
def nK:L->(Int->Prop)->Prop
 |.d (.int i),k=>k i
 |_,_=>False
theorem dP{r:L}{k:Int->Prop}(h:nK r k):∃i,r=.d (.int i)/\k i:=by
 cases r with
 | d x=>cases x with
  |int i=>exact⟨i,rfl,h⟩
  |_=>exact h.elim
 |_=>exact h.elim
def Bm(j:Int):Prop:=-(2^62)<=j/\j<2^62
def jb(t:W L):W (List D):=λZ p4=>t Z λr Z1=>nK r λj=>Bm j/\p4 (rM 0 j.toNat) Z1
def DU(t u:W L):W (List D):=λZ p4=>t Z λr Z1=>nK r λi=>u Z1 λr Z2=>nK r λj=>Bm i/\Bm j/\p4 (rM i (j-i).toNat) Z2
theorem bY{t:W L}{p pos:Pos} (hg:Gl X "range") (hm:X.mg "range"=none) (ha:PL X a t) (hs:starEach [a] X.env=[(false,eval a X.env)]:=by rfl):Pn X tg (.Call (.Name "range" p) [a] [] pos) (jb t):=by
 intro gV s σ H Pr Z p4 I E h;refine Ot (AX (tg:=tg) hg hm (cM ha.pe iZ hs) hs gV s σ H (λJ H1=>∃Z1 n,J=OH 0 n/\aA X.K Pr H1 σ Z1/\p4 (rM 0 n) Z1) I ?_) λv s1 q=>Ot q λitv s2 ⟨it,fp,tn,J,H',e,I',T,t0,hf,Z1,n,eJ,E1,q⟩=>?_
 . refine⟨Pr,Z,_,E,h,λv H' r Z' E' p=>?_⟩;obtain⟨j,rfl,hj,p⟩:=dP p;obtain⟨_,e1,p1⟩:=E'.head_d;cases e1;cases p1;exact⟨j,rfl,hj.1,hj.2,Z',_,rfl,E'.tail,p⟩
 . subst eJ;exact⟨it,fp,tn,_,H',_,Z1,e,I',T,t0,hf,E1,vm 0 n,q⟩
theorem yv{t u:W L}{p pos:Pos} (hg:Gl X "range") (hm:X.mg "range"=none) (ha:PL X a t) (hb:PL X b u) (hs:starEach [a,b] X.env=[(false,eval a X.env),(false,eval b X.env)]:=by rfl) (hs2:starEach [b] X.env=[(false,eval b X.env)]:=by rfl):Pn X tg (.Call (.Name "range" p) [a,b] [] pos) (DU t u):=by
 intro gV s σ H Pr Z p4 I E h;refine Ot (AY (tg:=tg) hg hm (cM ha.pe (cM hb.pe iZ hs2) (hs.trans (by rw[hs2]))) hs hs2 gV s σ H (λJ H1=>∃Z1 lo n,J=OH lo n/\aA X.K Pr H1 σ Z1/\p4 (rM lo n) Z1) I ?_) λv s1 q=>Ot q λitv s2 ⟨it,fp,tn,J,H',e,I',T,t0,hf,Z1,lo,n,eJ,E1,q⟩=>?_
 . refine⟨Pr,Z,_,E,h,λv H' r Z' E' p=>?_⟩;obtain⟨i,rfl,p⟩:=dP p;obtain⟨_,e1,p1⟩:=E'.head_d;cases e1;cases p1;refine⟨Pr,Z',_,E'.tail,p,λv H2 r Z2 E2 p=>?_⟩;obtain⟨j,rfl,hi,hj,p⟩:=dP p;obtain⟨_,e1,p1⟩:=E2.head_d;cases e1;cases p1;exact⟨i,j,rfl,⟨hi.1,hi.2,hj.1,hj.2⟩,Z2,_,_,rfl,E2.tail,p⟩
 . subst eJ;exact⟨it,fp,tn,_,H',_,Z1,e,I',T,t0,hf,E1,vm lo n,q⟩
def tQ(s:W (List D))(g:Tg)(b:W Fl):W Fl:=λZ p4=>s Z λxs Z1=>mh g b xs Z1 p4
theorem d4{iter:Expr}{body:List Stmt}{w:W (List D)}{g:Tg}(hp:PassesOwn (model X.prog X.w) X.A X.env X.xe)(hc:X.calm=true)(hi:Pn X tg iter w)(hg:Pk X tg g)(hb:Pa X body t)
  (hs:∀x,foldedSetIterable iter X.env x=pure x:=by intro _;rfl):PM X (.For tg iter body [] pos) (tQ w g t):=by
 intro gV s σ H Pr Z p4 I E h;obtain⟨gg,hg,hgg⟩:=hg;refine wpAny_For (Ot (hi gV s σ H Pr Z _ I E h) λv s1 h1=>Ot h1 λitv s2 h2=>?_) hs;obtain⟨it,fp,tn,J,H2,xs,Z2,e,I2,T,st2,f2,E2,G,w0⟩:=h2;subst e;have stat:∀{H':Hp},(∀b∈fp,H' b=none)->∀b∈fp,Dk X gV H' b:=λhn b hb=>⟨hn b hb,(f2 b hb).2⟩;refine codeAny_forLoop_any (λn s'=>∃i σ' H' Z',n+i=xs.length/\Oq X gV σ' H' s'/\tn i s'.heap/\(∀b∈fp,H' b=none)/\aA X.K (bF H2 Z2) H' σ' Z'/\mh g t (xs.drop i) Z' p4) ?_ xs.length ⟨0,σ,H2,Z2,xL,I2,st2,λb hb=>(f2 b hb).1,E2.wide,by simpa using w0⟩;rintro n s3 ⟨i,σ3,H3,Z3,hn,I3,st3,fr3,E3,w3⟩;obtain⟨go,stop⟩:=G H3 (tO E2 E3.sub);by_cases hlt:i<xs.length
 .
  obtain⟨hgo,hy⟩:=go i xs[i] (so hlt);rw[List.drop_eq_getElem_cons hlt]at w3;refine wpAny_passesOwn hp (Ot (T.item X rfl rfl rfl hc i gV s3 σ3 H3 X.xe I3 (stat fr3) st3 hgo) λr s4 jqz=>?_);obtain⟨u,hr,h4⟩:=jqz;subst hr;refine wpAny_passesOwn hp (Ot h4 λ_ s5 jqz=>?_);obtain⟨x,H5,I5,r5,y5,st5,fr5⟩:=jqz;obtain⟨gr,rx⟩:=hy x H5 y5;have I5':=I5.pinned (stat fr5) (T.obj _ _ st5);have E5:=E3.grown gr;refine wpAny_passesOwn hp (Ot (hg _ s5 σ3 H5 x u _ I5' r5 (hgg x σ3 H5 _ Z3 xs[i] _ I5.len E5 rx w3)) λ_ s6 jqz=>?_);obtain⟨σ6,H6,I6,e6,hl6,Z6,E6,q6⟩:=jqz;subst e6;refine wpAny_passesOwn hp (Ot (hb _ s6 σ6 _ _ Z6 _ I6 E6 q6) λf s7 q7=>?_)
  have again:∀{σ7:St}{H7:Hp}{Z7:Ev},Oq X (gV++u6 fp s5.heap) σ7 H7 s7->aA X.K (bF H2 Z2) H7 σ7 Z7->mh g t (xs.drop (i+1)) Z7 p4 ->
    ∃m,m<n/\∃i σ' H' Z',m+i=xs.length/\Oq X gV σ' H' s7/\tn i s7.heap/\(∀b∈fp,H' b=none)/\aA X.K (bF H2 Z2) H' σ' Z'/\mh g t (xs.drop i) Z' p4:=λ{σ7 H7 Z7} I7 E7 n7=>by
   refine⟨n-1,xL,i+1,σ7,H7,Z7,xL,I7.unpinned,T.keep _ _ _ st5 λb hb o e=>(I7.pin (b,o) (List.mem_append_right _ (List.mem_append_right _ (jX hb e)))).1,λb hb=>?_,E7,n7⟩;obtain⟨o,e,d⟩:=T.obj _ _ st5 b hb;exact(I7.pin (b,o) (List.mem_append_right _ (List.mem_append_right _ (jX hb e)))).2.1
  cases f with
  |next=>obtain⟨σ7,H7,Z7,I7,E7,n7⟩:=q7;exact again I7 E7 n7
  |cont=>obtain⟨σ7,H7,Z7,I7,E7,n7⟩:=q7;exact again I7 E7 n7
  |brk=>obtain⟨σ7,H7,Z7,I7,E7,q7⟩:=q7;exact⟨σ7,H7,Z7,I7.unpinned,E2.narrow E7,q7⟩
  |ret v=>obtain⟨x7,σ7,H7,r,Z7,τ,I7,r7,E7,q7⟩:=q7;exact⟨x7,σ7,H7,r,Z7,τ,I7.unpinned,r7,E2.narrow E7,q7⟩
 .
  have e:i=xs.length:=by omega
  subst e;refine wpAny_passesOwn hp (Ot (T.done X rfl rfl rfl hc xs.length gV s3 σ3 H3 X.xe I3 (stat fr3) st3 stop) λr s4 jqz=>?_);obtain⟨hr,I4⟩:=jqz;subst hr;rw[List.drop_length]at w3;exact wpAny_execs_nil ⟨σ3,H3,Z3,I4,E2.narrow E3,w3⟩
end
section
variable{X:Cx}{e a b c:Expr}{pos:Pos}{ta tb:W L}
def cn(i:Int):Prop:=i.natAbs<2^1000000
def b7:Pc:=λx y k=>match x,y with
 |.int i,.int j=>k (.d (.int (i+j)))
 |.str i,.str j=>i.length+j.length<=sizeLine/\k (.d (.str (i++j)))
 |.lst xs,.lst ys=>xs.length+ys.length<=sizeLine/\∀a,k (.own a (xs++ys))
 |_,_=>False
def nL:Pc:=λx y k=>match x,y with
 |.int i,.int j=>k (.d (.int (i-j)))
 |_,_=>False
def mi:Pc:=λx y k=>match x,y with
 |.int i,.int j=>j≠0/\j.natAbs<2^9000/\k (.d (.int (i.fdiv j)))
 |_,_=>False
def fK:Pc:=λx y k=>match x,y with
 |.int i,.int j=>j≠0/\k (.d (.int (i.fmod j)))
 |_,_=>False
def zQ:Pc:=λx y k=>match x,y with
 |.int i,.int j=>0<=j/\j<=1000000/\i.natAbs<2^64/\k (.d (.int (i^j.toNat)))
 |_,_=>False
def yw:Pc:=λx y k=>match x,y with
 |.int i,.int j=>k (.d (.bl (decide (i<j))))
 |_,_=>False
def Dl:Pc:=λx y k=>match x,y with
 |.int i,.int j=>k (.d (.bl (decide (i<=j))))
 |_,_=>False
def AI:Pc:=λx y k=>match x,y with
 |.int i,.int j=>k (.d (.bl (decide (j<i))))
 |_,_=>False
def LG:Pc:=λx y k=>match x,y with
 |.int i,.int j=>k (.d (.bl (decide (j<=i))))
 |_,_=>False
theorem Bn{i j:Int}(h1:cn i)(h2:cn j):IntMulOk i j:=IntMulOk.of_le (PySem.intBits_le_iff.mpr h1) (PySem.intBits_le_iff.mpr h2) x_
theorem G3:OI X (binaryOp .Mult) (rI (λi j=>cn i/\cn j) λi j=>.int (i*j)):=OM λ_ _ _ _ _ _ _ hc q=>mul_int q (Bn hc.1 hc.2)
theorem G4:OI X (binaryOp .FloorDiv) (rI (λi j=>j≠0/\j.natAbs<2^9000) λi j=>.int (i.fdiv j)):=OM λi j _ _ _ _ _ hc q=>floordiv_int hc.1 q (.inl (PyProof.noPylong_of_log2 ((Nat.log2_lt (by have:=hc.1;omega)).mpr hc.2)))
theorem G5:OI X (binaryOp .Add) (λx y H Q=>∃l b xs zs,x=.ref l/\y=.ref b/\Ow X.K H l xs/\Ow X.K H b zs/\xs.length+zs.length<=sizeLine/\∀p,H p=none->Q (.ref p) (Og H p (.lst (xs++zs)))):=by
 intro gV s σ H x y v u Q I rx ry h;obtain⟨l,b,xs,zs,rfl,rfl,hH,hB,hz,q⟩:=h;cases rx;cases ry;obtain⟨its,r,⟨o,n,e,c,d,f⟩,z⟩:=I.list hH;obtain⟨its2,r2,⟨o2,n2,e2,c2,d2,f2⟩,z2⟩:=I.list hB;obtain⟨cl,dd,dt,sl⟩:=o;obtain⟨cl2,dd2,dt2,sl2⟩:=o2;simp only at c f c2 f2;subst c f c2 f2;have hl:=r.length;have hl2:=r2.length;refine concat_meets ⟨_,e,rfl⟩ ⟨_,e2,rfl⟩ noFill_list_add seq_list_add PySem.F.slot_list_add PySem.F.entry_list_add (PySem.F.args_list_add_2 _ _) (list_addW l b its.toArray its2.toArray n n2 dd dd2 sl sl2 (by rw[List.size_toArray,List.size_toArray];omega)) ⟨e,e2,?_⟩;have ea:its.toArray++its2.toArray=(its++its2).toArray:=by simp
 rw[ea];exact⟨.ref _,_,I.lnew (t':=s.toks) (r.append r2) (by rw[List.length_append];omega),rfl,q _ I.fresh⟩
theorem DV{x y:D}{k:L->Prop}(h:b7 x y k):(∃i j,x=.int i/\y=.int j/\k (.d (.int (i+j))))∨(∃i j,x=.str i/\y=.str j/\i.length+j.length<=sizeLine/\k (.d (.str (i++j))))∨∃xs ys,x=.lst xs/\y=.lst ys/\xs.length+ys.length<=sizeLine/\∀a,k (.own a (xs++ys)):=by
 unfold b7 at h;split at h
 . exact .inl ⟨_,_,rfl,rfl,h⟩
 . exact .inr (.inl ⟨_,_,rfl,rfl,h⟩)
 . exact .inr (.inr ⟨_,_,rfl,rfl,h⟩)
 . exact h.elim
theorem G6:Pd X (binaryOp .Add) (λx y k=>∃i j,x=.int i/\y=.int j/\k (.d (.int (i+j)))):=Pd.of JF λσ H Pr Z x y dx dy p4 E px py ⟨i,j,e1,e2,h⟩=>by subst e1 e2;cases px;cases py;exact⟨i,j,rfl,rfl,_,E.cons_d (.int _),h⟩
theorem G7:Pd X (binaryOp .Add) (λx y k=>∃i j,x=.str i/\y=.str j/\i.length+j.length<=sizeLine/\k (.d (.str (i++j)))):=Pd.of zB λσ H Pr Z x y dx dy p4 E px py ⟨i,j,e1,e2,z,h⟩=>by subst e1 e2;cases px;cases py;exact⟨i,j,rfl,rfl,z,_,E.cons_d (.str _),h⟩
theorem G8:Pd X (binaryOp .Add) (λx y k=>∃xs ys,x=.lst xs/\y=.lst ys/\xs.length+ys.length<=sizeLine/\∀a,k (.own a (xs++ys))):=Pd.of G5 λσ H Pr Z x y dx dy p4 E px py ⟨xs,ys,e1,e2,z,h⟩=>by
 subst e1 e2
 cases px with
 | lst h1 r1 =>
  cases py with
  |lst h2 r2=>exact⟨_,_,_,_,rfl,rfl,h1.l,h2.l,by rw[r1.length,r2.length];exact z,λp hp=>⟨_,E.cons_own hp (r1.append r2),h p⟩⟩
theorem bu:Pd X (binaryOp .Add) b7:=by
 intro gV s σ H Pr Z x y v u dx dy p4 I rx ry E px py ho;rcases DV ho with h|h|h
 . exact G6 gV s σ H Pr Z x y v u dx dy p4 I rx ry E px py h
 . exact G7 gV s σ H Pr Z x y v u dx dy p4 I rx ry E px py h
 . exact G8 gV s σ H Pr Z x y v u dx dy p4 I rx ry E px py h
theorem yx{f:Value->Value->Sem Value}{C:Int->Int->Prop}{g:Int->Int->V}{gd:Int->Int->D}(h:OI X f (rI C g))(hg:∀K H i j,O8 K H (g i j) (gd i j)) :
  Pd X f (λx y k=>∃i j,x=.int i/\y=.int j/\C i j/\k (.d (gd i j))) :=
 Pd.of h λσ H Pr Z x y dx dy p4 E px py ⟨i,j,e1,e2,z,h⟩=>by subst e1 e2;cases px;cases py;exact⟨i,j,rfl,rfl,z,_,E.cons_d (hg _ _ _ _),h⟩
theorem pW{f:Value->Value->Sem Value}{g:Int->Int->V}{gd:Int->Int->D}(h:OI X f (OL g))(hg:∀K H i j,O8 K H (g i j) (gd i j)) :
  Pd X f (λx y k=>∃i j,x=.int i/\y=.int j/\k (.d (gd i j))) :=
 Pd.of h λσ H Pr Z x y dx dy p4 E px py ⟨i,j,e1,e2,h⟩=>by subst e1 e2;cases px;cases py;exact⟨i,j,rfl,rfl,_,E.cons_d (hg _ _ _ _),h⟩
theorem kq:Pd X (binaryOp .Sub) nL:=(pW JG (gd:=λi j=>.int (i-j)) λ_ _ _ _=>.int _).imp λx y k h=>by
 unfold nL at h;split at h
 . exact⟨_,_,rfl,rfl,h⟩
 . exact h.elim
theorem J9:Pd X (binaryOp .Mult) (λx y k=>∃i j,x=.int i/\y=.int j/\(cn i/\cn j)/\k (.d (.int (i*j)))):=yx G3 (gd:=λi j=>.int (i*j)) λ_ _ _ _=>.int _
def bc:Pc:=λx y k=>match x,y with
 |.int i,.int j=>cn i/\cn j/\k (.d (.int (i*j)))
 |_,_=>False
theorem aU:Pd X (binaryOp .Mult) bc:=J9.imp λx y k h=>by
 unfold bc at h;split at h
 . exact⟨_,_,rfl,rfl,⟨h.1,h.2.1⟩,h.2.2⟩
 . exact h.elim
theorem jc:Pd X (binaryOp .FloorDiv) mi:=(yx G4 (gd:=λi j=>.int (i.fdiv j)) λ_ _ _ _=>.int _).imp λx y k h=>by
 unfold mi at h;split at h
 . exact⟨_,_,rfl,rfl,⟨h.1,h.2.1⟩,h.2.2⟩
 . exact h.elim
theorem de:Pd X (binaryOp .Mod) fK:=(yx GI (gd:=λi j=>.int (i.fmod j)) λ_ _ _ _=>.int _).imp λx y k h=>by
 unfold fK at h;split at h
 . exact⟨_,_,rfl,rfl,h.1,h.2⟩
 . exact h.elim
theorem Bo:Pd X (binaryOp .Pow) zQ:=(yx JH (gd:=λi j=>.int (i^j.toNat)) λ_ _ _ _=>.int _).imp λx y k h=>by
 unfold zQ at h;split at h
 . exact⟨_,_,rfl,rfl,⟨h.1,h.2.1,h.2.2.1⟩,h.2.2.2⟩
 . exact h.elim
theorem vn:Pd X (compareOp .Lt) yw:=(pW JJ (gd:=λi j=>.bl (decide (i<j))) λ_ _ _ _=>.bl _).imp λx y k h=>by
 unfold yw at h;split at h
 . exact⟨_,_,rfl,rfl,h⟩
 . exact h.elim
theorem DW:Pd X (compareOp .LtE) Dl:=(pW JK (gd:=λi j=>.bl (decide (i<=j))) λ_ _ _ _=>.bl _).imp λx y k h=>by
 unfold Dl at h;split at h
 . exact⟨_,_,rfl,rfl,h⟩
 . exact h.elim
theorem tR:Pd X (compareOp .Gt) AI:=(pW Mh (gd:=λi j=>.bl (decide (j<i))) λ_ _ _ _=>.bl _).imp λx y k h=>by
 unfold AI at h;split at h
 . exact⟨_,_,rfl,rfl,h⟩
 . exact h.elim
theorem Mp:Pd X (compareOp .GtE) LG:=(pW Mi (gd:=λi j=>.bl (decide (j<=i))) λ_ _ _ _=>.bl _).imp λx y k h=>by
 unfold LG at h;split at h
 . exact⟨_,_,rfl,rfl,h⟩
 . exact h.elim
mutual
noncomputable def Po:D->PyData
 |.non=>.none
 |.bl b=>.bool b
 |.int i=>.int i
 |.str x=>.str x
 |.tup xs=>.tuple (gK xs)
 |.lst xs=>.list (gK xs)
 |.dct _=>.dict []
 |.exc _ _ _=>.dict []
 |.fn _ _=>.dict []
 |.dk _ _=>.dict []
 |.gf _=>.dict []
noncomputable def gK:List D->List PyData
 |[]=>[]
 |x::xs=>Po x::gK xs
end
noncomputable def Pp(x y:D):Bool:=PyData.eqv (Po x) (Po y)
def cq(x:D):Prop:=SeqAt.shaped (Po x)=true
def lj:Pc:=λx y k=>cq x/\cq y/\k (.d (.bl (Pp x y)))
def yz:Pc:=λx y k=>cq x/\cq y/\k (.d (.bl (!Pp x y)))
mutual
theorem mj{gV:List (Addr×Obj)}{σ:St}{H:Hp}{s:Shared}(I:Oq X gV σ H s):∀(d:D)(x:V)(u:Value),bU x u->O8 X.K H x d->(Po d).canLay0=true->∃as,Reads s.heap u (Po d) as
 |.non,_,_,rv,r,_=>by cases r;cases rv;exact⟨_,.none⟩
 |.bl b,_,_,rv,r,_=>by cases r;cases rv;exact⟨_,.bool b⟩
 |.int i,_,_,rv,r,_=>by cases r;obtain⟨t,rfl⟩:=rv;exact⟨_,.int i t⟩
 |.str z,_,_,rv,r,_=>by cases r;obtain⟨t,rfl⟩:=rv;exact⟨_,.str z t⟩
 | .tup xs,_,_,rv,r,hc=>by
  cases r with
  | tup h rs =>
   cases rv
   obtain⟨its,vs,⟨o,e,c,n,d⟩,_⟩:=I.tuple h
   obtain⟨as,ra⟩:=lp I xs _ _ vs rs hc
   exact⟨_,.tuple (xs:=gK xs) e c d (by simpa using ra)⟩
 | .lst xs,_,_,rv,r,hc=>by
  cases r with
  | lst h rs =>
   cases rv
   obtain⟨its,vs,⟨o,n,e,c,_,d⟩,_⟩:=I.list h.l
   obtain⟨as,ra⟩:=lp I xs _ _ vs rs hc
   exact⟨_,.list (xs:=gK xs) e c d (by simpa using ra)⟩
 |.dct _,_,_,_,_,hc=>nomatch hc
 |.exc _ _ _,_,_,_,_,hc=>nomatch hc
 |.fn _ _,_,_,_,_,hc=>nomatch hc
 |.dk _ _,_,_,_,_,hc=>nomatch hc
 |.gf _,_,_,_,_,hc=>nomatch hc
theorem lp{gV:List (Addr×Obj)}{σ:St}{H:Hp}{s:Shared}(I:Oq X gV σ H s):∀(ds:List D)(vs:List V)(us:List Value),bZ vs us->bM X.K H vs ds->PyData.canLayAll0 (gK ds)=true->∃as,ReadsAll s.heap us (gK ds) as
 |[],_,_,rv,r,_=>by cases r;cases rv;exact⟨_,.nil⟩
 | d::ds,_,_,rv,r,hc=>by
  have hc':(Po d).canLay0=true/\PyData.canLayAll0 (gK ds)=true:=by simpa[gK,PyData.canLayAll0]using hc
  cases r with
  | cons r0 rs =>
   cases rv with
   | cons v0 vs =>
    obtain⟨as,ra⟩:=mj I d _ _ v0 r0 hc'.1
    obtain⟨bs,rb⟩:=lp I ds _ _ vs rs hc'.2
    exact⟨_,.cons ra rb⟩
end
theorem df(hu:X.A.units+64<cLine):Pd X (compareOp .Eq) lj:=by intro gV s σ H Pr Z x y v u dx dy p4 I rx ry E px py ⟨h1,h2,ho⟩;obtain⟨as,ra⟩:=mj I dx x v rx px (SeqAt.canLay_of_shaped h1);obtain⟨bs,rb⟩:=mj I dy y u ry py (SeqAt.canLay_of_shaped h2);exact eq_dataH ra rb h1 h2 hu ⟨.bl _,H,_,I,rfl,E.cons_d (.bl _),ho⟩
theorem rN(hu:X.A.units+64<cLine):Pd X (compareOp .NotEq) yz:=by intro gV s σ H Pr Z x y v u dx dy p4 I rx ry E px py ⟨h1,h2,ho⟩;obtain⟨as,ra⟩:=mj I dx x v rx px (SeqAt.canLay_of_shaped h1);obtain⟨bs,rb⟩:=mj I dy y u ry py (SeqAt.canLay_of_shaped h2);exact ne_dataH ra rb h1 h2 hu ⟨.bl _,H,_,I,rfl,E.cons_d (.bl _),ho⟩
theorem Ka:Pd X (compareOp .Is) (λx y k=>y=.non/\k (.d (.bl (match x with | .non=>true|_=>false)))):=Pd.of JL λσ H Pr Z x y dx dy p4 E px py ⟨e,h⟩=>by subst e;cases py;refine⟨rfl,_,E.cons_d (.bl _),?_⟩;cases px<;>exact h
theorem G9:Pd X (compareOp .IsNot) (λx y k=>y=.non/\k (.d (.bl (match x with | .non=>false|_=>true)))):=Pd.of GJ λσ H Pr Z x y dx dy p4 E px py ⟨e,h⟩=>by subst e;cases py;refine⟨rfl,_,E.cons_d (.bl _),?_⟩;cases px<;>exact h
def aM:Pc:=λx y k=>match x,y with
 |.lst xs,.int i=>∃v,OV xs i=some v/\k (.d v)
 |.tup xs,.int i=>∃v,OV xs i=some v/\k (.d v)
 |.str z,.int i=>z.length<=sizeLine/\∃c,OV z.cps.toList i=some c/\k (.d (.str ⟨#[c]⟩))
 |_,_=>False
theorem w8{K:PySem.W.Frag}{H:Hp}{vs:List V}{xs:List D}(r:bM K H vs xs){i:Int}{x:D}(h:OV xs i=some x):∃v,OV vs i=some v/\O8 K H v x:=by
 unfold OV at h ⊢;rw[r.length]
 cases q:OU xs.length i with
 |none=>rw[q]at h;cases h
 | some j =>
  rw[q]at h;exact r.get h
theorem Ha{x y:D}{k:L->Prop}(h:aM x y k):∃i,y=.int i/\((∃xs,x=.lst xs/\∃v,OV xs i=some v/\k (.d v))∨(∃xs,x=.tup xs/\∃v,OV xs i=some v/\k (.d v))∨∃z,x=.str z/\z.length<=sizeLine/\∃c,OV z.cps.toList i=some c/\k (.d (.str ⟨#[c]⟩))):=by
 unfold aM at h;split at h
 . exact⟨_,rfl,.inl ⟨_,rfl,h⟩⟩
 . exact⟨_,rfl,.inr (.inl ⟨_,rfl,h⟩)⟩
 . exact⟨_,rfl,.inr (.inr ⟨_,rfl,h⟩)⟩
 . exact h.elim
theorem av(ha:PL X a ta)(hb:PL X b tb)(hs:wR b):PL X (.Subscript a b pos) (au aM ta tb):=by
 intro gV s σ H Pr Z p4 I E h;refine Subscript_ (two (R:=λdx dy Z2=>aM dx dy λr=>p4 r Z2) ha hb I E h λv u s2 x y H2 dx dy Z2 I2 r1 r2 E2 p1 p2 q=>?_);have Ov:∀(Q:VK),(∀z H',Q z H'->∃r,aA X.K Pr H' (some z::σ) (r::Z2)/\p4 r Z2)->∀w s',EP X gV σ Q w s'->EL X gV σ Pr p4 w s':=λQ hQ w s' ⟨z,H',I',rz,q⟩=>by obtain⟨r,E',p⟩:=hQ z H' q;exact⟨z,H',r,Z2,I',rz,E',p⟩
 have Eσ:=E2.tail.tail;obtain⟨i,rfl,⟨xs,rfl,z,hz',q⟩|⟨xs,rfl,z,hz',q⟩|⟨z,rfl,hz,c,hc,q⟩⟩:=Ha q
 .
  cases p2
  cases p1 with
  | lst hz rs =>
   obtain⟨w,hw,rw⟩:=w8 rs hz';exact Ot (A8 a b gV s2 σ H2 _ _ v u (λz H'=>z=w/\H'=H2) I2 r1 r2 ⟨_,_,i,w,rfl,rfl,hz.l,hw,rfl,rfl⟩ (hs _ _)) (Ov _ λz H' ⟨e1,e2⟩=>by subst e1 e2;exact⟨_,Eσ.cons_d rw,q⟩)
 .
  cases p2
  cases p1 with
  | tup hz rs =>
   obtain⟨w,hw,rw⟩:=w8 rs hz';exact Ot (JQ a b gV s2 σ H2 _ _ v u (λz H'=>z=w/\H'=H2) I2 r1 r2 ⟨_,_,i,w,rfl,rfl,hz,hw,rfl,rfl⟩ (hs _ _)) (Ov _ λz H' ⟨e1,e2⟩=>by subst e1 e2;exact⟨_,Eσ.cons_d rw,q⟩)
 . cases p2;cases p1;exact Ot (JR a b gV s2 σ H2 _ _ v u (λz H'=>z=.str ⟨#[c]⟩/\H'=H2) I2 r1 r2 ⟨z,i,c,rfl,rfl,hz,hc,rfl,rfl⟩ (hs _ _)) (Ov _ λz H' ⟨e1,e2⟩=>by subst e1 e2;exact⟨_,Eσ.cons_d (.str _),q⟩)
end
section
variable{X:Cx}{e a b c:Expr}{es:List Expr}{pos p:Pos}{ta:W L}{x:Str}{bs:List (Option Nat)}{t:W (List L)}{id T:String}
abbrev Pq:=List D->(L->Prop)->Prop
def gL(X:Cx)(f:Value)(op:Pq):Prop :=
 ∀(gV:List (Addr×Obj))(s:Shared)(σ:St)(H Pr:Hp)(Z:Ev)(vs:List V)(us:List Value)(ds:List D)(p4:L->Prop),Oq X gV σ H s->bZ vs us->aA X.K Pr H σ Z->bM X.K H vs ds->op ds p4 ->
  wpAny (model X.prog X.w) X.A (call f us) (λw s'=>∃z H' r,Oq X gV σ H' s'/\bU z w/\aA X.K Pr H' (some z::σ) (r::Z)/\p4 r) X.xe s
theorem gL.of{f:Value}{r:List V->Hp->VK->Prop}{op:Pq}(h:iY X f r)(q:∀σ H Pr Z vs ds p4,aA X.K Pr H σ Z->bM X.K H vs ds->op ds p4->r vs H λz H'=>∃r,aA X.K Pr H' (some z::σ) (r::Z)/\p4 r):gL X f op :=
 λgV s σ H Pr Z vs us ds p4 I rv E ps ho=>Ot (h gV s σ H vs us _ I rv (q σ H Pr Z vs ds p4 E ps ho)) λw s' ⟨z,H',I',rz,r,E',p⟩=>⟨z,H',r,I',rz,E',p⟩
def aR(op:Pq)(t:W (List L)):W L:=λZ p4=>t Z λls Z1=>DS ls λds=>op ds λr=>p4 r Z1
theorem aH(hc:gL X (.builtin id) op)(hg:Gl X x)(hm:X.mg x=none)(hv:bootBuiltins x=some (.builtin id))(ha:O9 X (e::es) bs t) (hn:x≠"__name__":=by decide) (hdb:(x == ("__debug__" : Str))=false:=by decide)
  (he:starEach (e::es) X.env=(false,eval e X.env)::starEach es X.env:=by rfl) (hpl:(backTo pos (starEach es X.env)).any (·.1)=false:=by rfl):PL X (.Call (.Name x p) (e::es) [] pos) (aR op t):=by
 intro gV s σ H Pr Z p4 I E h;refine wpAny_Call_Name_kw (iJ I hg hm hv ?_ hn hdb);refine PyProof.Rows.callWith_builtin1 (Ot (ha pos gV s σ H Pr Z _ I E h) λus s1 ⟨vs,H1,ls,Z1,I1,r1,hl,hb,E1,_,q1⟩=>?_) he hpl;obtain⟨ds,rfl,q2⟩:=i9 q1;have kz:vs.length=ds.length:=by simpa using hl
 exact Ot (hc gV s1 σ H1 Pr Z1 vs us ds _ I1 r1 (E1.drop (by simp[kz])) (lg kz E1) q2) λw s2 ⟨z,H2,r,I2,rz,E2,q⟩=>⟨z,H2,r,Z1,I2,rz,E2,q⟩
theorem eU(hc:gL X (.type T) op)(hg:Gl X x)(hm:X.mg x=none)(hv:bootBuiltins x=some (.type T))(ha:O9 X (e::es) bs t) (hn:x≠"__name__":=by decide) (hdb:(x == ("__debug__" : Str))=false:=by decide)
  (he:starEach (e::es) X.env=(false,eval e X.env)::starEach es X.env:=by rfl) (hpl:(backTo pos (starEach es X.env)).any (·.1)=false:=by rfl):PL X (.Call (.Name x p) (e::es) [] pos) (aR op t):=by
 intro gV s σ H Pr Z p4 I E h;refine wpAny_Call_Name_kw (iJ I hg hm hv ?_ hn hdb);refine PyProof.Rows.callWith_type1 (Ot (ha pos gV s σ H Pr Z _ I E h) λus s1 ⟨vs,H1,ls,Z1,I1,r1,hl,hb,E1,_,q1⟩=>?_) he hpl;obtain⟨ds,rfl,q2⟩:=i9 q1;have kz:vs.length=ds.length:=by simpa using hl
 exact Ot (hc gV s1 σ H1 Pr Z1 vs us ds _ I1 r1 (E1.drop (by simp[kz])) (lg kz E1) q2) λw s2 ⟨z,H2,r,I2,rz,E2,q⟩=>⟨z,H2,r,Z1,I2,rz,E2,q⟩
def bJ:Pq:=λds k=>match ds with
 |[.lst xs]=>k (.d (.int xs.length))
 |[.tup xs]=>k (.d (.int xs.length))
 |[.str x]=>x.length<=sizeLine/\k (.d (.int x.length))
 |_=>False
theorem pX{K:PySem.W.Frag}{H:Hp}{vs:List V}{d:D}(r:bM K H vs [d]):∃v,vs=[v]/\O8 K H v d:=by
 cases r with
 |cons h t=>cases t;exact⟨_,rfl,h⟩
theorem Kb{K:PySem.W.Frag}{H:Hp}{vs:List V}{d d':D}(r:bM K H vs [d,d']):∃v w,vs=[v,w]/\O8 K H v d/\O8 K H w d':=by
 cases r with
 | cons h t=>cases t with
  |cons h' t=>cases t;exact⟨_,_,rfl,h,h'⟩
theorem bz:gL X (.builtin "len") bJ:=gL.of (oz.or ve) λσ H Pr Z vs ds p4 E ps h=>by
 unfold bJ at h;split at h
 .
  obtain⟨v,rfl,r⟩:=pX ps
  cases r with
  |lst hz rs=>exact .inl ⟨_,_,rfl,.inl hz.l,_,E.cons_d (.int _),by rw[rs.length];exact h⟩
 .
  obtain⟨v,rfl,r⟩:=pX ps
  cases r with
  |tup hz rs=>exact .inl ⟨_,_,rfl,.inr hz,_,E.cons_d (.int _),by rw[rs.length];exact h⟩
 .
  obtain⟨v,rfl,r⟩:=pX ps
  cases r with
  |str z=>exact .inr ⟨_,rfl,h.1,_,E.cons_d (.int _),h.2⟩
 . exact h.elim
def zR:Pq:=λds k=>match ds with
 |[.int i]=>k (.d (.int (if i<0 then -i else i)))
 |_=>False
theorem Bp:gL X (.builtin "abs") zR:=gL.of Dy λσ H Pr Z vs ds p4 E ps h=>by
 unfold zR at h;split at h
 .
  obtain⟨v,rfl,r⟩:=pX ps
  cases r with
  |int i=>exact⟨_,rfl,_,E.cons_d (.int _),h⟩
 . exact h.elim
def DX:Pq:=λds k=>match ds with
 |[.int i,.int j]=>k (.d (.int (if j > i then j else i)))
 |_=>False
def Bq:Pq:=λds k=>match ds with
 |[.int i,.int j]=>k (.d (.int (if j<i then j else i)))
 |_=>False
theorem Kc(hc:X.calm=true):gL X (.builtin "max") DX:=gL.of (A0 hc) λσ H Pr Z vs ds p4 E ps h=>by
 unfold DX at h;split at h
 .
  obtain⟨v,w,rfl,r,r'⟩:=Kb ps
  cases r with
  | int i=>cases r' with
   |int j=>exact⟨_,_,rfl,_,E.cons_d (.int _),h⟩
 . exact h.elim
theorem F6(hc:X.calm=true):gL X (.builtin "min") Bq:=gL.of (A1 hc) λσ H Pr Z vs ds p4 E ps h=>by
 unfold Bq at h;split at h
 .
  obtain⟨v,w,rfl,r,r'⟩:=Kb ps
  cases r with
  | int i=>cases r' with
   |int j=>exact⟨_,_,rfl,_,E.cons_d (.int _),h⟩
 . exact h.elim
def tS:Pq:=λds k=>match ds with
 |[.int i]=>k (.d (.int i))
 |[.bl b]=>k (.d (.int (if b then 1 else 0)))
 |_=>False
theorem sJ:gL X (.type "int") tS:=gL.of A2 λσ H Pr Z vs ds p4 E ps h=>by
 unfold tS at h;split at h
 .
  obtain⟨v,rfl,r⟩:=pX ps
  cases r with
  |int i=>exact .inl ⟨_,rfl,_,E.cons_d (.int _),h⟩
 .
  obtain⟨v,rfl,r⟩:=pX ps
  cases r with
  |bl i=>exact .inr ⟨_,rfl,_,E.cons_d (.int _),h⟩
 . exact h.elim
def yA:Pq:=λds k=>match ds with
 |[.lst xs]=>∀a,k (.own a xs)
 |[.tup xs]=>∀a,k (.own a xs)
 |_=>False
theorem Hb:gL X (.type "list") yA:=gL.of oA λσ H Pr Z vs ds p4 E ps h=>by
 unfold yA at h;split at h
 .
  obtain⟨v,rfl,r⟩:=pX ps
  cases r with
  |lst hz rs=>exact⟨_,_,rfl,.inl hz.l,λl hl=>⟨_,E.cons_own hl rs,h l⟩⟩
 .
  obtain⟨v,rfl,r⟩:=pX ps
  cases r with
  |tup hz rs=>exact⟨_,_,rfl,.inr hz,λl hl=>⟨_,E.cons_own hl rs,h l⟩⟩
 . exact h.elim
noncomputable def Pu:D->Value
 |.non=>.type "NoneType"
 |.bl _=>.type "bool"
 |.int _=>.type "int"
 |.str _=>.type "str"
 |.tup _=>.type "tuple"
 |.lst _=>.type "list"
 |.dct _=>.type "dict"
 |.exc _ _ _=>.none
 |.fn _ _=>.type "function"
 |.dk _ _=>.type "dict"
 |.gf _=>.type "function"
def Pv(K:PySem.W.Frag)(d:D)(t:Value):Prop:=match d with
 |.exc c _ _=>∃C,t=.ref C/\km K c C=true
 |d=>t=Pu d
theorem DY{gV:List (Addr×Obj)}{σ:St}{H:Hp}{s:Shared}{a:Addr}{o:Obj}{u:HO}{C:Addr}{ns:List Str}{vs:List V}(I:Oq X gV σ H s)(h:H a=some (.frz o u))(hc:o.cls=.ref C)(hn:PySem.W.notCls o=true)(hf:XF H o.dict ns vs):∃od,PySem.W.InstAt s.heap a o C od/\∀d,o.dict=some d->∃q,od=some q/\s.heap.get? d=some q:=by
 have e:=(show s.heap.get? a=some o/\_ from I.hok a _ h).1;rcases hf with⟨_,_,z⟩|⟨d,od,z,h2,_⟩
 . exact⟨none,⟨e,hc,hn,by rw[z];trivial⟩,λd q=>by rw[z]at q;cases q⟩
 . have e2:=(show s.heap.get? d=some od/\_ from I.hok d _ h2).1;exact⟨some od,⟨e,hc,hn,by rw[z];exact e2⟩,λd' q=>by rw[z]at q;cases q;exact⟨od,rfl,e2⟩⟩
theorem DZ{gV:List (Addr×Obj)}{σ:St}{H:Hp}{s:Shared}{x:V}{u c:Value}{d:D}{b:Bool}{Q:Value->Shared->Prop}{A:Around}{E:Value->Shared->Prop}(I:Oq X gV σ H s)(rx:bU x u)(r:O8 X.K H x d)(e:∀t,Pv X.K d t->PySem.W.kitOne X.K t c=some b)(h:∀tk,Q (.bool b) {s with toks:=tk}) :
  wpAny (model X.prog X.w) A (call (.builtin "isinstance") [u,c]) Q E s:=by
 cases r with
 |non=>cases rx;exact PySem.W.kia_one PySem.W.kitx_none I.kIn True.intro (e _ rfl) (λz=>nomatch z) h
 |bl y=>cases rx;exact PySem.W.kia_one PySem.W.kitx_bool I.kIn True.intro (e _ rfl) (λz=>nomatch z) h
 |int i=>obtain⟨t,rfl⟩:=rx;exact PySem.W.kia_one PySem.W.kitx_int I.kIn True.intro (e _ rfl) (λz=>nomatch z) h
 |str y=>obtain⟨t,rfl⟩:=rx;exact PySem.W.kia_one PySem.W.kitx_str I.kIn True.intro (e _ rfl) (λz=>nomatch z) h
 | lst hz rs =>
  cases rx;obtain⟨its,_,⟨o,n,e1,c1,_,_⟩,_⟩:=I.list hz.l;exact PySem.W.kia_one PySem.W.kitx_list I.kIn ⟨o,e1,c1⟩ (e _ rfl) (λz=>nomatch z) h
 | tup hz rs =>
  cases rx;obtain⟨its,_,⟨o,e1,c1,_⟩,_⟩:=I.tuple hz;exact PySem.W.kia_one PySem.W.kitx_tuple I.kIn ⟨o,e1,c1⟩ (e _ rfl) (λz=>nomatch z) h
 | @dct a o kvs hz =>
  cases rx;obtain⟨_,_,_,vs,_,o',es,ep,h1,h2,_⟩:=(show dB X.prog X.w H s.heap a (.frz o (.dK kvs))from I.hok a _ hz);exact PySem.W.kia_one PySem.W.kitx_dict I.kIn ⟨o',h1,h2.1⟩ (e _ rfl) (λz=>nomatch z) h
 | @exc a o u cc C ns vs ds h1 hv hc hn hs hq hf rs =>
  cases rx;obtain⟨od,Ia,_⟩:=DY I h1 hc hn hf;obtain⟨LL,cd,S⟩:=i7 hs;exact PySem.W.kia_one (DH S) I.kIn ⟨_,_,Ia⟩ (e _ ⟨C,rfl,hs⟩) (λz=>nomatch z) h
 | fn hl hf hq hc hz hd hv hm r =>
  cases rx;exact PySem.W.kia_one Bd I.kIn ⟨_,(I.hok _ _ hf).1,rfl⟩ (e _ rfl) (λz=>nomatch z) h
 | @dk a' o kvs ds hz rs =>
  cases rx;obtain⟨_,_,_,vs,_,o',es,ep,h1,h2,_⟩:=(show dB X.prog X.w H s.heap a' (.frz o (.dK kvs))from I.hok a' _ hz);exact PySem.W.kia_one PySem.W.kitx_dict I.kIn ⟨o',h1,h2.1⟩ (e _ rfl) (λz=>nomatch z) h
 | gf hx hl hk =>
  cases rx;exact PySem.W.kia_one Bd I.kIn ⟨_,I.kIn _ _ hl,rfl⟩ (e _ rfl) (λz=>nomatch z) h
noncomputable def nM(T:String):D->Bool
 |.non=>T == "NoneType"
 |.bl _=>T == "bool" ||T == "int"
 |.int _=>T == "int"
 |.str _=>T == "str"
 |.tup _=>T == "tuple"
 |.lst _=>T == "list"
 |.dct _=>T == "dict"
 |.exc _ _ _=>(["ValueError","Exception","BaseException","object"]:List String).contains T
 |.fn _ _=>T == "function"
 |.dk _ _=>T == "dict"
 |.gf _=>T == "function"
def vo(T:String):D->(L->Prop)->Prop:=λd k=>k (.d (.bl (nM T d)))
theorem vp{T:String}{y:Str}{py:Pos}(hT:∀ K d t,Pv K d t->PySem.W.kitOne K t (.type T)=some (nM T d)) (hg:Gl X "isinstance") (hm:X.mg "isinstance"=none) (hy:Gl X y) (hmy:X.mg y=none) (hby:bootBuiltins y=some (.type T)) (ha:PL X a ta)
  (hny:y≠"__name__":=by decide) (hdy:(y == ("__debug__" : Str))=false:=by decide)
  (h1:starEach [a,.Name y py] X.env=(false,eval a X.env)::starEach [.Name y py] X.env:=by rfl) (h2:starEach [.Name y py] X.env=[(false,eval (.Name y py) X.env)]:=by rfl) (hpl:(backTo pos (starEach [.Name y py] X.env)).any (·.1)=false:=by rfl) :
  PL X (.Call (.Name "isinstance" p) [a,.Name y py] [] pos) (Ph (vo T) ta):=by
 have cr:iY X (.builtin "isinstance") (λxs H Q=>∃ x d,xs=[x,.ty T]/\O8 X.K H x d/\Q (.bl (nM T d)) H):=by intro gV s σ H xs us Q I rv h;obtain⟨x,d,rfl,r,q⟩:=h;obtain⟨u,w,rfl,r1,r2⟩:=Dx rv;cases r2;exact DZ I r1 r (hT _ d) λtk=>⟨.bl _,H,I.tok _,rfl,q⟩
 refine PL.of (yq cr hg hm y_ (cM (az ha).pe (cM (GF hy hmy hby (v:=.ty T) rfl hny hdy) iZ h2) h1) (he:=h1) (hpl:=hpl)) λσ H Pr Z p4 E h=>?_
 refine⟨Pr,Z,λr Z1=>match r with
  |.d x=>vo T x λr=>p4 r Z1
  |_=>False,E,h,λv H' r Z' E' p=>?_⟩
 cases r with
 | d x =>
  obtain⟨_,e1,p1⟩:=E'.head_d;cases e1;exact⟨_,x,rfl,p1,_,Z',E'.tail.cons_d (.bl _),p⟩
 |_=>exact p.elim
end
section
variable{X:Cx}{e a b:Expr}{pos p apos cpos:Pos}{tb te:W L}{x:Str}
theorem aA.updOwn{K:PySem.W.Frag}{Pr H:Hp}{σ:St}{Z:Ev}{i:Nat}{l:Addr}{xs ys:List D}{vs:List V}(E:aA K Pr H σ Z)(q:Z[i]?=some (.own l xs))(r:bM K H vs ys):aA K Pr (Og H l (.lst vs)) σ (Z.set i (.own l ys)):=by obtain⟨sv,hs,rfl,_⟩:=E.slot q;have hi:i<Z.length:=(SB.mp q).1;have E1:=(E.out q).write r;have E2:=E1.back (i:=i) (by simp[hi]) hs;rw[List.set_set]at E2;exact E2
theorem aA.ownAt{K:PySem.W.Frag}{Pr H:Hp}{σ:St}{Z:Ev}{i:Nat}{l:Addr}{xs:List D}(E:aA K Pr H σ Z)(q:Z[i]?=some (.own l xs)):σ[i]?=some (some (.ref l))/\∃vs,H l=some (.lst vs)/\bM K H vs xs:=by obtain⟨sv,hs,rfl,r⟩:=E.slot q;exact⟨hs,r⟩
def w9(i:Nat)(Z:Ev)(k:Addr->List D->Prop):Prop:=match Z[i]? with
 |some (.own a xs)=>k a xs
 |_=>False
theorem hJ{i:Nat}{Z:Ev}{k:Addr->List D->Prop}(h:w9 i Z k):∃a xs,Z[i]?=some (.own a xs)/\k a xs:=by
 unfold w9 at h
 cases q:Z[i]? with
 |none=>rw[q]at h;exact h.elim
 | some l =>
  rw[q]at h
  cases l with
  |own a xs=>exact⟨a,xs,rfl,h⟩
  |un=>exact h.elim
  |d x=>exact h.elim
  |bx _ _=>exact h.elim
  |dic _ _=>exact h.elim
def Br(i:Nat)(te:W L):W L:=λZ p4=>w9 i Z λ_ _=>te Z λr Z1=>Pb r λy=>w9 i Z1 λa xs=>xs.length<sizeLine/\p4 (.d .non) (Z1.set i (.own a (xs++[y])))
theorem dg(i:Nat)(he:PL X e te)(hN:X.N[i]?=some x:=by rfl)(hv:On X.env.scope x:=by first | exact Or.inl rfl | exact Or.inr (Or.inl rfl) | exact Or.inr (Or.inr rfl)) (hd:(x == ("__debug__" : Str))=false:=by decide)
  (hcd:(x == ("__classdict__" : Str))=false:=by decide) (hs1:starEach [e] X.env=[(false,eval e X.env)]:=by rfl) (hbase:attributeBase (.Name x p) "append" X.env (eval (.Name x p) X.env)=eval (.Name x p) X.env:=by rfl)
  (hfew:((backTo cpos (starEach [e] X.env)).all (λx=>!x.1) && (backToKw cpos (keywordEach [] X.env)).all (λx=>x.1.isSome)
   && decide (([e]).length+([]:List Keyword).length+(if([]:List Keyword).isEmpty then 0 else 1)<30))=true:=by rfl)
  (hline:(apos.endLine == cpos.line)=true:=by rfl) (hplain:(backTo cpos (starEach ([]:List Expr) X.env)).any (·.1)=false:=by rfl) :
  PL X (.Call (.Attribute (.Name x p) "append" apos) [e] [] cpos) (Br i te):=by
 refine PL.of (JU PySem.F.plainAttrs_list PySem.F.slot_list_append PySem.F.type_list_append vf (cR hN hv hd hcd) (cM (az he).pe iZ hs1) (hbase:=hbase) (hfew:=hfew) (hline:=hline) (hs:=hs1) (hplain:=hplain)) λσ H Pr Z p4 E h=>?_;obtain⟨l,xs0,q0,h⟩:=hJ h;obtain⟨hσ,vs0,hl0,_⟩:=E.ownAt q0
 refine⟨.ref l,hσ,.inl ⟨rfl,vs0,Ow.of hl0⟩,Pr,Z,λr Z1=>match r with
  |.d y=>w9 i Z1 λa xs=>xs.length<sizeLine/\p4 (.d .non) (Z1.set i (.own a (xs++[y])))
  |_=>False,E,h,λv H' r Z' E' pp=>?_⟩
 cases r with
 | d y =>
  obtain⟨l',xs,q,kz,pp⟩:=hJ pp;obtain⟨hσ',vs,hl,r⟩:=E'.tail.ownAt q;rw[hσ]at hσ';cases hσ';obtain⟨_,e1,p1⟩:=E'.head_d;cases e1;exact⟨l,vs,v,rfl,rfl,hl,by rw[r.length];exact kz,_,_,(E'.tail.updOwn q (r.append (.cons p1 .nil))).cons_d .non,pp⟩
 |_=>exact pp.elim
def yB(i:Nat)(tb:W L):W L:=λZ p4=>w9 i Z λ_ _=>tb Z λr Z1=>nK r λj=>w9 i Z1 λ_ xs=>∃y,OV xs j=some y/\p4 (.d y) Z1
theorem iO(i:Nat)(hb:PL X b tb)(hs:wR b)(hN:X.N[i]?=some x:=by rfl)(hv:On X.env.scope x:=by first | exact Or.inl rfl | exact Or.inr (Or.inl rfl) | exact Or.inr (Or.inr rfl)) (hd:(x == ("__debug__" : Str))=false:=by decide)
  (hcd:(x == ("__classdict__" : Str))=false:=by decide):PL X (.Subscript (.Name x p) b pos) (yB i tb):=by
 refine PL.of (Ml A8 (cR hN hv hd hcd) hb.pe hs) λσ H Pr Z p4 E h=>?_;obtain⟨l,xs0,q0,h⟩:=hJ h;obtain⟨hσ,vs0,hl0,_⟩:=E.ownAt q0;refine⟨.ref l,hσ,Pr,Z,_,E,h,λv H' r Z' E' pp=>?_⟩;obtain⟨j,rfl,pp⟩:=dP pp;obtain⟨l',xs,q,y,hy,pp⟩:=hJ pp;obtain⟨hσ',vs,hl,r⟩:=E'.tail.ownAt q;rw[hσ]at hσ';cases hσ';obtain⟨_,e1,p1⟩:=E'.head_d;cases e1;cases p1;obtain⟨w,hw,rw⟩:=w8 r hy;exact⟨l,vs,j,w,rfl,rfl,Ow.of hl,hw,_,Z',E'.tail.cons_d rw,pp⟩
def D1(i:Nat):W L:=λZ p4=>w9 i Z λ_ xs=>p4 (.d (.int xs.length)) Z
theorem Bs(i:Nat) (hg:Gl X "len") (hm:X.mg "len"=none) (hN:X.N[i]?=some x:=by rfl) (hv:On X.env.scope x:=by first | exact Or.inl rfl | exact Or.inr (Or.inl rfl) | exact Or.inr (Or.inr rfl)) (hd:(x == ("__debug__" : Str))=false:=by decide)
  (hcd:(x == ("__classdict__" : Str))=false:=by decide) (h1:starEach [.Name x p] X.env=[(false,eval (.Name x p) X.env)]:=by rfl) (hpl:(backTo pos (starEach ([]:List Expr) X.env)).any (·.1)=false:=by rfl) :
  PL X (.Call (.Name "len" apos) [.Name x p] [] pos) (D1 i):=by
 refine PL.of (yq oz hg hm PySem.boot_len (cM (cR hN hv hd hcd) iZ h1) (he:=h1) (hpl:=hpl)) λσ H Pr Z p4 E h=>?_;obtain⟨l,xs0,q0,h⟩:=hJ h;obtain⟨hσ,vs0,hl0,r⟩:=E.ownAt q0;exact⟨.ref l,hσ,l,vs0,rfl,.inl (Ow.of hl0),_,Z,E.cons_d (.int _),by rw[r.length];exact h⟩
def xa(i:Nat)(tb te:W L):W Fl:=λZ p4=>te Z λr Z1=>Pb r λy=>w9 i Z1 λ_ _=>tb Z1 λr Z2=>nK r λj=>w9 i Z2 λa xs=>∃k,OU xs.length j=some k/\p4 .nx (Z2.set i (.own a (xs.set k y)))
theorem pY(i:Nat){b:Expr}{ps:Pos}(hb:PL X b tb)(he:PL X e te)(hN:X.N[i]?=some x:=by rfl)(hv:On X.env.scope x:=by first | exact Or.inl rfl | exact Or.inr (Or.inl rfl) | exact Or.inr (Or.inr rfl)) (hd:(x == ("__debug__" : Str))=false:=by decide)
  (hcd:(x == ("__classdict__" : Str))=false:=by decide)
  (ha:∀v,assign (.Subscript (.Name x p) b ps) X.env v=(do
   let ov <- holding [v] (eval (.Name x p) X.env)
   let iv <- holding [v,ov] (eval b X.env)
   standAt ps
   holding [v,ov,iv] (setItem ov iv v)
   release [v,ov,iv] []):=by intro _;rfl)
  (hs:swapsWithSole [.Subscript (.Name x p) b ps] e pos.line X.env=pure false:=by rfl) (hw:swappedStores [.Subscript (.Name x p) b ps] e X.env=pure none:=by rfl)
  (h1:(assignEach [.Subscript (.Name x p) b ps] X.env).map (·.2)=[assign (.Subscript (.Name x p) b ps) X.env]:=by rfl):PM X (.Assign [.Subscript (.Name x p) b ps] e pos) (xa i tb te):=by
 refine PM.of (JA (az he).pe (Jz (cR hN hv hd hcd) hb.pe DC ha) hs hw h1) λσ H Pr Z p4 kz E h=>?_
 refine⟨Pr,Z,λr Z1=>match r with
  |.d y=>w9 i Z1 λ_ _=>tb Z1 λr Z2=>nK r λj=>w9 i Z2 λa xs=>∃k,OU xs.length j=some k/\p4 .nx (Z2.set i (.own a (xs.set k y)))
  |_=>False,E,h,λv H' r Z' E' pp=>?_⟩
 cases r with
 | d y =>
  obtain⟨l,xs0,q0,pp⟩:=hJ pp;obtain⟨hσ,vs0,hl0,_⟩:=E'.tail.ownAt q0;refine⟨.ref l,hσ,bF H' Z',Z',_,E'.tail.wide,pp,λw H2 r2 Z2 E2 pp=>?_⟩;obtain⟨j,rfl,pp⟩:=dP pp;obtain⟨l',xs,q,k,hk,pp⟩:=hJ pp;obtain⟨_,e1,p1⟩:=E2.head_d;cases e1;cases p1;have E3:aA X.K Pr H2 (some (.int j)::some v::σ) (.d (.int j)::.d y::Z2):=aA.step (τ:=[some v]) (lam:=[.d y]) (w:=[some (.int j)]) (μ:=[.d (.int j)]) E' rfl E2 rfl;obtain⟨_,e1,p1⟩:=E3.tail.head_d;cases e1;obtain⟨hσ',vs,hl,r⟩:=E3.tail.tail.ownAt q;rw[hσ]at hσ';cases hσ';refine⟨l,vs,j,k,rfl,rfl,hl,by rw[r.length];exact hk,_,E3.tail.tail.updOwn q (r.set p1 k),pp⟩
 |_=>exact pp.elim
def zS:Option (W L)->Ev->(Option Int->Ev->Prop)->Prop
 |none=>λZ k=>k none Z
 |some t=>λZ k=>t Z λr Z1=>nK r λi=>k (some i) Z1
noncomputable def Hc{α:Type}(xs:List α)(lo hi:Option Int):List α:=(xs.drop (HT.sIx xs.length 0 lo)).take (HT.sIx xs.length xs.length hi-HT.sIx xs.length 0 lo)
end
noncomputable def bB:List Nat->Ev->Ev
 |[],Z=>Z
 |j::r,Z=>(bB r Z).set j .un
noncomputable def cK(fi:List Nat)(Z:Ev):Ev:=fi.map λj=>(Z[j]?).getD .un
noncomputable def b8(fi:List Nat)(σ:St):St:=fi.map λj=>(σ[j]?).getD none
noncomputable def gM:List Nat->Ev->Ev->Ev
 |j::r,c::cs,Z=>gM r cs (Z.set j c)
 |_,_,Z=>Z
theorem eV:∀(fi:List Nat)(Z:Ev),(bB fi Z).length=Z.length
 |[],_=>rfl
 |j::r,Z=>by unfold bB;rw[List.length_set,eV r Z]
theorem vq:∀(fi:List Nat)(Z:Ev)(j:Nat),j∉fi->(bB fi Z)[j]?=Z[j]?
 |[],_,_,_=>rfl
 | i::r,Z,j,h=>by unfold bB;rw[List.getElem?_set_ne (λe=>h (by simp[e])),vq r Z j λe=>h (SC _ e)]
theorem yC:∀(fi:List Nat)(Z:Ev)(j:Nat),j∈fi->j<Z.length->(bB fi Z)[j]?=some .un
 | i::r,Z,j,h,hl=>by
  unfold bB;by_cases e:i=j
  . subst e;rw[List.getElem?_set_self (by rw[eV];exact hl)]
  . rw[List.getElem?_set_ne e];exact yC r Z j ((SK.mp h).resolve_left λz=>e z.symm) hl
section
variable{K:PySem.W.Frag}{Pr H:Hp}{σ:St}{Z:Ev}
theorem aA.takeAt(E:aA K Pr H σ Z){i:Nat}{l:L}{s:Option V}(h:Z[i]?=some l)(hs:σ[i]?=some s):aA K Pr H (s::σ) (l::Z.set i .un):=E.outL h hs
theorem aA.takes(E:aA K Pr H σ Z):∀(fi:List Nat),fi.Nodup->(∀j∈fi,j<Z.length)->aA K Pr H (b8 fi σ++σ) (cK fi Z++bB fi Z)
 |[],_,_=>E
 | j::r,nd,hl=>by
  have ih:=E.takes r (List.nodup_cons.mp nd).2 λi hi=>hl i (SC _ hi);have hj:j<Z.length:=hl j SE;have hjs:j<σ.length:=by rw[E.len];exact hj
  have e1:(cK r Z++bB r Z)[r.length+j]?=some Z[j]:=by rw[List.getElem?_append_right (by simp[cK])];simp only[cK,SH,Nat.add_sub_cancel_left];rw[vq r Z j (List.nodup_cons.mp nd).1];exact so hj
  have e2:(b8 r σ++σ)[r.length+j]?=some σ[j]:=by rw[List.getElem?_append_right (by simp[b8])];simp only[b8,SH,Nat.add_sub_cancel_left];exact so hjs
  have z:=ih.takeAt e1 e2;rw[List.set_append_right _ _ (by simp[cK])]at z;simp only[cK,SH,Nat.add_sub_cancel_left]at z;have c1:b8 (j::r) σ=σ[j]::b8 r σ:=by simp[b8,hjs]
  have c2:cK (j::r) Z=Z[j]::cK r Z:=by simp[cK,hj]
  rw[c1,c2];exact z
theorem aA.backs:∀(fi:List Nat){cs Z:Ev},fi.Nodup->cs.length=fi.length->(∀j∈fi,Z[j]?=some .un)->(∀j∈fi,j<σ.length)->aA K Pr H (b8 fi σ++σ) (cs++Z)->aA K Pr H σ (gM fi cs Z)
 |[],[],Z,_,_,_,_,E=>E
 | j::r,c::cs,Z,nd,hl,hu,hs,E=>by
  have hjs:j<σ.length:=hs j SE;have hj:=hu j SE;have c1:b8 (j::r) σ=σ[j]::b8 r σ:=by simp[b8,hjs]
  rw[c1]at E;have hlr:cs.length=r.length:=by simpa using hl
  have z:=aA.back (σ:=b8 r σ++σ) (Z:=cs++Z) (l:=c) E (i:=r.length+j) (by
   rw[List.getElem?_append_right xL,hlr,Nat.add_sub_cancel_left];exact hj) (by
   rw[List.getElem?_append_right (by simp[b8])];simp only[b8,SH,Nat.add_sub_cancel_left]
   exact so hjs)
  rw[List.set_append_right _ _ xL,hlr,Nat.add_sub_cancel_left]at z
  exact aA.backs r (List.nodup_cons.mp nd).2 hlr (λi hi=>by
   rw[List.getElem?_set_ne (λe=>(List.nodup_cons.mp nd).1 (by rw[e];exact hi))];exact hu i (SC _ hi)) (λi hi=>hs i (SC _ hi)) z
 |[],_::_,_,_,hl,_,_,_=>by simp at hl
 |_::_,[],_,_,hl,_,_,_=>by simp at hl
end
noncomputable def zU(cells:List (Str×Addr)):List (Str×NameKind)->List (Str×Addr)->List (Str×Addr)
 |[],acc=>acc
 |(n,k)::r,acc=>zU cells r (if k == .free then(match cells.lookup n with|some c=>(n,c)::acc|none=>acc)else acc)
theorem nN{env:Env}:∀(names:List (Str×NameKind))(acc:List (Str×Addr)),(∀x∈names,x.2=.free->∃c,env.cells.lookup x.1=some c) ->
  (forIn names acc λ(x:Str×NameKind) (cs:List (Str×Addr))=>(if x.2 == .free then do let c <- cellOf env x.1;pure (ForInStep.yield ((x.1,c)::cs))else pure (ForInStep.yield cs):Sem (ForInStep (List (Str×Addr)))))=pure (zU env.cells names acc)
 |[],acc,_=>rfl
 | (n,k)::r,acc,h=>by
  rw[List.forIn_cons];by_cases hk:(k == NameKind.free)=true
  .
   obtain⟨c,hc⟩:=h (n,k) SE (by simpa using hk);have e:cellOf env n=pure c:=by unfold cellOf;rw[show env.cells.lookup n=some c from hc]
   simp only[hk,if_true,e,pure_bind,zU,hc];exact nN r _ λx hx=>h x (SC _ hx)
  . simp only[hk,zU,if_false,pure_bind];exact nN r _ λx hx=>h x (SC _ hx)
theorem tT{scope:Scope}{env:Env}(h:∀x∈scope.names,x.2=.free->∃c,env.cells.lookup x.1=some c):closureFor scope env=pure (zU env.cells scope.names []):=by have:=nN (env:=env) scope.names [] h;unfold closureFor;simp only[bind_pure_comp]at this ⊢;rw[this];rfl
theorem yD{cells:List (Str×Addr)}:∀(names:List (Str×NameKind))(acc:List (Str×Addr)),(∀x c,acc.lookup x=some c->cells.lookup x=some c)->∀x c,(zU cells names acc).lookup x=some c->cells.lookup x=some c
 |[],acc,h,x,c,e=>h x c e
 | (n,k)::r,acc,h,x,c,e=>by
  unfold zU at e;refine yD r _ (λy d ey=>?_) x c e;split at ey
  .
   split at ey
   .
    rename_i q;rw[List.lookup_cons]at ey;split at ey
    .
     rename_i e2;have:y=n:=by simpa using e2
     cases ey;rw[this];exact q
    . exact h y d ey
   . exact h y d ey
  . exact h y d ey
theorem o3{n:Str}{c:Addr}{acc:List (Str×Addr)}{x:Str}(h:∃d,acc.lookup x=some d):∃d,((n,c)::acc).lookup x=some d:=by
 rw[List.lookup_cons];split
 . exact⟨_,rfl⟩
 . exact h
theorem tU{cells:List (Str×Addr)}:∀(names:List (Str×NameKind))(acc:List (Str×Addr))(x:Str),((∃d,acc.lookup x=some d)∨((x,NameKind.free)∈names/\∃c,cells.lookup x=some c))->∃d,(zU cells names acc).lookup x=some d
 | [],acc,x,h=>by
  rcases h with h|⟨h,_⟩
  . exact h
  . simp at h
 | (n,k)::r,acc,x,h=>by
  unfold zU;refine tU r _ x ?_;rcases h with h|⟨hm,c,hc⟩
  .
   left;split
   .
    split
    . exact o3 h
    . exact h
   . exact h
  .
   rcases SK.mp hm with e|hm
   . cases e;left;simp only[hc,beq_self_eq_true,if_true];exact⟨c,by simp[List.lookup_cons]⟩
   . exact .inr ⟨hm,c,hc⟩
noncomputable def iP(X:Cx)(scope:Scope)(cl:List (Str×Addr))(Nb:List Str)(s₀:Shared)(H₀:Hp)(fp:List Addr):Cx :=
 {X with N:=Nb,s₀:=s₀,H₀:=H₀,env:=compEnvC scope cl s₀.heap.objs.size X.env,outer:=X.stack,stack:=X.stack,ex:=fp,fn:=λ_=>false,pn:=[],xe:=λ_ _=>False}
theorem j3{α β:Type}{F:α->β->Prop}:∀{a:List α}{b:List β},Paired F a b↔a.length=b.length/\∀p∈a.zip b,F p.1 p.2
 |[],[]=>⟨λ_=>⟨rfl,λ_ h=>by simp at h⟩,λ_=>.nil⟩
 |[],_::_=>⟨(λh=>nomatch h),λh=>by simp at h⟩
 |_::_,[]=>⟨(λh=>nomatch h),λh=>by simp at h⟩
 | x::a,y::b=>by
  constructor
  .
   intro h
   cases h with
   | cons r t =>
    obtain⟨h1,h2⟩:=j3.mp t
    exact⟨by simp[h1],λp hp=>by
     rw[List.zip_cons_cons]at hp;rcases SK.mp hp with rfl|hp
     . exact r
     .
      exact h2 p hp⟩
  . rintro⟨hl,h⟩;exact .cons (h (x,y) v6) (j3.mpr ⟨by simpa using hl,λp hp=>h p (by rw[List.zip_cons_cons];exact SC _ hp)⟩)
theorem tV:∀{σ:St}{Z:Ev},σ.length=Z.length->(σ.zip Z).map (·.2)=Z
 |[],[],_=>rfl
 | _::σ,l::Z,h=>by have ih:=tV (σ:=σ) (Z:=Z) (by simpa using h);rw[List.zip_cons_cons,List.map_cons,ih]
 |[],_::_,h=>by simp at h
 |_::_,[],h=>by simp at h
theorem aA.rearr{K:PySem.W.Frag}{Pr H:Hp}{σ σ2:St}{Z Z2:Ev}(E:aA K Pr H σ Z)(hl:σ2.length=Z2.length)(extra:List (Option V×L))(h:(σ.zip Z).Perm (σ2.zip Z2++extra)):aA K Pr H σ2 Z2:=by
 have pm:(owns Z).Perm (owns Z2++owns (extra.map (·.2))):=by have q:=me (h.map (·.2));rw[List.map_append,tV E.len,tV hl,aK]at q;exact q
 refine⟨E.sub,(List.nodup_append.mp (pm.nodup_iff.mp E.nd)).1,λa ha=>E.off a (pm.mem_iff.mpr (List.mem_append_left _ ha)),j3.mpr ⟨hl,λp hp=>?_⟩⟩;exact(j3.mp E.sl).2 p (h.mem_iff.mpr (List.mem_append_left _ hp))
theorem vt{fi:List Nat}{σ τ:St}(h:∀j∈fi,j<σ.length):b8 fi (σ++τ)=b8 fi σ:=by unfold b8;refine List.map_congr_left λj hj=>?_;rw[List.getElem?_append_left (h j hj)]
theorem zV{fi:List Nat}{σ τ:Ev}(h:∀j∈fi,j<σ.length):cK fi (σ++τ)=cK fi σ:=by unfold cK;refine List.map_congr_left λj hj=>?_;rw[List.getElem?_append_left (h j hj)]
theorem vw{τ:Ev}:∀{fi:List Nat}{Z:Ev},(∀j∈fi,j<Z.length)->bB fi (Z++τ)=bB fi Z++τ
 |[],_,_=>rfl
 | j::r,Z,h=>by unfold bB;rw[vw λi hi=>h i (SC _ hi),List.set_append_left _ _ (by rw[eV];exact h j SE)]
theorem sL{τ:Ev}:∀{fi:List Nat}{cs Z:Ev},(∀j∈fi,j<Z.length)->gM fi cs (Z++τ)=gM fi cs Z++τ
 |[],[],_,_=>rfl
 |[],_::_,_,_=>rfl
 |_::_,[],_,_=>rfl
 | j::r,c::cs,Z,h=>by unfold gM;rw[List.set_append_left _ _ (h j SE)];exact sL λi hi=>by rw[List.length_set];exact h i (SC _ hi)
theorem eW{env:Env}:∀{names:List (Str×NameKind)}{x:Str},names.lookup x=some .free ->
  (names.map λ(n,k)=>if(k == NameKind.free && env.scope.kind == .function && env.kindOf n == some .cell)then(n,NameKind.cell)else(n,k)).lookup x=some .cell ∨
  (names.map λ(n,k)=>if(k == NameKind.free && env.scope.kind == .function && env.kindOf n == some .cell)then(n,NameKind.cell)else(n,k)).lookup x=some .free
 |[],_,h=>by simp at h
 | (n,k)::r,x,h=>by
  have ih:=@eW env r x;rw[List.map_cons]
  cases hx:x == n with
  | true =>
   simp only[List.lookup_cons,hx]at h;cases h;dsimp only;by_cases hc:(NameKind.free == NameKind.free && env.scope.kind == .function && env.kindOf n == some .cell)=true
   . left;rw[if_pos hc];simp[List.lookup_cons,hx]
   . right;rw[if_neg hc];simp[List.lookup_cons,hx]
  | false =>
   simp only[List.lookup_cons,hx]at h;dsimp only;by_cases hc:(k == NameKind.free && env.scope.kind == .function && env.kindOf n == some .cell)=true
   . rw[if_pos hc];simp only[List.lookup_cons,hx];exact ih h
   . rw[if_neg hc];simp only[List.lookup_cons,hx];exact ih h
theorem hU{env:Env}:∀{names:List (Str×NameKind)}{x:Str}{k:NameKind},(∀y∈names,y.2≠.cell)->(k=.cell∨k=.free) ->
  (names.map λ(n,k)=>if(k == NameKind.free && env.scope.kind == .function && env.kindOf n == some .cell)then(n,NameKind.cell)else(n,k)).lookup x=some k->(x,NameKind.free)∈names
 |[],_,_,_,_,h=>by simp at h
 | (n,k0)::r,x,k,hc,hk,h=>by
  rw[List.map_cons]at h;dsimp only at h;by_cases q:(k0 == NameKind.free && env.scope.kind == .function && env.kindOf n == some .cell)=true
  .
   rw[if_pos q,List.lookup_cons]at h;have e0:k0=.free:=by have:=(Bool.and_eq_true_iff.mp (Bool.and_eq_true_iff.mp q).1).1;simpa using this
   split at h
   .
    rename_i e;have:x=n:=by simpa using e
    subst this e0;exact SE
   . exact SC _ (hU (λy hy=>hc y (SC _ hy)) hk h)
  .
   rw[if_neg q,List.lookup_cons]at h;split at h
   .
    rename_i e;have:x=n:=by simpa using e
    subst this;have e1:k0=k:=by simpa using h
    subst e1;rcases hk with z|z
    . exact absurd z (hc (x,k0) SE)
    . subst z;exact SE
   . exact SC _ (hU (λy hy=>hc y (SC _ hy)) hk h)
section
variable{prog:Program}{w:World}{A:Around}{R:Result->Shared->Prop}
theorem Bt{elt target iter:Expr}{ifs:List Expr}{scope:Scope}{pos:Pos}{it acc:Value}{env:Env}(I:Nat->Shared->Prop)
  (turn:∀n s,I n s->wpAny (model prog w) A (pyNext it) (λr s₁=>match r with
   |none=>R (.ok .next) s₁
   | some v=>wpAny (model prog w) A (letOwnedTupleGo target it v) (λ_ s₀=>wpAny (model prog w) A (assign target env v) (λ_ s₂ =>
     wpAny (model prog w) A (forIn ifs true λc r=>if r=true then do let ok <- isTrue c env (eval c env);pure (ForInStep.yield ok)else pure (ForInStep.yield r)) (λok s₃ =>
      if ok=true then wpAny (model prog w) A (eval elt env) (λx s₄ =>
       wpAny (model prog w) A (call (.builtin "list.append") [acc,x]) (λ_ s₅=>∃ m,m < n/\I m s₅) (λ_ _=>False) s₄) (λ_ _=>False) s₃
      else ∃m,m<n/\I m s₃) (λ_ _=>False) s₂) (λ_ _=>False) s₀) (λ_ _=>False) s₁) (λ_ _=>False) s)
  (n:Nat) {s:Shared} (h:I n s) :
  codeAny (model prog w) A (.compLoop (.ListComp elt [⟨target,iter,ifs,0⟩] scope pos) 0 it acc env) R s:=by
 refine codeAny_loop rfl I (λn s hI=>?_) n h
 show wpAny _ A ((compTurn (.ListComp elt [⟨target,iter,ifs,0⟩] scope pos) 0 it acc env).onRaise (λx=>do noteFrame x env;theTreesLotGoes x)) _ _ s
 refine wpAny_noted ?_;rw[compTurn_list];have fe:∀{α:Type}{t:Sem α}{Q:α->Shared->Prop}{E:Value->Shared->Prop}{s:Shared},wpAny (model prog w) A t Q (λ_ _=>False) s->wpAny (model prog w) A t Q E s:=λh=>wpAny_mono h (λ_ _ q=>q) λ_ _ z=>z.elim;refine kS (wpAny_standAt (kS (wpAny_mono (turn n s hI) (λr s₁ h₁=>?_) λ_ _ h'=>h'.elim)))
 cases r with
 |none=>exact SG h₁
 | some v =>
  refine kS (wpAny_mono h₁ (λ_ s₀ h₀=>?_) λ_ _ z=>z.elim);refine kS (wpAny_mono h₀ (λ_ s₂ h₂=>kS (wpAny_mono h₂ (λok s₃ h₃=>?_) λ_ _ h'=>h'.elim)) λ_ _ h'=>h'.elim)
  cases ok with
  |false=>exact SG ⟨rfl,h₃⟩
  | true =>
   exact kS (kS (wpAny_mono h₃ (λx s₄ h₄=>kS (wpAny_mono h₄ (λ_ s₅ h₅=>SG (SG ⟨rfl,h₅⟩)) λ_ _ h'=>h'.elim)) λ_ _ h'=>h'.elim))
end
def Pw(X:Cx)(tg:Expr)(n:Nat)(g:Tg):Prop:=∃gg:TG,PG X tg gg/\∀v σ H Pr Z x k,σ.length=X.N.length->aA X.K Pr H σ Z->O8 X.K H v x->g x Z k->gg v σ H λσ' H'=>H'=H/\σ'.drop n=σ.drop n/\∃Z',aA X.K Pr H σ' Z'/\k Z'
theorem bS{X:Cx}{i n:Nat}{x:Str}{pos:Pos}(hn:i<n)(hN:X.N.Nodup)(hi:X.N[i]?=some x)(hx:Oo X.env.scope x)(hf:X.fn x=true∨X.env.scope.names.lookup x=some .local:=by first|exact .inl rfl|exact .inr rfl|assumption):Pw X (.Name x pos) n (aW i) :=
 ⟨_,tI hN hi hx hf,λv σ H Pr Z x k hl E r h=>⟨rfl,by rw[List.drop_set_of_lt hn],_,(E.cons_d r).store (by rw[hl];exact(SB.mp hi).1),h⟩⟩
def Px(X:Cx)(ifs:List Expr)(t:W Bool):Prop :=
 ∀(gV:List (Addr×Obj))(s:Shared)(σ:St)(H Pr:Hp)(Z:Ev)(p4:Bool->Ev->Prop),Oq X gV σ H s->aA X.K Pr H σ Z->t Z p4 ->
  wpAny (model X.prog X.w) X.A (forIn ifs true λc r=>if r=true then do let ok <- isTrue c X.env (eval c X.env);pure (ForInStep.yield ok)else pure (ForInStep.yield r)) (EB X gV σ Pr p4) X.xe s
def eX:W Bool:=λZ p4=>p4 true Z
theorem cO{X:Cx}:Px X [] eX:=λgV s σ H Pr Z p4 I E h=>wpAny_tests_nil ⟨H,Z,I,E,h⟩
theorem nO{X:Cx}{c:Expr}{t:W Bool}(h:PB X c t):Px X [c] t:=λgV s σ H Pr Z p4 I E ht=>wpAny_tests_one (h gV s σ H Pr Z p4 I E ht)
def eI(g:Tg)(ti:W Bool)(te:W L):List D->Ev->List D->(List D->Ev->Prop)->Prop
 |[],Z,acc,k=>k acc Z
 |x::xs,Z,acc,k=>g x Z λZ1=>ti Z1 λb Z2=>if b=true then te Z2 λr Z3=>Pb r λy=>eI g ti te xs Z3 (acc++[y]) k else eI g ti te xs Z2 acc k
def d5(n:Nat)(fi:List Nat)(src:W (List D))(g:Tg)(ti:W Bool)(te:W L):W L:=λZ p4=>src Z λxs Z1=>xs.length<=sizeLine /\
 eI g ti te xs (List.replicate n .un++cK fi Z1) [] λys ρb=>∀a,p4 (.own a ys) (gM fi (ρb.drop n) (bB fi Z1))
section
variable{X:Cx}
theorem vx{elt tg iter:Expr}{ifs:List Expr}{scope sc:Scope}{pos:Pos}{N Nt Nf:List Str}{fi:List Nat}{src:W (List D)}{g:Tg}{ti:W Bool}{te:W L}
  (hsc:X.env.scope=sc) (hXN:X.N=N) (hc:X.calm=true) (hi:Pn X tg iter src)
  (hkind:scope.kind=.function) (hnames:∀x∈scope.names,x.2=.local->scope.names.lookup x.1=some .local) (hcell:∀y∈scope.names,y.2≠.cell)
  (hfr:∀x∈scope.names,x.2=.free->sc.names.lookup x.1=some .cell∨sc.names.lookup x.1=some .free)
  (hnd:fi.Nodup) (hNf:Nf.map some=fi.map (λj=>N[j]?)) (hNk:∀x∈Nf,scope.names.lookup x=some .free) (hfl:∀j∈fi,j<N.length)
  (hg:∀cl s₀ H₀ fp,Pw (iP X scope cl (Nt++Nf) s₀ H₀ fp) tg Nt.length g) (hti:∀cl s₀ H₀ fp,Px (iP X scope cl (Nt++Nf) s₀ H₀ fp) ifs ti) (hte:∀cl s₀ H₀ fp,PL (iP X scope cl (Nt++Nf) s₀ H₀ fp) elt te)
  {gV:List (Addr×Obj)} {s:Shared} {σ:St} {H Pr:Hp} {Z:Ev} {p4:L->Ev->Prop} {use:Option (Value->Sem Unit)} {Q:Value->Shared->Prop} (I:Oq X gV σ H s) (E:aA X.K Pr H σ Z) (h:d5 Nt.length fi src g ti te Z p4)
  (hRR:∀D C s7 H6 acc Z'' m,Oq X gV σ H6 s7->s7.heap.Ns C m->H6 C=none->C≠X.env.locals->X.s₀.heap.objs.size<=C->(∀x c,X.env.cells.lookup x=some c->c≠C)->(∀p∈X.pn++gV,p.1≠C)->aA X.K Pr H6 (some (.ref D)::σ) (.own D acc::Z'')->p4 (.own D acc) Z'' ->
   compPost (model X.prog X.w) X.A X.xe use Q (.ref D) C (.ok .next) s7)
  (hs:∀x,foldedSetIterable iter X.env x=pure x):wpAny (model X.prog X.w) X.A (comprehension (.ListComp elt [⟨tg,iter,ifs,0⟩] scope pos) scope X.env (firstIterPos [⟨tg,iter,ifs,0⟩] pos) (newList []) false (eval iter X.env) use) Q X.xe s:=by
 have hcells:∀x∈scope.names,x.2=.free->∃c,X.env.cells.lookup x.1=some c:=λx hx hk=>I.ok.has x.1 (by
  show X.env.scope.names.lookup x.1=_∨X.env.scope.names.lookup x.1=_
  rw[hsc];exact hfr x hx hk)
 have hsub:=yD (cells:=X.env.cells) scope.names [] (λx c e=>by simp at e);refine wpAny_comprehension_free (use:=use) rfl hs (tT hcells) hkind hnames (Ot (hi gV s σ H Pr Z _ I E h) λv s1 h1=>Ot h1 λitv s2 h2=>?_);obtain⟨it,fp,tn,J,H2,xs,Z2,e,I2,T,st2,f2,E2,G,kz,w0⟩:=h2;subst e;refine wpAny_newObj_type (T:="list") ?_;generalize hD:s2.heap.objs.size=D;have fD:H2 D=none:=by rw[<- hD];exact I2.fresh
 have I3:Oq X gV σ (Og H2 D (.lst [])) {s2 with heap:=s2.heap.push {cls:=.type "list",dict:=none,data:=.seq ([]:List Value).toArray} }:=by have:=Oq.lnew (ys:=[]) (its:=[]) (t':=s2.toks) I2 .nil (Nat.zero_le _);rw[hD]at this;exact this
 have E3:=E2.cons_own (p:=D) (vs:=[]) (xs:=[]) fD .nil;have sz3:(s2.heap.push {cls:=.type "list",dict:=none,data:=.seq ([]:List Value).toArray}).objs.size=D+1:=by rw[Heap.size_push,hD]
 generalize hs3:({s2 with heap:=s2.heap.push {cls:=.type "list",dict:=none,data:=.seq ([]:List Value).toArray} }:Shared)=s3 at I3;have hs3h:s3.heap=s2.heap.push {cls:=.type "list",dict:=none,data:=.seq ([]:List Value).toArray}:=by rw[<- hs3]
 have fpD:∀b∈fp,b≠D:=λb hb=>by obtain⟨o,e,_⟩:=T.obj 0 _ st2 b hb;rw[<- hD];exact Nat.ne_of_lt (SI e)
 have old3:∀b o,s2.heap.get? b=some o->s3.heap.get? b=some o:=λb o e=>by rw[hs3h];exact tu _ e
 refine wpAny_newFunctionEnv (around:=some X.env) hcell (by intro y hy;simp at hy) (λh4 hns4 hsb4=>?_) hkind
 have hns4':h4.Ns s3.heap.objs.size (λ_=>none):=by
  have:(λx=>(([]:List (Str×Value)).reverse.lookup x))=λ_=>(none:Option Value):=by funext x;rfl
  rw[this]at hns4;exact hns4
 have old4:∀b o,s3.heap.get? b=some o->h4.get? b=some o:=λb o e=>by rw[hsb4.2 b (Nat.ne_of_lt (SI e))];exact tu _ e
 have hσl:σ.length=N.length:=by rw[<- hXN];exact I.len
 have hρ2:σ.length=Z2.length:=E2.len;have hjσ:∀j∈fi,j<σ.length:=λj hj=>by rw[hσl];exact hfl j hj
 have hjρ:∀j∈fi,j<Z2.length:=λj hj=>by rw[<- hρ2];exact hjσ j hj
 have hfpl:∀b∈fp,b<s3.heap.objs.size:=λb hb=>by obtain⟨o,e,_⟩:=T.obj 0 _ st2 b hb;exact SI (old3 b o e)
 have hlNf:Nf.length=fi.length:=by have:=congrArg List.length hNf;simpa using this
 have Bok:(iP X scope (zU X.env.cells scope.names []) (Nt++Nf) s3 (Og H2 D (.lst [])) fp).Ok:=by
  refine⟨I3.ok.mod,hkind,I.ok.glob,I.ok.blt,SN _,λx y c e1 e2=>I.ok.inj x y c (hsub x c e1) (hsub y c e2),λx hx=>?_,λx c hf _=>(Bool.false_ne_true hf).elim,I.ok.hd,I.ok.frames,.inl rfl,λb hb=>⟨Nat.ne_of_lt (hfpl b hb),λx c e=>(f2 b hb).2.2.2.2.1 x c (hsub x c e)⟩,I3.bs,SJ I.ok.bsz I3.sz,λb o e hb=>?_,λb hb hm=>?_,I3.stack,I3.stkFree,I3.tbs⟩
  .
   have hm:(x,NameKind.free)∈scope.names:=by
    rcases hx with hx|hx
    . exact hU (env:=X.env) hcell (.inl rfl) hx
    . exact hU (env:=X.env) hcell (.inr rfl) hx
   exact tU scope.names [] x (.inr ⟨hm,hcells _ hm rfl⟩)
  .
   rcases(f2 b hb).2.2.2.1 with z|z
   . exact I.ok.noex b o e z
   . exact absurd (SD (SI (I.ok.bs b o e).1) z) (Nat.lt_irrefl _)
  .
   rcases SK.mp (I3.stkSub b hm)with z|z
   . exact(f2 b hb).2.1 z
   . exact(f2 b hb).2.2.1 z
 have I4:Oq (iP X scope (zU X.env.cells scope.names []) (Nt++Nf) s3 (Og H2 D (.lst [])) fp) [] (List.replicate Nt.length none++b8 fi σ) (Og H2 D (.lst [])) {s3 with heap:=h4,toks:=s3.toks+([]:List (Str×Value)).length}:=by
  refine⟨Bok,rfl,I3.bare,Un.kept old4,⟨_,hns4',λi x v e1 e2 e3=>?_⟩,λx c e=>?_,I3.fresh,λx c e=>(I3.freeC x c (hsub x c e)).imp id λz=>⟨rfl,z.2⟩,λp hp=>absurd (show p∈([]:List (Addr×Obj))from hp) v6,I3.hok.kept old4,?_⟩
  .
   have e1:(Nt++Nf)[i]?=some x:=e1
   have hi':Nt.length<=i:=by
    by_cases q:i<Nt.length
    . rw[List.getElem?_append_left (by simpa using q),List.getElem?_replicate]at e2;split at e2<;>cases e2
    . omega
   rw[List.getElem?_append_right hi']at e1;rw[List.getElem?_append_right (by simpa using hi')]at e2;simp only[List.length_replicate]at e2;generalize i-Nt.length=k at e1 e2;have hk:k<fi.length:=by have:=(SB.mp e1).1;omega
   have e4:(Nf.map some)[k]?=(fi.map λj=>N[j]?)[k]?:=by rw[hNf]
   rw[List.getElem?_map,List.getElem?_map,e1,so hk]at e4;have e5:N[fi[k]]?=some x:=by simpa using e4.symm
   have e6:σ[fi[k]]?=some (some v):=by unfold b8 at e2;rw[List.getElem?_map,so hk]at e2;have hjl:=hjσ fi[k] (List.getElem_mem hk);rw[so hjl];simpa[so hjl]using e2
   have hxm:x∈Nf:=List.mem_of_getElem? e1;have hfree:=hNk x hxm;have hmem:(x,NameKind.free)∈scope.names:=PySem.mem_of_lookup hfree;have hkx:=hfr _ hmem rfl;obtain⟨m,_,hl⟩:=I3.loc;obtain⟨u,ru,lk⟩:=hl fi[k] x v (by rw[hXN];exact e5) e6 (by rw[hsc];exact .inr hkx);refine⟨u,ru,.inr ⟨eW (env:=X.env) hfree,?_⟩⟩;rcases lk with⟨z,_⟩|⟨_,c,hc1,hc2⟩
   .
    have z:X.env.scope.names.lookup x=some .local:=z;rw[hsc]at z;rcases hkx with q|q
    . rw[z]at q;cases q
    . rw[z]at q;cases q
   .
    obtain⟨d,hd⟩:=tU (cells:=X.env.cells) scope.names [] x (.inr ⟨hmem,c,hc1⟩);have:d=c:=by have:=hsub x d hd;rw[hc1]at this;exact(Option.some.inj this).symm
    subst this;obtain⟨o,ho,hdd⟩:=hc2;exact⟨d,hd,o,old4 _ o ho,hdd⟩
  . obtain⟨v,o,ho,hd⟩:=I3.cell x c (hsub x c e);exact⟨v,o,old4 c o ho,hd⟩
  . show(List.replicate Nt.length none++b8 fi σ).length=(Nt++Nf).length;simp[b8,hlNf]
 have E4:aA X.K Pr (Og H2 D (.lst [])) (some (.ref D)::(σ++(List.replicate Nt.length none++b8 fi σ))) (.own D []::(bB fi Z2++(List.replicate Nt.length .un++cK fi Z2))):=by
  have a1:aA X.K Pr (Og H2 D (.lst [])) (σ++[some (.ref D)]) (Z2++[.own D []]):=E3.rearr (by simp[hρ2]) [] (by
   rw[List.append_nil,List.zip_append hρ2]
   exact(List.perm_append_comm (l₁:=[(some (V.ref D),L.own D [])]) (l₂:=σ.zip Z2)))
  have a2:=a1.takes fi hnd λj hj=>by have:=hjρ j hj;simp;omega
  rw[vt hjσ,zV hjρ,vw hjρ]at a2;have a3:=a2.uns Nt.length;have hcl:(b8 fi σ).length=(cK fi Z2).length:=by simp[b8,cK]
  have hul:σ.length=(bB fi Z2).length:=by rw[eV];exact hρ2
  refine a3.rearr (by simp[hul,hcl]) [] ?_;have l1:(b8 fi σ++(σ++[some (V.ref D)])++List.replicate Nt.length none).zip (cK fi Z2++(bB fi Z2++[L.own D []])++List.replicate Nt.length L.un)=((b8 fi σ).zip (cK fi Z2)++(σ.zip (bB fi Z2)++[(some (V.ref D),L.own D [])]))++(List.replicate Nt.length none).zip (List.replicate Nt.length L.un):=by rw[List.zip_append (by simp only[List.length_append,hcl,hul];rfl),List.zip_append hcl,List.zip_append hul];rfl
  have l2:(some (V.ref D)::(σ++(List.replicate Nt.length none++b8 fi σ))).zip (L.own D []::(bB fi Z2++(List.replicate Nt.length L.un++cK fi Z2)))=(some (V.ref D),L.own D [])::(σ.zip (bB fi Z2)++((List.replicate Nt.length none).zip (List.replicate Nt.length L.un)++(b8 fi σ).zip (cK fi Z2))):=by rw[List.zip_cons_cons,List.zip_append hul,List.zip_append v6]
  rw[List.append_nil,l1,l2];generalize (b8 fi σ).zip (cK fi Z2)=z1;generalize σ.zip (bB fi Z2)=z2;generalize (List.replicate Nt.length none).zip (List.replicate Nt.length L.un)=z3;show(z1++(z2++[(some (V.ref D),L.own D [])])++z3).Perm ((some (V.ref D),L.own D [])::(z2++(z3++z1)));have p1:(z1++(z2++[(some (V.ref D),L.own D [])])++z3).Perm ((z2++[(some (V.ref D),L.own D [])])++z3++z1):=by rw[List.append_assoc];exact List.perm_append_comm
  refine p1.trans ?_;rw[List.append_assoc,List.append_assoc];exact List.perm_middle
 clear E3
 let B:Cx:=iP X scope (zU X.env.cells scope.names []) (Nt++Nf) s3 (Og H2 D (.lst [])) fp
 have hul:σ.length=(bB fi Z2).length:=by rw[eV];exact hρ2
 have stat:∀{H':Hp},(∀b∈fp,H' b=none)->∀b∈fp,Dk B [] H' b:=λhn b hb=>by
  refine⟨hn b hb,Nat.ne_of_lt (hfpl b hb),λhm=>?_,.inl hb,λx c e=>(f2 b hb).2.2.2.2.1 x c (hsub x c e),λp hp=>absurd (show p∈([]:List (Addr×Obj))from hp) v6⟩;rcases SK.mp (I3.stkSub b hm)with z|z
  . exact(f2 b hb).2.1 z
  . exact(f2 b hb).2.2.1 z
 have loop:∀s5:Shared,s5={s3 with heap:=h4,toks:=s3.toks+([]:List (Str×Value)).length}->codeAny (model X.prog X.w) X.A (.compLoop (.ListComp elt [⟨tg,iter,ifs,0⟩] scope pos) 0 (.ref it) (.ref D) B.env)
   (compPost (model X.prog X.w) X.A X.xe use Q (.ref D) s3.heap.objs.size) s5:=by
  rintro s5 rfl
  refine Bt (λn s'=>∃i σ' H' Z' acc,n+i=xs.length/\Oq B [] σ' H' s'/\tn i s'.heap/\(∀b∈fp,H' b=none)/\σ'.drop Nt.length=b8 fi σ/\aA X.K Pr H' (some (.ref D)::(σ++σ')) (.own D acc::(bB fi Z2++Z'))/\acc.length<=i /\
   eI g ti te (xs.drop i) Z' acc λys ρb=>∀a,p4 (.own a ys) (gM fi (ρb.drop Nt.length) (bB fi Z2))) ?_ xs.length
   ⟨0,_,_,_,[],xL,I4,T.keep 0 _ _ st2 λb hb o e=>old4 b o (old3 b o e),λb hb=>by rw[aD (fpD b hb)];exact(f2 b hb).1,v6,E4,SN _,by simpa using w0⟩
  rintro n s6 ⟨i,σ6,H6,Z6,acc,hn,I6,st6,fr6,dr6,E6,hal,w6⟩
  have pr:sH H2 H6:=λb o p e=>by
   have ne:b≠D:=λz=>by rw[z,fD]at e;cases e
   have e':B.H₀ b=some o:=by show Og H2 D (.lst []) b=some o;rw[aD ne];exact e
   cases o with
   |tup ys=>exact I6.base.tups b ys e'
   |frz ob u=>exact I6.base.frzs b ob u e'
   |tbl t=>exact I6.base.tbls b t e'
   |_=>exact p.elim
  obtain⟨go,stop⟩:=G H6 pr;have hτ:(some (V.ref D)::σ).length=(L.own D acc::bB fi Z2).length:=by simp[hul]
  by_cases hlt:i<xs.length
  .
   obtain⟨hgo,hy⟩:=go i xs[i] (so hlt);rw[List.drop_eq_getElem_cons hlt]at w6;refine Ot (T.item B rfl rfl rfl hc i [] s6 σ6 H6 (λ_ _=>False) I6 (stat fr6) st6 hgo) λr s7 jqz=>?_;obtain⟨u,hr,h7⟩:=jqz;subst hr;refine Ot h7 λ_ s8 jqz=>?_;obtain⟨x,H8,I8,r8,y8,st8,fr8⟩:=jqz;obtain⟨gr,rx⟩:=hy x H8 y8;have I8':=I8.pinned (stat fr8) (T.obj _ _ st8);have E8:=E6.grown gr;have E8a:aA X.K (bF H8 Z6) H8 σ6 Z6:=(aA.drop (τ:=some (V.ref D)::σ) (lam:=L.own D acc::bB fi Z2) E8 hτ).wide;obtain⟨gg,hgg,hgs⟩:=hg (zU X.env.cells scope.names []) s3 (Og H2 D (.lst [])) fp;refine Ot (hgg _ s8 σ6 H8 x u _ I8' r8 (hgs x σ6 H8 _ Z6 xs[i] _ I8.len E8a rx w6)) λ_ s9 jqz=>?_;obtain⟨σ9,H9,I9,e9,dr9,Z9,E9,q9⟩:=jqz;subst e9;have F9:aA X.K Pr H9 (some (V.ref D)::(σ++σ9)) (L.own D acc::(bB fi Z2++Z9)):=aA.step (τ:=some (V.ref D)::σ) (lam:=L.own D acc::bB fi Z2) (w:=[]) (μ:=[]) E8 hτ E9 rfl;have F9a:aA X.K (bF H9 Z9) H9 σ9 Z9:=(aA.drop (τ:=some (V.ref D)::σ) (lam:=L.own D acc::bB fi Z2) F9 hτ).wide;refine Ot (hti _ _ _ _ _ s9 σ9 H9 _ Z9 _ I9 F9a q9) λok sA jqz=>?_;obtain⟨HA,ρA,IA,EA,qA⟩:=jqz;have FA:aA X.K Pr HA (some (V.ref D)::(σ++σ9)) (L.own D acc::(bB fi Z2++ρA)):=aA.step (τ:=some (V.ref D)::σ) (lam:=L.own D acc::bB fi Z2) (w:=[]) (μ:=[]) F9 hτ EA rfl
   have again:∀{sZ:Shared}{HZ:Hp}{ρZ:Ev}{acc':List L2.D},Oq B ([]++u6 fp s8.heap) σ9 HZ sZ->aA X.K Pr HZ (some (.ref D)::(σ++σ9)) (.own D acc'::(bB fi Z2++ρZ))->acc'.length<=i+1 ->
     (eI g ti te (xs.drop (i+1)) ρZ acc' λys ρb=>∀a,p4 (.own a ys) (gM fi (ρb.drop Nt.length) (bB fi Z2)))->∃m,m<n/\∃i σ' H' Z' acc,m+i=xs.length/\Oq B [] σ' H' sZ/\tn i sZ.heap/\(∀b∈fp,H' b=none)/\σ'.drop Nt.length=b8 fi σ /\
     aA X.K Pr H' (some (.ref D)::(σ++σ')) (.own D acc::(bB fi Z2++Z'))/\acc.length<=i/\eI g ti te (xs.drop i) Z' acc λys ρb=>∀a,p4 (.own a ys) (gM fi (ρb.drop Nt.length) (bB fi Z2)):=λ{sZ HZ ρZ acc'} IZ EZ hz qZ=>by
    refine⟨n-1,xL,i+1,σ9,HZ,ρZ,acc',xL,IZ.unpinned,T.keep _ _ _ st8 λb hb o e=>(IZ.pin (b,o) (List.mem_append_right _ (List.mem_append_right _ (jX hb e)))).1,λb hb=>?_,dr9.trans dr6,EZ,hz,qZ⟩;obtain⟨o,e,d⟩:=T.obj _ _ st8 b hb;exact(IZ.pin (b,o) (List.mem_append_right _ (List.mem_append_right _ (jX hb e)))).2.1
   cases ok with
   | false =>
    rw[if_neg Bool.false_ne_true]at qA ⊢;exact again IA FA xL qA
   | true =>
    rw[if_pos rfl]at qA ⊢;have FAa:aA X.K (bF HA ρA) HA σ9 ρA:=(aA.drop (τ:=some (V.ref D)::σ) (lam:=L.own D acc::bB fi Z2) FA hτ).wide;refine Ot (hte _ _ _ _ _ sA σ9 HA _ ρA _ IA FAa qA) λux sB qB=>?_;obtain⟨vy,HB,y,ρB,IB,rB,EB,qB⟩:=EL.frz (X:=B) (p4:=λy Z3=>eI g ti te (xs.drop (i+1)) Z3 (acc++[y]) λys ρb=>∀a,p4 (.own a ys) (gM fi (ρb.drop Nt.length) (bB fi Z2))) qB;have FB:aA X.K Pr HB (some vy::(some (V.ref D)::(σ++σ9))) (.d y::(L.own D acc::(bB fi Z2++ρB))):=aA.step (τ:=some (V.ref D)::σ) (lam:=L.own D acc::bB fi Z2) (w:=[some vy]) (μ:=[.d y]) FA hτ EB rfl;obtain⟨_,e1,p1⟩:=FB.head_d;cases e1;have Py:=FB.tail.sl
    cases Py with
    | cons q0 _ =>
     obtain⟨_,vs,hDB,rvs⟩:=q0;refine Ot (vf (X:=B) _ sB σ9 HB (.ref D) [vy] (.ref D) [ux] (λz H'=>H'=Og HB D (.lst (vs++[vy]))) IB rfl (.cons rB .nil) ⟨D,vs,vy,rfl,rfl,hDB,by rw[rvs.length];omega,rfl⟩) λ_ sC ⟨z,HC,IC,_,eC⟩=>?_;subst eC;exact again IC (FB.tail.write (rvs.append (.cons p1 .nil))) (by simp;omega) qB
  .
   have e:i=xs.length:=by omega
   subst e;refine Ot (T.done B rfl rfl rfl hc xs.length [] s6 σ6 H6 (λ_ _=>False) I6 (stat fr6) st6 stop) λr s7 jqz=>?_;obtain⟨hr,I7⟩:=jqz;subst hr;rw[List.drop_length]at w6;obtain⟨m,hm,_⟩:=id I7.loc;have I8:Oq X gV σ H6 s7:=I3.call' (ch:=fp) I7.os I7.base I7.hok I7.bare λb hb=>⟨(f2 b hb).2.2.2.1,(f2 b hb).2.1,(f2 b hb).2.2.2.2.1,(f2 b hb).2.2.2.2.2⟩;have f4:=I3.fpOk (H':=H6) (b:=s3.heap.objs.size) (SN _) I7.free
   .
    have hlen6:σ6.length=Z6.length:=(aA.drop (τ:=some (V.ref D)::σ) (lam:=L.own D acc::bB fi Z2) E6 hτ).len
    have a1:aA X.K Pr H6 (b8 fi σ++(σ++[some (V.ref D)])) (Z6.drop Nt.length++(bB fi Z2++[L.own D acc])):=by
     have hcd:(b8 fi σ).length=(Z6.drop Nt.length).length:=by rw[<- dr6,List.length_drop,List.length_drop,hlen6]
     refine E6.rearr (by simp[hcd,hul,hlen6]) ((σ6.take Nt.length).zip (Z6.take Nt.length)) ?_;have l0:σ6.zip Z6=(σ6.take Nt.length).zip (Z6.take Nt.length)++(b8 fi σ).zip (Z6.drop Nt.length):=by rw[<- dr6,<- List.zip_append (by simp[hlen6]),List.take_append_drop,List.take_append_drop]
     have l1:(some (V.ref D)::(σ++σ6)).zip (L.own D acc::(bB fi Z2++Z6))=(some (V.ref D),L.own D acc)::(σ.zip (bB fi Z2)++σ6.zip Z6):=by rw[List.zip_cons_cons,List.zip_append hul]
     have l2:(b8 fi σ++(σ++[some (V.ref D)])).zip (Z6.drop Nt.length++(bB fi Z2++[L.own D acc]))=(b8 fi σ).zip (Z6.drop Nt.length)++(σ.zip (bB fi Z2)++[(some (V.ref D),L.own D acc)]):=by rw[List.zip_append hcd,List.zip_append hul];rfl
     rw[l1,l2,l0];generalize (b8 fi σ).zip (Z6.drop Nt.length)=z1;generalize σ.zip (bB fi Z2)=z2;generalize (σ6.take Nt.length).zip (Z6.take Nt.length)=z3;have p1:((some (V.ref D),L.own D acc)::(z2++(z3++z1))).Perm ((z2++[(some (V.ref D),L.own D acc)])++(z3++z1)):=by rw[List.append_assoc];exact List.perm_middle.symm
     refine p1.trans ?_;have p2:((z2++[(some (V.ref D),L.own D acc)])++(z3++z1)).Perm ((z3++z1)++(z2++[(some (V.ref D),L.own D acc)])):=List.perm_append_comm;refine p2.trans ?_;rw[List.append_assoc];exact List.perm_append_comm
    have a2:=aA.backs (σ:=σ++[some (V.ref D)]) (cs:=Z6.drop Nt.length) (Z:=bB fi Z2++[L.own D acc]) fi hnd (by rw[List.length_drop,<- hlen6,<- List.length_drop,dr6];simp[b8]) (λj hj=>by
     rw[List.getElem?_append_left (by rw[eV];exact hjρ j hj)];exact yC fi Z2 j hj (hjρ j hj)) (λj hj=>by have:=hjσ j hj;simp;omega) (by rw[vt hjσ];exact a1)
    rw[sL λj hj=>by rw[eV];exact hjρ j hj]at a2;have hpl:σ.length=(gM fi (Z6.drop Nt.length) (bB fi Z2)).length:=by have:=a2.len;simpa using this
    refine hRR D s3.heap.objs.size s7 H6 acc (gM fi (Z6.drop Nt.length) (bB fi Z2)) m I8 hm f4.1 f4.2.1 I3.sz f4.2.2.2.2.1 f4.2.2.2.2.2 (a2.rearr (by simp[hpl]) [] ?_) (w6 D);rw[List.append_nil,List.zip_append hpl,List.zip_cons_cons];exact List.perm_append_comm (l₂:=[(some (V.ref D),L.own D acc)])
 exact codeAny_compStart_list (loop _ rfl) (T.self _ 0 _ _ _ (T.keep 0 _ _ st2 λb hb o e=>old4 b o (old3 b o e)) (loop _ rfl))
theorem dC{elt tg iter:Expr}{ifs:List Expr}{scope sc:Scope}{pos:Pos}{N Nt Nf:List Str}{fi:List Nat}{src:W (List D)}{g:Tg}{ti:W Bool}{te:W L}
  (hsc:X.env.scope=sc) (hXN:X.N=N) (hc:X.calm=true) (hi:Pn X tg iter src)
  (hkind:scope.kind=.function) (hnames:∀x∈scope.names,x.2=.local->scope.names.lookup x.1=some .local) (hcell:∀y∈scope.names,y.2≠.cell)
  (hfr:∀x∈scope.names,x.2=.free->sc.names.lookup x.1=some .cell∨sc.names.lookup x.1=some .free)
  (hnd:fi.Nodup) (hNf:Nf.map some=fi.map (λj=>N[j]?)) (hNk:∀x∈Nf,scope.names.lookup x=some .free) (hfl:∀j∈fi,j<N.length)
  (hg:∀cl s₀ H₀ fp,Pw (iP X scope cl (Nt++Nf) s₀ H₀ fp) tg Nt.length g) (hti:∀cl s₀ H₀ fp,Px (iP X scope cl (Nt++Nf) s₀ H₀ fp) ifs ti) (hte:∀cl s₀ H₀ fp,PL (iP X scope cl (Nt++Nf) s₀ H₀ fp) elt te)
  (hs:∀x,foldedSetIterable iter X.env x=pure x:=by intro _;rfl):PL X (.ListComp elt [⟨tg,iter,ifs,0⟩] scope pos) (d5 Nt.length fi src g ti te):=by
 intro gV s σ H Pr Z p4 I E h;rw[eval_ListComp];refine vx (use:=none) hsc hXN hc hi hkind hnames hcell hfr hnd hNf hNk hfl hg hti hte I E h (λD C s7 H6 acc Z'' m I7 hm h1 h2 h3 h4 h5 E7 p=>?_) hs;exact⟨m,hm,λh' hsb=>⟨.ref D,H6,_,Z'',I7.turned (t':=s7.toks) (λb o hb e=>(hsb.2 b hb).trans e) h1 (Ne.symm (Ne.symm h2)) (.inr h3) h4 h5,rfl,E7,p⟩⟩
theorem hW{elt tg iter:Expr}{ifs:List Expr}{scope sc:Scope}{pos spos py:Pos}{y:Str}{j:Nat}{N Nt Nf:List Str}{fi:List Nat}{src:W (List D)}{g:Tg}{ti:W Bool}{te:W L}
  (hN:X.N.Nodup) (hj:X.N[j]?=some y) (hy:Oo X.env.scope y)
  (hsc:X.env.scope=sc) (hXN:X.N=N) (hc:X.calm=true) (hi:Pn X tg iter src)
  (hkind:scope.kind=.function) (hnames:∀x∈scope.names,x.2=.local->scope.names.lookup x.1=some .local) (hcell:∀y∈scope.names,y.2≠.cell)
  (hfr:∀x∈scope.names,x.2=.free->sc.names.lookup x.1=some .cell∨sc.names.lookup x.1=some .free)
  (hnd:fi.Nodup) (hNf:Nf.map some=fi.map (λj=>N[j]?)) (hNk:∀x∈Nf,scope.names.lookup x=some .free) (hfl:∀j∈fi,j<N.length)
  (hg:∀cl s₀ H₀ fp,Pw (iP X scope cl (Nt++Nf) s₀ H₀ fp) tg Nt.length g) (hti:∀cl s₀ H₀ fp,Px (iP X scope cl (Nt++Nf) s₀ H₀ fp) ifs ti) (hte:∀cl s₀ H₀ fp,PL (iP X scope cl (Nt++Nf) s₀ H₀ fp) elt te)
  (hsw:swapsWith (.ListComp elt [⟨tg,iter,ifs,0⟩] scope pos) (some (.Name y py)) spos.line X.env=pure true:=by rfl) (hf:X.fn y=true∨X.env.scope.names.lookup y=some .local:=by first|exact .inl rfl|exact .inr rfl|assumption)
  (hs:∀x,foldedSetIterable iter X.env x=pure x:=by intro _;rfl):PM X (.Assign [.Name y py] (.ListComp elt [⟨tg,iter,ifs,0⟩] scope pos) spos) (bo j (d5 Nt.length fi src g ti te)):=by
 intro gV s σ H Pr Z p4 I E h;rw[exec_Assign_Name_used _ _ _ _ hsw];refine kS (wpAny_standAt (kS ?_))
 show wpAny _ X.A (do let _ <- comprehension (.ListComp elt [⟨tg,iter,ifs,0⟩] scope pos) scope X.env (firstIterPos [⟨tg,iter,ifs,0⟩] pos) (newList []) false (eval iter X.env) (some (assign (.Name y py) X.env))) _ _ s
 refine kS (Ot (vx (use:=some (assign (.Name y py) X.env)) (Q:=λ_ s'=>SM X gV Pr p4 .next s') (p4:=λr Z1=>p4 .nx (Z1.set j r)) hsc hXN hc hi hkind hnames hcell hfr hnd hNf hNk hfl hg hti hte I E h (λD C s7 H6 acc Z'' m I7 hm h1 h2 h3 h4 h5 E7 p=>?_) hs) λ_ s' hq=>SG (SG hq))
 show wpAny _ X.A (assign (.Name y py) X.env (.ref D)) _ _ _;refine wpAny_assign_Name (u5 (v:=.ref D) I7 hN hj hy rfl (λs8 I8 ⟨a,sb,ha⟩=>?_) hf)
 have hCa:C≠a:=by
  rcases ha with z|z
  . rw[z];exact h2
  . exact λq=>h4 y a z q.symm
 refine⟨m,hm.sameBut sb hCa,λh' hsb=>⟨_,H6,_,I8.turned (t':=s8.toks) (λb o hb e=>(hsb.2 b hb).trans e) h1 h2 (.inr h3) h4 h5,E7.store (by rw[I7.len];exact(SB.mp hj).1),p⟩⟩
end
section
variable{X:Cx}{e a b:Expr}{pos:Pos}{ta tb te:W L}{x y:Str}
def LH(i j:Nat)(ta tb:W L):W Fl:=λZ p4=>ta Z λr Z1=>Pb r λv=>tb Z1 λr2 Z2=>Pb r2 λw=>p4 .nx ((Z2.set i (.d v)).set j (.d w))
theorem F7{i j:Nat}{px py pt:Pos} {kt k2 pt2} (hc:X.calm=true) (hN:X.N.Nodup) (hi:X.N[i]?=some x) (hj:X.N[j]?=some y) (hij:i≠j)
  (hx:X.env.scope.names.lookup x=some .local) (hy:X.env.scope.names.lookup y=some .local) (ha:PL X a ta) (hb:PL X b tb)
  (hw:swappedStores [.Tuple [.Name x px,.Name y py] kt pt] (.Tuple [a,b] k2 pt2) X.env=pure (some [x,y]))
  (hs:swapsWithSole [.Tuple [.Name x px,.Name y py] kt pt] (.Tuple [a,b] k2 pt2) pos.line X.env=pure false:=by rfl)
  (h1:starEach [a,b] X.env=(false,eval a X.env)::starEach [b] X.env:=by rfl) (h2:starEach [b] X.env=[(false,eval b X.env)]:=by rfl) :
  PM X (.Assign [.Tuple [.Name x px,.Name y py] kt pt] (.Tuple [a,b] k2 pt2) pos) (LH i j ta tb):=by
 refine PM.of (JB hc hN hi hj hij hx hy (cM (az ha).pe (cM (az hb).pe iZ h2) h1) hw hs) λσ H Pr Z p4 kz E h=>?_
 refine⟨Pr,Z,λr Z1=>match r with
  |.d v=>tb Z1 λr2 Z2=>Pb r2 λw=>p4 .nx ((Z2.set i (.d v)).set j (.d w))
  |_=>False,E,h,λv H1 r Z1 E1 pp=>?_⟩
 cases r with
 | d dv =>
  refine⟨bF H1 Z1,Z1,λr Z2=>match r with
   |.d w=>p4 .nx ((Z2.set i (.d dv)).set j (.d w))
   |_=>False,E1.tail.wide,pp,λw H2 r2 Z2 E2 pp=>?_⟩
  cases r2 with
  | d dw =>
   have E3:aA X.K Pr H2 (some w::some v::σ) (.d dw::.d dv::Z2):=aA.step (τ:=[some v]) (lam:=[.d dv]) (w:=[some w]) (μ:=[.d dw]) E1 rfl E2 rfl;have il:i<σ.length:=by rw[kz];exact(SB.mp hi).1
   have jl:j<σ.length:=by rw[kz];exact(SB.mp hj).1
   obtain⟨_,e1,r1⟩:=E3.head_d;cases e1;have E4:aA X.K Pr H2 (σ.set i (some v)) (Z2.set i (.d dv)):=E3.tail.store il;exact⟨v,w,rfl,_,(E4.cons_d r1).store (by simpa using jl),pp⟩
  |_=>exact pp.elim
 |_=>exact pp.elim
def D2(is:List Nat)(te:W L):W Fl:=λZ p4=>te Z λr Z1=>Pb r λv=>kg is v Z1 λZ2=>p4 .nx Z2
theorem Bu{tg:Expr}{is:List Nat}(hg:Pk X tg (kg is))(he:PL X e te)(hs:swapsWithSole [tg] e pos.line X.env=pure false:=by rfl)(hw:swappedStores [tg] e X.env=pure none:=by rfl)
  (h1:(assignEach [tg] X.env).map (·.2)=[assign tg X.env]:=by rfl):PM X (.Assign [tg] e pos) (D2 is te):=by
 intro gV s σ H Pr Z p4 I E h;obtain⟨gg,hg,hgg⟩:=hg;refine wpAny_Assign_stores (Ot (he gV s σ H Pr Z _ I E h) λv s1 q=>?_) hs hw;obtain⟨w,H1,d,Z1,I1,r1,E1,q1⟩:=EL.frz (p4:=λd Z1=>kg is d Z1 λZ2=>p4 .nx Z2) q;rw[h1];obtain⟨_,e1,p1⟩:=E1.head_d;cases e1;exact Ot (hg gV s1 σ H1 w v _ I1 r1 (hgg w σ H1 Pr Z1 d _ I1.len E1.tail p1 q1)) λ_ s2 ⟨σ',H',I',e',_,Z',E',q⟩=>by subst e';exact⟨σ',_,Z',I',E',q⟩
noncomputable def pZ:D->Bool
 |.non=>true | .bl _=>true | .int _=>true | .str _=>true
 |_=>false
noncomputable def Pz:D->D->Bool
 |.non,.non=>true
 |.bl a,.bl b=>a == b
 |.bl a,.int b=>(if a then 1 else 0) == b
 |.int a,.bl b=>a == (if b then 1 else 0)
 |.int a,.int b=>a == b
 |.str a,.str b=>a == b
 |_,_=>false
theorem tX{K:PySem.W.Frag}{H:Hp}{v:V}{d:D}(r:O8 K H v d)(h:pZ d=true):rJ v=true:=by cases r<;>first|rfl|(exact absurd h (by simp[pZ]))
theorem Kd{K:PySem.W.Frag}{H:Hp}{v w:V}{d f:D}(r:O8 K H v d)(q:O8 K H w f)(h:pZ d=true)(h':pZ f=true):OY v w=Pz d f:=by cases r<;>cases q<;>first|rfl|(exact absurd h (by simp[pZ]))|(exact absurd h' (by simp[pZ]))
noncomputable def O5(x:D)(ys:List D):Bool:=ys.any λy=>Pz y x
theorem Bv{K:PySem.W.Frag}{H:Hp}{v:V}{x:D}(r:O8 K H v x)(h:pZ x=true):∀{vs:List V}{ys:List D},bM K H vs ys->ys.all pZ=true->O0 v vs=O5 x ys/\vs.all rJ=true
 |_,_,.nil,_=>⟨rfl,rfl⟩
 | _,_,.cons r0 t,ha=>by rw[List.all_cons,Bool.and_eq_true]at ha;obtain⟨i1,i2⟩:=Bv r h t ha.2;unfold O0 O5 at i1 ⊢;rw[List.any_cons,List.any_cons,List.all_cons,i1,Kd r0 r ha.1 h,tX r0 ha.1,i2];exact⟨rfl,rfl⟩
def zW(neg:Bool):Pc:=λx y k=>pZ x=true/\ja y λys=>ys.all pZ=true/\k (.d (.bl (if neg then !O5 x ys else O5 x ys)))
theorem D3:Pd X (compareOp .In) (zW false):=Pd.of A9 λσ H Pr Z x y dx dy p4 E px py ⟨hx,h⟩=>by
 cases py with
 | lst hz rs =>
  obtain⟨ha,h⟩:=h;obtain⟨i1,i2⟩:=Bv px hx rs ha;exact⟨_,_,rfl,.inl hz.l,tX px hx,i2,_,E.cons_d (.bl _),by rw[i1];exact h⟩
 | tup hz rs =>
  obtain⟨ha,h⟩:=h;obtain⟨i1,i2⟩:=Bv px hx rs ha;exact⟨_,_,rfl,.inr hz,tX px hx,i2,_,E.cons_d (.bl _),by rw[i1];exact h⟩
 |_=>exact h.elim
def PD(X:Cx)(lo:Option Expr)(t:Option (W L)):Prop:=match lo,t with
 |none,none=>True
 |some e,some t=>PL X e t
 |_,_=>False
theorem vz{K:PySem.W.Frag}{H:Hp}{vs:List V}{xs:List D}(r:bM K H vs xs)(l u:Option Int):bM K H (FY vs l u) (Hc xs l u):=by unfold FY Hc;rw[r.length];exact(r.drop _).take _
noncomputable def PF(K:PySem.W.Frag)(t:Option (W L)):TO:=λσ H Q=>∃Pr Z p4,aA K Pr H σ Z/\zS t Z p4/\∀i H' Z',aA K Pr H' σ Z'->p4 i Z'->Q i H'
theorem Ke{lo:Option Expr}{t:Option (W L)}(h:PD X lo t):PO X lo (PF X.K t):=by
 cases lo with
 | none =>
  cases t with
  | none =>
   intro gV s σ H Q I ⟨Pr,Z,p4,E,hw,q⟩;exact GL gV s σ H Q I (q none H Z E hw)
  |some t=>exact h.elim
 | some e =>
  cases t with
  |none=>exact h.elim
  | some t =>
   intro gV s σ H Q I ⟨Pr,Z,p4,E,hw,q⟩;refine GM (PL.pe (show PL X e t from h)) gV s σ H Q I ⟨Pr,Z,_,E,hw,λv H' r Z' E' pp=>?_⟩;obtain⟨i,rfl,pp⟩:=dP pp;obtain⟨_,e1,p1⟩:=E'.head_d;cases e1;cases p1;exact⟨i,rfl,q (some i) H' Z' E'.tail pp⟩
end
def Kg{α:Type}(o:Option L)(t u:W α)(Z:Ev)(p4:α->Ev->Prop):Prop:=match o with
 |some (.own _ _)=>t Z p4
 |_=>u Z p4
noncomputable def d6{α:Type}(i:Nat)(t u:W α):W α:=λZ p4=>Kg Z[i]? t u Z p4
theorem D4{α:Type}(a:Addr)(xs:List D)(t u:W α)(Z:Ev)(p4:α->Ev->Prop):Kg (some (.own a xs)) t u Z p4=t Z p4:=(rfl)
theorem Kh{α:Type}(x:D)(t u:W α)(Z:Ev)(p4:α->Ev->Prop):Kg (some (.d x)) t u Z p4=u Z p4:=(rfl)
theorem He{α:Type}(a:Option Addr)(ls:List L)(t u:W α)(Z:Ev)(p4:α->Ev->Prop):Kg (some (.bx a ls)) t u Z p4=u Z p4:=(rfl)
theorem fN{X:Cx}{e:Expr}{i:Nat}{t u:W L}(h:PL X e t)(h':PL X e u):PL X e (d6 i t u):=λgV s σ H Pr Z p4 I E q=>by
 unfold d6 Kg at q;split at q
 . exact h gV s σ H Pr Z p4 I E q
 . exact h' gV s σ H Pr Z p4 I E q
theorem Hf{K:PySem.W.Frag}{c:Str}{C:Addr}{T:String}(h:km K c C=true)(hm:PySem.W.kitMeta T=true):PySem.W.kitOne K (.ref C) (.type T)=some ((["ValueError","Exception","BaseException","object"]:List String).contains T):=by obtain⟨L,cd,S⟩:=i7 h;unfold PySem.W.kitOne PySem.W.kitCls;rw[if_neg (show ¬((Value.ref C == Value.type T)=true)from λz=>by cases z)];dsimp only;rw[if_pos hm];show PySem.W.mroIn K C (.type T)=_;rw[S.mroIn,pQ]
theorem yE{T:String}(h0:∀K d,(∀c ns xs,d≠.exc c ns xs)->PySem.W.kitOne K (Pu d) (.type T)=some (nM T d))(hm:PySem.W.kitMeta T=true):∀K d t,Pv K d t->PySem.W.kitOne K t (.type T)=some (nM T d):=by
 intro K d t h
 cases d with
 | exc c ns xs =>
  obtain⟨C,e,h⟩:=h;rw[e];exact Hf h hm
 |_=>cases h;exact h0 K _ (λ_ _ _ z=>nomatch z)
theorem Hg:∀ K d t,Pv K d t->PySem.W.kitOne K t (.type "int")=some (nM "int" d):=yE (λK d hd=>by cases d <;> first | rfl | exact absurd rfl (hd _ _ _)) y_
theorem D5:∀ K d t,Pv K d t->PySem.W.kitOne K t (.type "bool")=some (nM "bool" d):=yE (λK d hd=>by cases d <;> first | rfl | exact absurd rfl (hd _ _ _)) y_
theorem Hh:∀ K d t,Pv K d t->PySem.W.kitOne K t (.type "str")=some (nM "str" d):=yE (λK d hd=>by cases d <;> first | rfl | exact absurd rfl (hd _ _ _)) y_
theorem vA:∀ K d t,Pv K d t->PySem.W.kitOne K t (.type "tuple")=some (nM "tuple" d):=yE (λK d hd=>by cases d <;> first | rfl | exact absurd rfl (hd _ _ _)) y_
def tY(K:PySem.W.Frag)(mg:Str->Option Value)(x:Str)(d:D):Prop:=∃v u,mg x=some u/\bU v u/\∀H,O8 K H v d
theorem Bw{X:Cx}{x:Str}{d:D}{pos:Pos}(g:tY X.K X.mg x d)(hg:Gl X x) (hdb:(x == ("__debug__" : Str))=false:=by decide):PL X (.Name x pos) (wC d):=by obtain⟨v,u,h1,h2,h3⟩:=g;exact GZ hg h1 h2 h3 hdb
theorem ml{K:PySem.W.Frag}{mg:Str->Option Value}{x:Str}{s:Str}{t:Tok}(h1:mg x=some (.str s t)):tY K mg x (.str s):=⟨.str s,_,h1,⟨t,rfl⟩,λH=>.str s⟩
theorem D6{K:PySem.W.Frag}{mg:Str->Option Value}{x:Str}{s:Int}{t:Tok}(h1:mg x=some (.int s t)):tY K mg x (.int s):=⟨.int s,_,h1,⟨t,rfl⟩,λH=>.int s⟩
theorem vB{K:PySem.W.Frag}{H:Hp}:∀ns:List Int,bM K H (ns.map V.int) (ns.map D.int)
 |[]=>.nil
 |n::ns=>.cons (.int n) (vB ns)
theorem Bx{K:PySem.W.Frag}{H:Hp}{a:Addr}{ns:List Int}{fs:FS}{n:Nat}(hl:ns.length<=n)(hO:LA H)(hS:Ow K H a (ns.map V.int))(h:fs [.d (.lst (ns.map .int))] (λr _=>r=.d (.bl true))):spF K 1 fs [.ref a] H (λv _=>v=.bl true) λ_ _ _=>False:=by
 have hz:O7 K H a (ns.map V.int):=by
  rcases hS with(h|⟨o,h⟩)|h
  .
   rcases hO a with z|⟨o,xs,z⟩|⟨q,z⟩
   . rw[z]at h;cases h
   . rw[z]at h;cases h
   . rw[z]at h;cases h
  . exact .inl ⟨o,h⟩
  . exact .inr h
 refine⟨rfl,λ_=>none,[.d (.lst (ns.map .int))],_,⟨(λb o e=>nomatch e),(show([]:List Addr).Nodup from List.nodup_nil),(λa h=>absurd (show a∈([]:List Addr)from h) v6),.cons ⟨.ref a,rfl,.lst hz (vB ns)⟩ .nil⟩,h,λv H' r ls' E p=>?_⟩;subst p;obtain⟨_,e,r⟩:=E.head_d;cases e;cases r;rfl
section
variable{X:Cx}
def By:Pc:=λx y k=>match y with
 |.non=>k (.d (.bl (match x with | .non=>true|_=>false)))
 |_=>False
def vC:Pc:=λx y k=>match y with
 |.non=>k (.d (.bl (match x with | .non=>false|_=>true)))
 |_=>False
theorem Bz:Pd X (compareOp .Is) By:=Ka.imp λx y k h=>by
 unfold By at h;split at h
 . exact⟨rfl,h⟩
 . exact h.elim
theorem yF:Pd X (compareOp .IsNot) vC:=G9.imp λx y k h=>by
 unfold vC at h;split at h
 . exact⟨rfl,h⟩
 . exact h.elim
end
end L2
namespace L2
open PySem
theorem tZ(a b:Int):Int.gcd b (a.fmod b)=Int.gcd a b:=by rw[Int.fmod_def,Int.gcd_sub_mul_left_right,Int.gcd_comm]
theorem fZ(a:Int){b:Int}(h:b≠0):(a.fmod b).natAbs<b.natAbs:=by
 rw[Int.fmod_eq_emod];have h1:=Int.emod_nonneg a h;have h2:a % b<(b.natAbs:Int):=Int.emod_lt a h;split
 . omega
 . rename_i q;have:a % b≠0:=λe=>q (.inr (Int.dvd_of_emod_eq_zero e));omega
noncomputable def PH(q:Rat):D:=.tup [.int q.num,.int (q.den:Int)]
theorem xb{t b:Int}(h:b≠0):0<Int.gcd t b:=Int.gcd_pos_of_ne_zero_right _ h
noncomputable def cP(t b:Int):Int:=if b<0 then -(Int.gcd t b:Int)else(Int.gcd t b:Int)
theorem yG{t b:Int}(h:b≠0):cP t b≠0:=by have:=xb (t:=t) h;unfold cP;split<;>omega
theorem BA(t b:Int):(cP t b).natAbs=Int.gcd t b:=by unfold cP;split<;>omega
theorem yH{t b:Int}(h:b≠0):(cP t b).natAbs<=b.natAbs:=by rw[BA];exact Nat.le_of_dvd xL (by have:=Int.gcd_dvd_right t b;exact Int.natAbs_dvd_natAbs.mpr this |> λq=>by simpa using q)
theorem p5{a g:Int}(hg:g≠0)(h:g∣a):a.fdiv (-g)=-(a / g):=by obtain⟨k,rfl⟩:=h;rw[Int.mul_ediv_cancel_left _ hg,show g*k=(-g)*(-k) by rw[Int.neg_mul_neg],Int.mul_fdiv_cancel_left _ xL]
theorem BB{t b:Int}(h:b≠0):t.fdiv (cP t b)=(Rat.divInt t b).num:=by
 have hg:=xb (t:=t) h;have hd:(Int.gcd t b:Int)∣t:=Int.gcd_dvd_left t b;rw[Rat.num_divInt,Int.gcd_comm b t];unfold cP;split
 . rename_i hb;rw[p5 xL hd,Int.sign_eq_neg_one_of_neg hb,Int.neg_one_mul,Int.neg_ediv_of_dvd hd]
 . rename_i hb;rw[Int.sign_eq_one_of_pos xL,Int.one_mul,Int.fdiv_eq_ediv_of_nonneg _ xL]
theorem Hi{t b:Int}(h:b≠0):b.fdiv (cP t b)=((Rat.divInt t b).den:Int):=by
 have hg:=xb (t:=t) h;have hd:(Int.gcd t b:Int)∣b:=Int.gcd_dvd_right t b;rw[Rat.den_divInt,if_neg h,Int.gcd_comm b t,Int.natCast_ediv];unfold cP;split
 .
  rename_i hb;rw[p5 xL hd,<- Int.neg_ediv_of_dvd hd]
  congr 1
  omega
 .
  rename_i hb;rw[Int.fdiv_eq_ediv_of_nonneg _ xL]
  congr 1
  omega
theorem F8{t b:Int}(h:b≠0):(Rat.divInt t b).den<=b.natAbs:=by rw[Rat.den_divInt,if_neg h];exact Nat.div_le_self _ _
theorem Ga{t b:Int}(h:b≠0):(Rat.divInt t b).num.natAbs<=t.natAbs:=by rw[<- BB h];exact PySem.natAbs_fdiv_le _ _
theorem den_pos(q:Rat):0<q.den:=Nat.pos_of_ne_zero q.den_nz
theorem Ki(p q:Rat):Rat.divInt (p.num*(q.den:Int)+q.num*(p.den:Int)) ((p.den:Int)*(q.den:Int))=p+q:=by have hp:=den_pos p;have hq:=den_pos q;have:=Rat.divInt_add_divInt p.num q.num (d₁:=(p.den:Int)) (d₂:=(q.den:Int)) xL xL;rw[Rat.num_divInt_den,Rat.num_divInt_den]at this;exact this.symm
def RB(n:Nat)(q:Rat):Prop:=q.num.natAbs<2^n/\q.den<2^n
theorem RB.mono{m n:Nat}{q:Rat}(h:RB m q)(hl:m<=n):RB n q:=⟨SD h.1 (SL x_ hl),SD h.2 (SL x_ hl)⟩
theorem RB.bn{n:Nat}{q:Rat}(h:RB n q)(hl:n<=1000000):cn q.num:=SD h.1 (SL x_ hl)
theorem RB.bd{n:Nat}{q:Rat}(h:RB n q)(hl:n<=1000000):cn (q.den:Int):=by unfold cn;rw[Int.natAbs_natCast];exact SD h.2 (SL x_ hl)
theorem a8{a b m n:Nat}(h1:a<2^m)(h2:b<2^n):a*b<2^(m+n):=by rw[Nat.pow_add];exact Nat.mul_lt_mul'' h1 h2
theorem RB.add{m n:Nat}{p q:Rat}(hp:RB m p)(hq:RB n q):RB (m+n+1) (p+q):=by
 have dp:=den_pos p;have dq:=den_pos q;have hne:((p.den:Int)*(q.den:Int))≠0:=Int.mul_ne_zero xL xL;rw[<- Ki p q];have a1:=a8 hp.1 hq.2;have a2:=a8 hq.1 hp.2;have a3:=a8 hp.2 hq.2;have e:(2:Nat)^(m+n+1)=2^(m+n)+2^(m+n):=by rw[Nat.pow_succ];omega
 rw[Nat.add_comm n m]at a2;constructor
 . refine SO (Ga hne) ?_;refine SO (Int.natAbs_add_le _ _) ?_;rw[Int.natAbs_mul,Int.natAbs_mul,Int.natAbs_natCast,Int.natAbs_natCast,e];omega
 . refine SO (F8 hne) ?_;rw[Int.natAbs_mul,Int.natAbs_natCast,Int.natAbs_natCast,e];omega
@[simp] theorem p6(i j:Int):Pp (.int i) (.int j)=decide (i=j):=by simp[Pp,Po,PyData.eqv];by_cases h:i=j<;>simp[h]
@[simp] theorem xc(i j:Str):Pp (.str i) (.str j)=decide (i=j):=by simp[Pp,Po,PyData.eqv];by_cases h:i=j<;>simp[h]
@[simp] theorem Kj(i j:Bool):Pp (.bl i) (.bl j)=decide (i=j):=by simp[Pp,Po,PyData.eqv];cases i<;>cases j<;>rfl
@[simp] theorem zX(i:Int):cq (.int i):=rfl
@[simp] theorem BC(i:Bool):cq (.bl i):=rfl
@[simp] theorem sM:cq .non:=rfl
mutual
noncomputable def PJ:Nat->D->Bool
 |_,.non=>true
 |_,.bl _=>true
 |_,.int _=>true
 |_,.str x=>PyData.strOk x
 |0,.tup _=>false
 |0,.lst _=>false
 |n+1,.tup xs=>Dm n xs
 |n+1,.lst xs=>Dm n xs
 |_,.dct _=>false
 |_,.exc _ _ _=>false
 |_,.fn _ _=>false
 |_,.dk _ _=>false
 |_,.gf _=>false
noncomputable def Dm:Nat->List D->Bool
 |_,[]=>true
 |n,x::xs=>PJ n x && Dm n xs
end
mutual
theorem xg:∀(n:Nat)(d:D),PJ n d=true->(Po d).canLay0=true/\(Po d).depth<=n
 |_,.non,_=>⟨rfl,Nat.zero_le _⟩
 |_,.bl _,_=>⟨rfl,Nat.zero_le _⟩
 |_,.int _,_=>⟨rfl,Nat.zero_le _⟩
 |_,.str x,h=>⟨by simpa[PJ,Po,PyData.canLay0]using h,Nat.zero_le _⟩
 |0,.tup _,h=>by simp[PJ]at h
 |0,.lst _,h=>by simp[PJ]at h
 | n+1,.tup xs,h=>by
  obtain⟨h1,h2⟩:=t5 n xs (by simpa[PJ]using h)
  exact⟨h1,Nat.succ_le_succ h2⟩
 | n+1,.lst xs,h=>by
  obtain⟨h1,h2⟩:=t5 n xs (by simpa[PJ]using h)
  exact⟨h1,Nat.succ_le_succ h2⟩
 |_,.dct _,h=>by simp[PJ]at h
 |_,.exc _ _ _,h=>by simp[PJ]at h
 |_,.fn _ _,h=>by simp[PJ]at h
 |_,.dk _ _,h=>by simp[PJ]at h
 |_,.gf _,h=>by simp[PJ]at h
theorem t5:∀(n:Nat)(ds:List D),Dm n ds=true->PyData.canLayAll0 (gK ds)=true/\PyData.depthAll (gK ds)<=n
 |_,[],_=>⟨rfl,Nat.zero_le _⟩
 | n,d::ds,h=>by
  have h':PJ n d=true/\Dm n ds=true:=by simpa[Dm]using h
  obtain⟨a1,a2⟩:=xg n d h'.1
  obtain⟨b1,b2⟩:=t5 n ds h'.2
  exact⟨by simp[gK,PyData.canLayAll0,a1,b1],by simp only[gK,PyData.depthAll];omega⟩
end
theorem dh{n:Nat}{d:D}(h:PJ n d=true)(hn:n<=64):cq d:=by obtain⟨h1,h2⟩:=xg n d h;unfold cq SeqAt.shaped;rw[h1,decide_eq_true xL];rfl
theorem BD(xs ys:List D):Pp (.tup xs) (.tup ys)=PyData.eqvAll (gK xs) (gK ys):=by simp[Pp,Po,PyData.eqv]
theorem Hj(xs ys:List D):Pp (.lst xs) (.lst ys)=PyData.eqvAll (gK xs) (gK ys):=by simp[Pp,Po,PyData.eqv]
theorem mn(x y:D)(xs ys:List D):PyData.eqvAll (gK (x::xs)) (gK (y::ys))=(Pp x y && PyData.eqvAll (gK xs) (gK ys)):=by simp[gK,PyData.eqvAll,Pp]
theorem yI:PyData.eqvAll (gK []) (gK [])=true:=by simp[gK,PyData.eqvAll]
theorem D7(q:Rat):cq (PH q):=dh (n:=1) (by simp[PH,PJ,Dm]) x_
theorem Kk(p q:Rat):Pp (PH p) (PH q)=decide (p=q):=by
 unfold PH;rw[BD,mn,mn,yI,p6,p6,Bool.and_true];by_cases h:p=q
 . subst h;simp
 .
  rw[decide_eq_false h];by_cases h1:p.num=q.num
  . have:¬((p.den:Int)=(q.den:Int)):=λe=>h (Rat.ext h1 xL);simp[this]
  . simp[h1]
end L2
namespace L2
open PySem PySem.Spec PyProof.Rows
section
variable{X:Cx}{a b c:Expr}{pos p:Pos}{ta tb tc:W L}
def vD(o o':Pc)(ta tb tc:W L):W L:=λZ p4=>ta Z λr Z1=>nK r λi=>tb Z1 λr Z2=>nK r λj=>o (.int i) (.int j) λz=>AH z λk=>if k=true then tc Z2 λr Z3=>nK r λl=>o' (.int j) (.int l) λz=>p4 z Z3 else p4 (.d (.bl false)) Z2
def LI(X:Cx)(op:CmpOp)(o:Pc):Prop:=∃f:Int->Int->Bool,OI X (compareOp op) (OL λi j=>.bl (f i j))/\∀i j k,o (.int i) (.int j) k->k (.d (.bl (f i j)))
theorem Kl:LI X .Lt yw:=⟨_,JJ,λ_ _ _ h=>h⟩
theorem Km:LI X .LtE Dl:=⟨_,JK,λ_ _ _ h=>h⟩
theorem D8{op op':CmpOp}{o o':Pc}{f f':Int->Int->Bool}(h1:∀i j k,o (.int i) (.int j) k->k (.d (.bl (f i j))))(h2:∀i j k,o' (.int i) (.int j) k->k (.d (.bl (f' i j))))
  (σ:St) (H Pr:Hp) (Z:Ev) (p4:L->Ev->Prop) (Q:VK) (hQ:∀v H' r Z',aA X.K Pr H' (some v::σ) (r::Z')->p4 r Z'->Q v H') (E:aA X.K Pr H σ Z) (h:vD o o' ta tb tc Z p4) :
  FV (OL λi j=>.bl (f i j)) (OL λi j=>.bl (f' i j)) (tL X.K ta) (tL X.K tb) (tL X.K tc) σ H Q:=by
 refine⟨Pr,Z,_,E,h,λv H1 r Z1 E1 p=>?_⟩;obtain⟨i,rfl,p⟩:=dP p;obtain⟨_,e1,r1⟩:=E1.head_d;cases e1;cases r1;refine⟨Pr,Z1,_,E1.tail,p,λv H2 r Z2 E2 p=>?_⟩;obtain⟨j,rfl,p⟩:=dP p;obtain⟨_,e1,r1⟩:=E2.head_d;cases e1;cases r1;refine⟨i,j,rfl,rfl,f i j,rfl,?_⟩;have q:=h1 i j _ p
 cases hk:f i j with
 | false =>
  rw[hk]at q;exact hQ _ _ _ Z2 (E2.tail.cons_d (.bl false)) q
 | true =>
  rw[hk]at q;refine⟨Pr,Z2,_,E2.tail,q,λv H3 r Z3 E3 p=>?_⟩;obtain⟨l,rfl,p⟩:=dP p;obtain⟨_,e1,r1⟩:=E3.head_d;cases e1;cases r1;exact⟨j,l,rfl,rfl,hQ _ _ _ Z3 (E3.tail.cons_d (.bl _)) (h2 j l _ p)⟩
theorem yJ{op op':CmpOp}{o o':Pc}(ho:LI X op o)(ho':LI X op' o')(ha:PL X a ta)(hb:PL X b tb)(hc:PL X c tc)(hm:lastMarks [op,op'] [b,c]=false:=by with_unfolding_all rfl) :
  PL X (.Compare a [op,op'] [b,c] pos) (vD o o' ta tb tc):=by
 obtain⟨f,r1,h1⟩:=ho;obtain⟨f',r2,h2⟩:=ho';exact PL.of (Dv r1 r2 ha.pe hb.pe hc.pe hm) λσ H Pr Z p4 E h=>D8 (op:=op) (op':=op') h1 h2 σ H Pr Z p4 _ (λv H' r Z' E' p=>⟨r,Z',E',p⟩) E h
end
end L2
namespace L2
open PySem PySem.Spec PyProof.Rows PySem.Builtin.Str
section
variable{X:Cx}{a:Expr}{pos p2:Pos}{ta:W L}{x:Str}
theorem Kn:OS X (λx lo hi H Q=>∃z,x=.str z/\z.length<=sizeLine/\Q (.str (Txt.slice z lo hi)) H):=by
 intro gV s σ H x v vl vu lo hi sl Q I rx hs pl pu h;obtain⟨z,rfl,hz,q⟩:=h;obtain⟨t,rfl⟩:=rx;refine⟨"str",_,F.slot_str_getitem.lookup,typeIs_str _ _ _,?_⟩
 obtain⟨l',rfl,rfl⟩:∃l':Option (Int×Tok),vl=partValue l'/\lo=l'.map (·.1):=by
  cases pl
  . exact⟨none,rfl,rfl⟩
  . exact⟨some (_,_),rfl,rfl⟩
 obtain⟨u',rfl,rfl⟩:∃l':Option (Int×Tok),vu=partValue l'/\hi=l'.map (·.1):=by
  cases pu
  . exact⟨none,rfl,rfl⟩
  . exact⟨some (_,_),rfl,rfl⟩
 exact wpAny_getItem_str_slice (l:=l') (u:=u') (st:=none) hs rfl (post_val_or_str ⟨SJ (Txt.slice_le z _ _) hz,λt' k=>⟨.str _,H,I.tok k,⟨t',rfl⟩,q⟩⟩)
def Jl(ta:W L)(lo hi:Option (W L)):W L:=λZ p4=>ta Z λr Z1=>Pb r λd=>zS lo Z1 λl Z2=>zS hi Z2 λu Z3=>match d with
 |.lst xs=>∀a,p4 (.own a (Hc xs l u)) Z3
 |.str z=>z.length<=sizeLine/\p4 (.d (.str (Txt.slice z l u))) Z3
 |.tup xs=>¬(HT.sIx xs.length 0 l=0/\HT.sIx xs.length xs.length u=xs.length)/\p4 (.d (.tup (Hc xs l u))) Z3
 |_=>False
theorem mq{lo hi:Option Expr}{tl th:Option (W L)}(ha:PL X a ta)(hl:PD X lo tl)(hh:PD X hi th):PL X (.Subscript a (.Slice lo hi none p2) pos) (Jl ta tl th):=by
 refine PL.of (DB (OS.or GN (OS.or Kn JP)) (az ha).pe (Ke hl) (Ke hh)) λσ H Pr Z p4 E h=>?_
 refine⟨Pr,Z,λr Z1=>match r with
  | .d d=>zS tl Z1 λl Z2=>zS th Z2 λu Z3=>match d with
   |.lst xs=>∀a,p4 (.own a (Hc xs l u)) Z3
   |.str z=>z.length<=sizeLine/\p4 (.d (.str (Txt.slice z l u))) Z3
   |.tup xs=>¬(HT.sIx xs.length 0 l=0/\HT.sIx xs.length xs.length u=xs.length)/\p4 (.d (.tup (Hc xs l u))) Z3
   |_=>False
  |_=>False,E,h,λv H1 r Z1 E1 pp=>?_⟩
 cases r with
 | d d =>
  obtain⟨_,e1,p1⟩:=E1.head_d;cases e1;refine⟨bF H1 Z1,Z1,_,E1.tail.wide,pp,λl H2 Z2 E2 pp=>?_⟩;have F2:aA X.K Pr H2 (some v::σ) (.d d::Z2):=aA.step (τ:=[some v]) (lam:=[.d d]) (w:=[]) (μ:=[]) E1 rfl E2 rfl;refine⟨bF H2 Z2,Z2,_,F2.tail.wide,pp,λu H3 Z3 E3 pp=>?_⟩;have F3:aA X.K Pr H3 (some v::σ) (.d d::Z3):=aA.step (τ:=[some v]) (lam:=[.d d]) (w:=[]) (μ:=[]) F2 rfl E3 rfl;obtain⟨_,e1,p1⟩:=F3.head_d;cases e1
  cases p1 with
  |lst hz rs=>exact .inl ⟨_,_,rfl,hz.l,λq hq=>⟨_,_,F3.tail.cons_own hq (vz rs l u),pp q⟩⟩
  |str z=>exact .inr (.inl ⟨z,rfl,pp.1,_,_,F3.tail.cons_d (.str _),pp.2⟩)
  |tup hz rs=>exact .inr (.inr ⟨_,_,rfl,hz,by rw[rs.length];exact pp.1,λq hq=>⟨_,_,F3.tail.cons_tup hq (vz rs l u),pp.2⟩⟩)
  |_=>exact pp.elim
 |_=>exact pp.elim
def Mq(K:PySem.W.Frag):V->List V->Hp->VK->Prop:=λx vs H Q=>∃z a ys zs,x=.str z/\vs=[.ref a]/\(Ow K H a ys∨Ox K H a ys)/\ys=zs.map V.str/\(zs.map (·.length)).sum+zs.length*z.length<=16777216/\Q (.str (Txt.join z zs)) H
theorem p7:∀{zs:List Str}{us:List Value},bZ (zs.map V.str) us->StrsAre us zs
 |[],_,.nil=>.nil
 | z::zs,_,.cons r t=>by obtain⟨t',rfl⟩:=r;exact .cons z t' (p7 t)
theorem Hl:OX X "str.join" (Mq X.K):=by
 intro gV s σ H x vs v us Q I rx rv h;obtain⟨z,a,ys,zs,rfl,rfl,hq,rfl,hz,q⟩:=h;obtain⟨t,rfl⟩:=rx;obtain⟨u,rfl,ru⟩:=rv.one;cases ru;rcases hq with hq|hq
 . obtain⟨its,r,pl,_⟩:=I.list hq;exact join_list pl.isList (by simpa using p7 r) hz λt' k=>⟨.str _,H,I.tok k,⟨t',rfl⟩,q⟩
 . obtain⟨its,r,pl,_⟩:=I.tuple hq;exact join_tuple pl (by simpa using p7 r) hz λt' k=>⟨.str _,H,I.tok k,⟨t',rfl⟩,q⟩
end
section
variable{X:Cx}{e a b c:Expr}{es:List Expr}{pos p apos cpos:Pos}{te:W L}{x y:Str}
def Hm(z:Str)(te:W L):W L:=λZ p4=>te Z λr Z1=>Pb r λd=>ja d λxs=>∃zs,xs=zs.map D.str/\(zs.map (·.length)).sum+zs.length*z.length<=16777216/\p4 (.d (.str (Txt.join z zs))) Z1
theorem p8{K:PySem.W.Frag}{H:Hp}:∀{zs:List Str}{vs:List V},bM K H vs (zs.map D.str)->vs=zs.map V.str
 |[],_,.nil=>rfl
 | z::zs,_,.cons r t=>by cases r;rw[p8 t];rfl
theorem Hn{z:Str}{j:Nat}{pz:Pos}(he:PL X e te)(hs1:starEach [e] X.env=[(false,eval e X.env)]:=by rfl) (hbase:attributeBase (.Constant (.str z) j pz) "join" X.env (eval (.Constant (.str z) j pz) X.env)=eval (.Constant (.str z) j pz) X.env:=by rfl)
  (hfew:((backTo cpos (starEach [e] X.env)).all (λx=>!x.1) && (backToKw cpos (keywordEach [] X.env)).all (λx=>x.1.isSome)
   && decide (([e]).length+([]:List Keyword).length+(if([]:List Keyword).isEmpty then 0 else 1)<30))=true:=by rfl)
  (hline:(apos.endLine == cpos.line)=true:=by rfl) (hplain:(backTo cpos (starEach ([]:List Expr) X.env)).any (·.1)=false:=by rfl) :
  PL X (.Call (.Attribute (.Constant (.str z) j pz) "join" apos) [e] [] cpos) (Hm z te):=by
 refine PL.of (JU PySem.F.plainAttrs_str PySem.F.slot_str_join PySem.F.type_str_join Hl AQ (cM (az he).pe iZ hs1) (hbase:=hbase) (hfew:=hfew) (hline:=hline) (hs:=hs1) (hplain:=hplain)) λσ H Pr Z p4 E h=>?_
 refine⟨rfl,Pr,Z,λr Z1=>match r with
  |.d d=>ja d λxs=>∃zs,xs=zs.map D.str/\(zs.map (·.length)).sum+zs.length*z.length<=16777216/\p4 (.d (.str (Txt.join z zs))) Z1
  |_=>False,E,h,λv H' r Z' E' pp=>?_⟩
 cases r with
 | d d =>
  obtain⟨_,e1,p1⟩:=E'.head_d;cases e1
  cases p1 with
  | lst hz rs =>
   obtain⟨zs,rfl,hl,pp⟩:=pp;exact⟨z,_,_,zs,rfl,rfl,.inl hz.l,p8 rs,hl,_,_,E'.tail.cons_d (.str _),pp⟩
  | tup hz rs =>
   obtain⟨zs,rfl,hl,pp⟩:=pp;exact⟨z,_,_,zs,rfl,rfl,.inr hz,p8 rs,hl,_,_,E'.tail.cons_d (.str _),pp⟩
  |_=>exact pp.elim
 |_=>exact pp.elim
theorem Oq.turnedL{gV:List (Addr×Obj)}{σ:St}{H:Hp}{s:Shared}{h':Heap}{t':Nat}{fp:List Addr}(I:Oq X gV σ H s)(k:∀b o,b∉fp->s.heap.get? b=some o->h'.get? b=some o)(hf:∀b∈fp,Dk X gV H b):Oq X gV σ H {s with heap:=h',toks:=t' }:=by
 have nit:∀b u,H b=some u->b∉fp:=λb u e z=>by rw[(hf b z).1]at e;cases e
 refine I.step (g':=s.gens) (d':=s.drawn) (ch:=fp) (λb hb=>?_) (λb o _ _ hc e _=>k b o hc e) (λb o _ _ hc e _=>⟨o.slots,k b o hc e⟩) (λ_ _ _ _ n=>n)
  (λb o hc e=>⟨o,k b o hc e⟩) (λ_ _ e=>e) (λ_ _ _ e=>e) (λ_ _ e=>e) (λm hm=>?_) (λb u e=>?_) I.bare
 . obtain⟨f0,f1,f2,f3,f4,f5⟩:=hf b hb;exact⟨f3,f1,f4,f5⟩
 . obtain⟨o,es,ep,ho,r⟩:=hm;exact⟨o,es,ep,k _ o (λz=>(hf _ z).2.1 rfl) ho,r⟩
 .
  refine(I.hok b u e).stay (λc v hc q=>k c v ?_ q) (λ_ q=>q) (λ_ _ q=>q) λ_ _ _ _ q=>q;rcases hc with z|z
  . rw[z];exact nit b u e
  . exact nit c _ z
noncomputable def PN(K:PySem.W.Frag)(a:Addr):It :=
 ⟨λi H=>∃xs x,Ow K H a xs/\xs[i]?=some x,λi H v H'=>∃p x,v=.ref p/\H p=none/\H'=Og H p (.tup [.int i,x])/\∀xs,Ow K H a xs->xs[i]?=some x,λi H=>∃xs,Ow K H a xs/\xs.length<=i⟩
theorem BE{P:Program}{w:World}{K:PySem.W.Frag}{k:Nat}(q it a:Addr)(hne:q≠it):GH P w K (.Tuple es k pos) (PN K a) [q,it] q (λi h=>(∃old,IsEnum h q it i old)/\h.IsListIter it a i) where
 mem:=by simp
 obj:=λi h st b hb=>by
  obtain⟨⟨old,he⟩,o,e,c,d⟩:=st;rcases SK.mp hb with rfl|hb
  .
   exact⟨_,he,λv z=>by
    have z':Data.fields _=Data.cell v:=z
    cases z'⟩
  .
   have e':b=it:=by simpa using hb
   subst e';exact⟨o,e,λv z=>by rw[d]at z;cases z⟩
 keep:=λi h h' st kk=>⟨let ⟨old,he⟩:=st.1;⟨old,kk q v6 _ he⟩,st.2.at λo e=>kk it v6 o e⟩
 item:=by
  intro X hP hw hK hc i gV s σ H E I hf st hg;subst hP hw hK;obtain⟨xs,x,hq,hx⟩:=hg;obtain⟨its,rv,p,hz⟩:=I.list hq;obtain⟨u,hu,ru⟩:=rv.get hx;obtain⟨⟨old,he⟩,hit⟩:=st;have hai:a≠it:=λz=>by subst z;obtain⟨o,e,c,d⟩:=hit;obtain⟨o',e',c',_⟩:=p.isList;rw[e]at e';cases e';rw[c]at c';exact absurd c' v6
  have hqa:q≠a:=λz=>by subst z;obtain⟨o',e',c',_⟩:=p.isList;rw[he]at e';cases e';exact absurd c' v6
  have D:=Draws.list (prog:=X.prog) (w:=X.w) (A:=X.A.in1) (I.ok.hd hc) it a hai its.toArray;have hlt:i<its.toArray.size:=by rw[List.size_toArray];exact(SB.mp hu).1
  refine wpAny_pyNext_enum_itemD D he ⟨hit,p.isList⟩ hlt hne (by simp[hne,hqa]) λx' h' tk hPx hout hst' htup hsz hk=>?_
  have hx':x'=u:=by
   have:its.toArray[i]?=some u:=by simpa using hu
   rw[this]at hPx;exact(Option.some.inj hPx).symm
  subst hx';refine⟨.ref s.heap.objs.size,rfl,wpAny_letOwnedTupleGo_enum (s:={s with heap:=h',toks:=tk+1}) hout λh'' he'' hs''=>?_⟩;have qlt:q<s.heap.objs.size:=SI he;have ilt:it<s.heap.objs.size:=by obtain⟨o,e,_⟩:=hit;exact SI e
  have I1:Oq X gV σ (Og H s.heap.objs.size (.tup [.int i,x])) {s with heap:=s.heap.push {cls:=.type "tuple",data:=.seq #[.int i tk,x'] },toks:=tk} :=
   I.laid (λb ob q=>tu _ q) (SN _) ⟨by show 2<=sizeLine;decide,[.int i tk,x'],.cons ⟨tk,rfl⟩ (.cons ru .nil),⟨_,Heap.get?_push_size _ rfl,rfl,_,rfl⟩⟩
  have hf1:∀b∈[q,it],Dk X gV (Og H s.heap.objs.size (.tup [.int i,x])) b:=λb hb=>by
   refine⟨?_,(hf b hb).2⟩;rw[aD ?_]
   . exact(hf b hb).1
   .
    rcases SK.mp hb with rfl|hb
    . exact Nat.ne_of_lt qlt
    . rw[List.mem_singleton.mp hb];exact Nat.ne_of_lt ilt
  have I2:=I1.turnedL (h':=h'') (t':=tk+1) (fp:=[q,it]) (λb o hb e=>by
   have hbq:b≠q:=λz=>hb (by simp[z]);have hbi:b≠it:=λz=>hb (by simp[z]);refine(hs''.2 b hbq).trans ?_;rcases Heap.get?_push_cases e with⟨rfl,rfl⟩|e
   . exact htup
   .
    exact hk b o hbq hbi e) hf1
  refine⟨.ref s.heap.objs.size,_,I2,rfl,⟨_,x,rfl,I.fresh,rfl,λys hy=>by rw[I.list_inj hy hq];exact hx⟩,⟨⟨_,by simpa using he''⟩,hst'.1.extBut hs''.extBut (Ne.symm hne)⟩,λb hb=>(hf1 b hb).1⟩
 done:=by
  intro X hP hw hK hc i gV s σ H E I hf st hg;subst hP hw hK;obtain⟨xs,hq,hx⟩:=hg;obtain⟨its,rv,p,hz⟩:=I.list hq;obtain⟨⟨old,he⟩,hit⟩:=st;have hai:a≠it:=λz=>by subst z;obtain⟨o,e,c,d⟩:=hit;obtain⟨o',e',c',_⟩:=p.isList;rw[e]at e';cases e';rw[c]at c';exact absurd c' v6
  have hl:=rv.length;have hT:s.TypeIs (.ref q) "enumerate":=⟨_,he,rfl⟩;unfold pyNext
  refine kS (wpAny_attempt (wpAny_callSpecial?_slot (name:=Str.ofString "__next__") hT F.slot_enumerate_next
   (wpAny_call_entry F.slot_enumerate_next hT F.entry_enumerate_next ?_ (F.args_enumerate_next_1 _))))
  show wpAny _ _ (field (.ref q) 2 >>= _) _ _ _;refine kS (wpAny_field he rfl (x:=.ref it) rfl ?_);refine kS (wpAny_nextOf_list_end (I.ok.hd hc) hit p.isList (by simp;omega) λh' x he' hx'=>?_);obtain⟨o,ho,hcc⟩:=hx';refine kS (wpAny_isInstance (T:="StopIteration") (b:=true) ⟨o,ho,hcc⟩ isSubtype_stop ?_);refine SG ⟨rfl,?_⟩;exact I.turnedL (t':=s.toks) (fp:=[q,it]) (λb o hb e=>he' b o (λz=>hb (by simp[z])) e) hf
 self:=λ_ _ _ _ _ st h=>let ⟨_,he⟩:=st.1;wpAny_pyIter_enum he h
noncomputable def nP(xs:List D):List D:=xs.zipIdx.map λp=>.tup [.int (p.2:Int),p.1]
theorem zY{K:PySem.W.Frag}{H:Hp}{a:Addr}{vs:List V}{xs:List D}(h:O7 K H a vs)(r:bM K H vs xs):zN K H (PN K a) (nP xs):=λH' p=>by
 have h':=(h.pres p).l;have kz:(nP xs).length=vs.length:=by rw[r.length];simp[nP]
 refine⟨λi x e=>?_,⟨vs,h',by rw[kz];exact SN _⟩⟩;have hi:i<vs.length:=by rw[<- kz];exact(SB.mp e).1
 have hi2:i<xs.length:=by rw[<- r.length];exact hi
 have ex:x=.tup [.int (i:Int),xs[i]]:=by
  have:(nP xs)[i]?=some (.tup [.int (i:Int),xs[i]]):=by simp[nP,hi2]
  rw[this]at e;exact(Option.some.inj e).symm
 obtain⟨v,ev,rv⟩:=r.get (i:=i) (so hi2);refine⟨⟨vs,v,h',ev⟩,λw H2 ⟨q,y,e1,e2,e3,e4⟩=>?_⟩;have e5:=e4 vs h';rw[ev]at e5;cases e5;subst e1 e3 ex;refine⟨.inr ⟨_,_,e2,rfl⟩,.tup (.inl (.inl (aY ..))) (.cons (.int _) (.cons ((rv.pres p).new e2) .nil))⟩
def D9(t:W L):W (List D):=λZ p4=>t Z λr Z1=>Pb r λd=>match d with
 |.lst xs=>p4 (nP xs) Z1
 |_=>False
theorem yK{k:Nat}{t:W L} (hg:Gl X "enumerate") (hm:X.mg "enumerate"=none) (ha:PL X a t) (hs:starEach [a] X.env=[(false,eval a X.env)]:=by rfl):Pn X (.Tuple es k apos) (.Call (.Name "enumerate" p) [a] [] pos) (D9 t):=by
 intro gV s σ H Pr Z p4 I E h
 refine Call_ (iJ I hg hm boot_enumerate (PyProof.Rows.callWith_type1 (Ot (af (az ha) ag hs pos gV s σ H Pr Z (λls Z1=>match ls with
  |[.d (.lst xs)]=>p4 (nP xs) Z1
  |_=>False) I E ?_) λus s1 ⟨vs,H1,ls,Z1,I1,r1,hl,hb,E1,_,q1⟩=>?_) hs rfl))
 .
  show t Z _
  have e:(λr Z1=>Pb r λd=>match d with | .lst xs=>p4 (nP xs) Z1|_=>False)=(λr Z1=>Pb r λx=>aJ Z1 λxs Z2=>match L.d x::xs with | [.d (.lst xs)]=>p4 (nP xs) Z2|_=>False):=by
   funext r Z1
   cases r with
   |un=>rfl
   |d d=>cases d<;>rfl
   |own=>rfl
   | bx b ls =>
    show eT (cJ (.bx b ls)) _=eT (cJ (.bx b ls)) _
    cases cJ (.bx b ls)with
    |none=>rfl
    |some d=>cases d<;>rfl
   |dic b ls=>rfl
  rw[<- e];exact h
 .
  dsimp only at q1;split at q1
  .
   rename_i xs
   cases vs with
   |nil=>exact absurd hl v6
   | cons v vs =>
    have:vs=[]:=by
     have:vs.length=0:=by simpa using hl
     exact List.length_eq_zero_iff.mp this
    subst this;obtain⟨_,e1,p1⟩:=aA.head_d (σ:=σ) (Z:=Z1) E1;cases e1
    cases p1 with
    | lst hz rs =>
     obtain⟨u,rfl,ru⟩:=r1.one;cases ru;obtain⟨its,rv,pl,hz'⟩:=I1.list hz.l;refine call_enumerate_list pl.isList λh' hE hI hsz hk=>?_;refine wpAny_pyIter_enum (s:={s1 with heap:=h' }) hE ?_;have E2:aA X.K Pr H1 σ Z1:=aA.tail (σ:=σ) (Z:=Z1) E1;refine⟨s1.heap.objs.size+1,[s1.heap.objs.size+1,s1.heap.objs.size],_,_,H1,_,Z1,rfl,I1.kept (t':=s1.toks) hk,BE _ _ _ (Nat.succ_ne_self _),⟨⟨_,hE⟩,hI⟩,λb hb=>?_,E2,zY hz rs,q1⟩
     have hb':s1.heap.objs.size<=b:=by
      rcases SK.mp hb with rfl|hb
      . exact Nat.le_succ _
      . rw[List.mem_singleton.mp hb];exact SN _
     exact I1.fpOk hb' (I1.hok.fresh hb')
  . exact q1.elim
end
section
variable{p:Pos}
noncomputable def Dn(xs ys:List D):List D:=(xs.zip ys).map λp=>.tup [p.1,p.2]
end
section
variable{X:Cx}{e a b:Expr}{es:List Expr}{pos p apos cpos:Pos}{x y:Str}
def LJ(X:Cx)(es:List Expr)(n:Nat)(is:List Nat):Prop:=∃gg:Oy,Oz X es gg/\es.length=is.length/\∀vs σ H Pr Z xs k,σ.length=X.N.length->aA X.K Pr H σ Z->bM X.K H vs xs->hG is xs Z k->gg vs σ H λσ' H'=>H'=H/\σ'.drop n=σ.drop n/\∃Z',aA X.K Pr H σ' Z'/\k Z'
theorem BF{n:Nat}:LJ X [] n []:=⟨_,AV,rfl,λvs σ H Pr Z xs k hl E r h=>by
 cases r with
 |nil=>exact⟨rfl,rfl,rfl,Z,E,h⟩
 |cons _ _=>exact h.elim⟩
theorem pq{i n:Nat}{is:List Nat}{x:Str}(hn:i<n)(hN:X.N.Nodup)(hi:X.N[i]?=some x)(hx:Oo X.env.scope x)(hr:LJ X es n is)(hf:X.fn x=true∨X.env.scope.names.lookup x=some .local:=by first|exact .inl rfl|exact .inr rfl|assumption)
  (hs:(assignEach (.Name x pos::es) X.env).map (·.2)=assign (.Name x pos) X.env::(assignEach es X.env).map (·.2):=by rfl):LJ X (.Name x pos::es) n (i::is):=by
 obtain⟨gg,hg,kz,q⟩:=hr;refine⟨_,ym (tI hN hi hx hf) hg hs,by simp[kz],λvs σ H Pr Z xs k hl E r h=>?_⟩
 cases r with
 |nil=>exact h.elim
 | cons r0 t =>
  refine⟨_,_,rfl,?_⟩;have:=q _ (σ.set i (some _)) H Pr _ _ k (by simpa using hl) ((E.cons_d r0).store (by rw[hl];exact(SB.mp hi).1)) t h;rw[List.drop_set_of_lt hn]at this;exact this
theorem Gb{is:List Nat}{k n:Nat}(hc:X.calm=true)(h:LJ X es n is)(hn:(assignEach es X.env).length=is.length:=by rfl)(hst:(assignEach es X.env).findIdx? (·.1)=none:=by rfl):Pw X (.Tuple es k pos) n (kg is):=by
 obtain⟨gg,hg,kz,q⟩:=h;refine⟨_,FT hc hg hn hst,λv σ H Pr Z x k hl E r h=>?_⟩
 cases r with
 |tup hs rs=>exact⟨_,_,rfl,hs,by rw[rs.length];exact lh h,q _ σ H Pr Z _ k hl E rs h⟩
 |_=>exact h.elim
def Mr(i:Nat):W L:=λZ p4=>w9 i Z λa xs=>∃y,xs[xs.length-1]?=some y/\p4 (.d y) (Z.set i (.own a xs.dropLast))
theorem bM.dropLast{K:PySem.W.Frag}{H:Hp}:∀{vs:List V}{ds:List D},bM K H vs ds->bM K H vs.dropLast ds.dropLast
 |_,_,.nil=>.nil
 |_,_,.cons r .nil=>.nil
 |_,_,.cons r (.cons q t)=>.cons r (bM.dropLast (.cons q t))
theorem Ko(i:Nat)(hN:X.N[i]?=some x:=by rfl)(hv:On X.env.scope x:=by first | exact Or.inl rfl | exact Or.inr (Or.inl rfl) | exact Or.inr (Or.inr rfl)) (hd:(x == ("__debug__" : Str))=false:=by decide)
  (hcd:(x == ("__classdict__" : Str))=false:=by decide) (hbase:attributeBase (.Name x p) "pop" X.env (eval (.Name x p) X.env)=eval (.Name x p) X.env:=by rfl)
  (hline:(apos.endLine == cpos.line)=true:=by rfl) :
  PL X (.Call (.Attribute (.Name x p) "pop" apos) [] [] cpos) (Mr i):=by
 refine PL.of (JT PySem.F.plainAttrs_list PySem.F.slot_list_pop PySem.F.type_list_pop JV (cR hN hv hd hcd) (hbase:=hbase) (hline:=hline)) λσ H Pr Z p4 E h=>?_;obtain⟨l,xs,q,y,hy,h⟩:=hJ h;obtain⟨hσ,vs,hl,r⟩:=E.ownAt q;obtain⟨v,hv',rv⟩:=r.get hy;have E2:=E.updOwn q r.dropLast;refine⟨.ref l,hσ,.inl ⟨rfl,vs,Ow.of hl⟩,l,vs,v,rfl,rfl,hl,by rw[r.length];exact hv',_,_,E2.cons_d (rv.pres λb u hp e=>?_),h⟩;by_cases hb:b=l
 . subst hb;rw[hl]at e;cases e;exact hp.elim
 . rw[aD hb];exact e
end
end L2
namespace L2
open PySem PySem.Spec PyProof.Rows
mutual
noncomputable def PP:D->Bool
 |.lst _=>false
 |.dct _=>false
 |.exc _ _ _=>false
 |.fn _ _=>false
 |.dk _ _=>false
 |.gf _=>false
 |.tup xs=>vE xs
 |_=>true
noncomputable def vE:List D->Bool
 |[]=>true
 |x::xs=>PP x && vE xs
end
mutual
noncomputable def p9:L->Bool
 |.un=>true
 |.d x=>PP x
 |.own _ xs=>vE xs
 |.bx _ ls=>t6 ls
 |.dic _ kvs=>kvs.all λp=>PP p.2
noncomputable def t6:List L->Bool
 |[]=>true
 |l::ls=>p9 l && t6 ls
end
theorem Ho:p9 .un=true:=by simp[p9]
theorem Kp(x:D):p9 (.d x)=PP x:=by simp[p9]
theorem Ea(a:Addr)(xs:List D):p9 (.own a xs)=vE xs:=by simp[p9]
theorem Hq(a:Option Addr)(ls:List L):p9 (.bx a ls)=t6 ls:=by simp[p9]
theorem Eb(a:Addr)(kvs:List (Of×D)):p9 (.dic a kvs)=kvs.all λp=>PP p.2:=by simp[p9]
theorem BG:t6 []=true:=by simp[t6]
theorem z6(l:L)(ls:List L):t6 (l::ls)=(p9 l && t6 ls):=by simp[t6]
noncomputable def rO:L->Bool
 |.d _=>true
 |l=>p9 l
theorem Ec:rO .un=true:=by simp[rO,p9]
theorem Hr(x:D):rO (.d x)=true:=rfl
theorem BH(a:Addr)(xs:List D):rO (.own a xs)=vE xs:=by simp[rO,p9]
theorem BI(a:Addr)(kvs:List (Of×D)):rO (.dic a kvs)=kvs.all λp=>PP p.2:=by simp[rO,p9]
theorem Ed(a:Option Addr)(ls:List L):rO (.bx a ls)=t6 ls:=by simp[rO,p9]
noncomputable def eY(i:Nat)(Z:Ev):Bool:=(Z.set i .un).all rO
def PQ(o:Option L)(i:Nat)(t:W L)(Z:Ev)(p4:L->Ev->Prop):Prop:=match o with
 |some (.own _ xs)=>eY i Z=true/\t (Z.set i (.d (.lst xs))) λr Z'=>p9 r=true/\Z'=Z.set i (.d (.lst xs))/\p4 r Z
 |some (.bx b ls)=>eY i Z=true/\AG b ls λx=>t (Z.set i (.d x)) λr Z'=>p9 r=true/\Z'=Z.set i (.d x)/\p4 r Z
 |_=>t Z p4
theorem Hs(a:Addr)(xs:List D)(i:Nat)(t:W L)(Z:Ev)(p4:L->Ev->Prop):PQ (some (.own a xs)) i t Z p4=(eY i Z=true/\t (Z.set i (.d (.lst xs))) λr Z'=>p9 r=true/\Z'=Z.set i (.d (.lst xs))/\p4 r Z):=(rfl)
theorem Kq(b:Option Addr)(ls:List L)(i:Nat)(t:W L)(Z:Ev)(p4:L->Ev->Prop):PQ (some (.bx b ls)) i t Z p4=(eY i Z=true/\AG b ls λx=>t (Z.set i (.d x)) λr Z'=>p9 r=true/\Z'=Z.set i (.d x)/\p4 r Z):=(rfl)
theorem Ms(x:D)(i:Nat)(t:W L)(Z:Ev)(p4:L->Ev->Prop):PQ (some (.d x)) i t Z p4=t Z p4:=(rfl)
def PR(o:Option L)(i:Nat)(t:W Bool)(Z:Ev)(p4:Bool->Ev->Prop):Prop:=match o with
 |some (.own _ xs)=>eY i Z=true/\t (Z.set i (.d (.lst xs))) λr Z'=>Z'=Z.set i (.d (.lst xs))/\p4 r Z
 |some (.bx b ls)=>eY i Z=true/\AG b ls λx=>t (Z.set i (.d x)) λr Z'=>Z'=Z.set i (.d x)/\p4 r Z
 |_=>t Z p4
theorem Ht(a:Addr)(xs:List D)(i:Nat)(t:W Bool)(Z:Ev)(p4:Bool->Ev->Prop):PR (some (.own a xs)) i t Z p4=(eY i Z=true/\t (Z.set i (.d (.lst xs))) λr Z'=>Z'=Z.set i (.d (.lst xs))/\p4 r Z):=(rfl)
theorem Kr(b:Option Addr)(ls:List L)(i:Nat)(t:W Bool)(Z:Ev)(p4:Bool->Ev->Prop):PR (some (.bx b ls)) i t Z p4=(eY i Z=true/\AG b ls λx=>t (Z.set i (.d x)) λr Z'=>Z'=Z.set i (.d x)/\p4 r Z):=(rfl)
theorem Mt(x:D)(i:Nat)(t:W Bool)(Z:Ev)(p4:Bool->Ev->Prop):PR (some (.d x)) i t Z p4=t Z p4:=(rfl)
variable{X:Cx}
variable{X:Cx}
theorem yL:∀{ns:List Int}{us:List Value},bZ (ns.map V.int) us->IntsAre us ns
 |[],_,r=>by cases r;exact .nil
 | n::ns,_,r=>by
  cases r with
  | cons r0 rs =>
   obtain⟨t,rfl⟩:=r0;exact .cons n t (yL rs)
theorem vF(hc:X.calm=true):iY X (.builtin "sum") (λxs H Q=>∃(p:Addr)(ns:List Int),xs=[.ref p]/\Ow X.K H p (ns.map V.int)/\Q (.int ns.sum) H):=by
 intro gV s σ H xs us Q I r h;obtain⟨p,ns,rfl,hq,q⟩:=h;obtain⟨u,rfl,rx⟩:=u7 r;cases rx;obtain⟨its,r',pl,hz⟩:=I.list hq;have hi:=yL r';obtain⟨xs,hx⟩:=hi.allInts.items;have hl':s.heap.IsList p (intItems xs):=hx ▸ pl.isList;refine sum_intListG (I.ok.hd hc) hl' λh' tk t' hk=>?_;have e1:ns=xs.toList.map (·.1):=by rw[<- nums_intItems,<- hx];exact(show numsOf its.toArray.toList=ns from hi.numsOf).symm
 have e2:preSum (numAt xs) xs.size=ns.sum:=by rw[preSum_eq,List.take_of_length_le v6,e1]
 rw[e2];exact⟨.int ns.sum,H,I.kept hk,⟨_,rfl⟩,q⟩
theorem oC{K:PySem.W.Frag}{H:Hp}:∀{vs:List V}{ns:List Int},bM K H vs (ns.map D.int)->vs=ns.map V.int
 |_,[],r=>by cases r;rfl
 | _,n::ns,r=>by
  cases r with
  | cons r0 rs =>
   cases r0;rw[oC rs];rfl
def Ks:Pq:=λds k=>∃ns:List Int,ds=[.lst (ns.map D.int)]/\k (.d (.int ns.sum))
theorem Kt(hc:X.calm=true):gL X (.builtin "sum") Ks:=gL.of (vF hc) λσ H Pr Z vs ds p4 E ps ⟨ns,e,h⟩=>by
 subst e;obtain⟨v,rfl,r⟩:=pX ps
 cases r with
 | lst hz rs =>
  have:=oC rs;subst this;exact⟨_,ns,rfl,hz.l,_,E.cons_d (.int _),h⟩
variable{X:Cx}
section
variable{X:Cx}{e a b c:Expr}{es:List Expr}{pos p p2:Pos}{ta:W L}{x y:Str}
def oE:List (Pc×W L)->D->W L
 |[],_=>λ_ _=>False
 |[(o,t)],dx=>λZ p4=>t Z λy Z1=>Pb y λdy=>o dx dy λr=>AH r λk=>p4 (.d (.bl k)) Z1
 |(o,t)::q::r,dx=>λZ p4=>t Z λy Z1=>Pb y λdy=>o dx dy λz=>AH z λk=>if k=true then oE (q::r) dy Z1 p4 else p4 (.d (.bl false)) Z1
def xh(ta:W L)(ls:List (Pc×W L)):W L:=λZ p4=>ta Z λx Z1=>Pb x λdx=>oE ls dx Z1 p4
inductive vG (X:Cx):List CmpOp->List Expr->List (Pc×W L)->Prop where
 |one {op:CmpOp} {e:Expr} {o:Pc} {t:W L} (ho:Pd X (compareOp op) o) (h:PL X e t):vG X [op] [e] [(o,t)]
 |cons {op:CmpOp} {e:Expr} {o:Pc} {t:W L} {ops:List CmpOp} {es:List Expr} {ls:List (Pc×W L)} (ho:Pd X (compareOp op) o) (h:PL X e t) (r:vG X ops es ls):vG X (op::ops) (e::es) ((o,t)::ls)
theorem t7{op:CmpOp}{o:Pc}{gV:List (Addr×Obj)}{s:Shared}{σ:St}{H Pr:Hp}{Z:Ev}{v:V}{u:Value}{dx:D}{R:Bool->D->Ev->Prop}{t:W L}{Q:Value->Value->Shared->Prop}(ho:Pd X (compareOp op) o)(h:PL X e t)
  (I:Oq X gV σ H s) (rv:bU v u) (E:aA X.K Pr H (some v::σ) (.d dx::Z)) (ht:t Z λy Z1=>Pb y λdy=>o dx dy λr=>AH r λk=>R k dy Z1)
  (hQ:∀u2 s3 w2 dy H3 Z1 k,Oq X gV σ H3 s3->bU w2 u2->aA X.K Pr H3 (some w2::σ) (.d dy::Z1)->R k dy Z1->Q u2 (.bool k) s3) :
  wpAny (model X.prog X.w) X.A (eval e X.env) (λb s₁=>wpAny (model X.prog X.w) X.A (compareOp op u b) (λc s₂=>Q b c s₂) X.xe s₁) X.xe s:=by
 refine Ot (h gV s σ H _ Z _ I E.tail.wide ht) λu2 s2 q=>?_;obtain⟨y,H2,dy,Z2,I2,r2,E2,q2⟩:=EL.frz (p4:=λdy Z1=>o dx dy λr=>AH r λk=>R k dy Z1) q;have E3:aA X.K Pr H2 (some y::some v::σ) (.d dy::.d dx::Z2):=aA.step (τ:=[some v]) (lam:=[.d dx]) (w:=[some y]) (μ:=[.d dy]) E rfl E2 rfl;obtain⟨_,e1,p1⟩:=E3.head_d;obtain⟨_,e2,p2⟩:=E3.tail.head_d;cases e1;cases e2;have E4:aA X.K Pr H2 σ Z2:=E3.tail.tail;have E5:aA X.K Pr H2 (some y::σ) (.d dy::Z2):=E4.cons_d p1;have E5w:=E5;refine Ot (ho gV s2 σ H2 (bF H2 Z2) Z2 v y u u2 dx dy _ I2 rv r2 E4.wide p2 p1 q2) λw s3 jqz=>?_;obtain⟨z,H3,r,I3,rz,E6,pp⟩:=jqz;obtain⟨k,rfl,pp⟩:=tP pp;obtain⟨_,e3,p3⟩:=E6.head_d;cases e3;cases p3;cases rz;have P3:sH H2 H3:=tO E4 E6.sub;have E7:aA X.K Pr H3 σ Z2:=E4.narrow E6.tail;exact hQ u2 s3 y dy H3 Z2 k I3 r2 (E7.cons_d (p1.pres P3)) pp
theorem Ee{ops:List CmpOp}{es:List Expr}{ls:List (Pc×W L)}(h:vG X ops es ls):∀(gV:List (Addr×Obj))(s:Shared)(σ:St)(H Pr:Hp)(Z:Ev)(p4:L->Ev->Prop)(v:V)(u:Value)(dx:D)(pos:Pos),Oq X gV σ H s->bU v u->aA X.K Pr H (some v::σ) (.d dx::Z)->oE ls dx Z p4 ->
  wpAny (model X.prog X.w) X.A (compareChain pos u ops (evalEach es X.env)) (EL X gV σ Pr p4) X.xe s:=by
 induction h with
 | one ho h =>
  intro gV s σ H Pr Z p4 v u dx pos I rv E hl;refine chain_last ?_;exact t7 (R:=λk _ Z1=>p4 (.d (.bl k)) Z1) (Q:=λ_ c s=>EL X gV σ Pr p4 c s) ho h I rv E hl λu2 s3 w2 dy H3 Z1 k I3 r3 E3 q=>⟨.bl k,H3,_,Z1,I3,rfl,E3.tail.cons_d (.bl k),q⟩
 | @cons op e o t ops es ls ho h r ih =>
  intro gV s σ H Pr Z p4 v u dx pos I rv E hl
  cases r with
  | one ho2 h2 =>
   refine chain_link (t7 (R:=λk dy Z1=>if k=true then oE [_] dy Z1 p4 else p4 (.d (.bl false)) Z1) (Q:=λb c s=>wpAny (model X.prog X.w) X.A (truthy c) (λt s₃=>if t then _ else EL X gV σ Pr p4 c s₃) X.xe s) ho h I rv E hl λu2 s3 w2 dy H3 Z1 k I3 r3 E3 q=>?_)
   refine wpAny_truthy_bool ?_
   cases k with
   |false=>exact ite_ff ⟨.bl false,H3,_,Z1,I3,rfl,E3.tail.cons_d (.bl false),q⟩
   |true=>exact ite_tt (ih gV s3 σ H3 Pr Z1 p4 w2 u2 dy pos I3 r3 E3 q)
  | cons ho2 h2 r2 =>
   cases r2 with
   | one ho3 h3 =>
    refine chain_link (t7 (R:=λk dy Z1=>if k=true then oE (_::_::_) dy Z1 p4 else p4 (.d (.bl false)) Z1) (Q:=λb c s=>wpAny (model X.prog X.w) X.A (truthy c) (λt s₃=>if t then _ else EL X gV σ Pr p4 c s₃) X.xe s) ho h I rv E hl λu2 s3 w2 dy H3 Z1 k I3 r3 E3 q=>?_)
    refine wpAny_truthy_bool ?_
    cases k with
    |false=>exact ite_ff ⟨.bl false,H3,_,Z1,I3,rfl,E3.tail.cons_d (.bl false),q⟩
    |true=>exact ite_tt (ih gV s3 σ H3 Pr Z1 p4 w2 u2 dy pos I3 r3 E3 q)
   | cons ho3 h3 r3 =>
    refine chain_link (t7 (R:=λk dy Z1=>if k=true then oE (_::_::_) dy Z1 p4 else p4 (.d (.bl false)) Z1) (Q:=λb c s=>wpAny (model X.prog X.w) X.A (truthy c) (λt s₃=>if t then _ else EL X gV σ Pr p4 c s₃) X.xe s) ho h I rv E hl λu2 s3 w2 dy H3 Z1 k I3 r3 E3 q=>?_)
    refine wpAny_truthy_bool ?_
    cases k with
    |false=>exact ite_ff ⟨.bl false,H3,_,Z1,I3,rfl,E3.tail.cons_d (.bl false),q⟩
    |true=>exact ite_tt (ih gV s3 σ H3 Pr Z1 p4 w2 u2 dy pos I3 r3 E3 q)
theorem BJ{op op':CmpOp}{ops:List CmpOp}{r1 r2:Expr}{rs:List Expr}{ls:List (Pc×W L)}(ha:PL X a ta)(h:vG X (op::op'::ops) (r1::r2::rs) ls)(hm:lastMarks (op::op'::ops) (r1::r2::rs)=false:=by with_unfolding_all rfl):PL X (.Compare a (op::op'::ops) (r1::r2::rs) pos) (xh ta ls):=by intro gV s σ H Pr Z p4 I E ht;refine Compare_chain (Ot (ha gV s σ H Pr Z _ I E ht) λu s1 q=>?_) hm;obtain⟨v,H1,dx,Z1,I1,rv,E1,q1⟩:=EL.frz (p4:=λdx Z1=>oE ls dx Z1 p4) q;exact Ee h gV s1 σ H1 Pr Z1 p4 v u dx pos I1 rv E1 q1
theorem xi{prog:Program}{w:World}{A:Around}{ks:List Bool}{us:List Value}(h:us=ks.map Value.bool):TruthOf prog w A (λi v=>us.toArray[i]?=some v) (λi=>ks.getD i true):=λi v s Q E hv hQ=>by
 subst h;rw[List.getElem?_toArray,List.getElem?_map]at hv
 cases q:ks[i]? with
 |none=>rw[q]at hv;cases hv
 | some k =>
  rw[q]at hv;cases hv;refine wpAny_truthy_bool ?_;have:ks.getD i true=k:=by rw[SA,q];rfl
  have hQ':Q (ks.getD i true) s:=hQ;rw[this]at hQ';exact hQ'
theorem BK(ks:List Bool):(List.range ks.length).any (λi=>ks.getD i true)=ks.any id:=by
 apply Bool.eq_iff_iff.mpr;simp only[List.any_eq_true,List.mem_range,id];constructor
 . rintro⟨i,hi,e⟩;rw[SA,so hi]at e;exact⟨_,List.getElem_mem hi,e⟩
 . rintro⟨x,hx,e⟩;obtain⟨i,hi,e2⟩:=List.getElem_of_mem hx;refine⟨i,hi,?_⟩;rw[SA,so hi];simpa[e2]using e
theorem sN:∀{ks:List Bool}{us:List Value},bZ (ks.map V.bl) us->us=ks.map Value.bool
 |[],_,.nil=>rfl
 | k::ks,_,.cons r t=>by have e:=sN t;subst e;cases r;rfl
theorem vH(hc:X.calm=true):iY X (.builtin "any") (λxs H Q=>∃(p:Addr)(ks:List Bool),xs=[.ref p]/\Ow X.K H p (ks.map V.bl)/\Q (.bl (ks.any id)) H):=by
 intro gV s σ H xs us Q I r ⟨p,ks,e,hq,q⟩;subst e;obtain⟨u,rfl,r1⟩:=u7 r;cases r1;obtain⟨its,rv,pl,hz⟩:=I.list hq;have e:=sN rv;refine call_any_walk (wpAny_pyIter_list pl.isList ?_);have hne:p≠s.heap.objs.size:=λz=>by obtain⟨o,n,eo,_⟩:=pl;have:=SI eo;rw[z]at this;exact absurd this (Nat.lt_irrefl _)
 refine⟨s.heap.objs.size,_,_,_,_,_,(λi=>ks.getD i true),rfl,Walks.list (A:=X.A.in1) (I.ok.hd hc) _ p hne its.toArray,⟨⟨_,Heap.get?_push_size _ rfl,rfl,rfl⟩,pl.isList.at λo eo=>tu _ eo⟩,xi e,λh' tk hk=>?_⟩;have hl:its.toArray.size=ks.length:=by rw[e];simp
 rw[hl,BK];refine⟨.bl _,H,I.kept (h':=h') (t':=tk) λb o eb=>hk b o (λhm=>?_) (tu _ eb),rfl,q⟩;have e2:b=s.heap.objs.size:=by simpa using hm
 have:=SI eb;rw[e2]at this;exact absurd this (Nat.lt_irrefl _)
theorem mr{K:PySem.W.Frag}{H:Hp}:∀{vs:List V}{ks:List Bool},bM K H vs (ks.map D.bl)->vs=ks.map V.bl
 |[],[],_=>rfl
 | _::_,k::ks,.cons r t=>by cases r;rw[mr t];rfl
 |[],_::_,r=>nomatch r
 |_::_,[],r=>nomatch r
def Ku:Pq:=λds k=>∃ks:List Bool,ds=[.lst (ks.map D.bl)]/\k (.d (.bl (ks.any id)))
theorem Kv(hc:X.calm=true):gL X (.builtin "any") Ku:=gL.of (vH hc) λσ H Pr Z vs ds p4 E ps ⟨ks,e,h⟩=>by
 subst e;obtain⟨v,rfl,r⟩:=pX ps
 cases r with
 | lst hz rs =>
  have e:=mr rs;subst e;exact⟨_,ks,rfl,hz.l,_,E.cons_d (.bl _),h⟩
end
end L2
set_option exponentiation.threshold 2000
namespace L2
open PySem PySem.Spec PyProof.Rows
section
variable{e a:Expr}{x:Str}
mutual
noncomputable def iQ:D->Bool
 |.int i=>decide (i.natAbs<2^1900)
 |.tup xs=>lq xs
 |.lst xs=>lq xs
 |_=>true
noncomputable def lq:List D->Bool
 |[]=>true
 |x::xs=>iQ x && lq xs
end
theorem Hu:(2:Nat)^1900<10^600:=by decide +kernel
theorem BL{i:Int}(h:i.natAbs<2^1900):(PyData.shown (.int i)).length<=601:=by have e:=PySem.int_text_length_le10 (k:=600) x_ (Nat.lt_trans h Hu);show(Str.ofString (toString i)).length<=601;rw[PySem.ofString_length];exact e
mutual
theorem pw:∀d:D,iQ d=true->(Po d).intsShort 601=true/\(Po d).showable=true
 |.non,_=>⟨rfl,rfl⟩
 |.bl _,_=>⟨rfl,rfl⟩
 |.str _,_=>⟨rfl,rfl⟩
 |.dct _,_=>⟨rfl,rfl⟩
 |.exc _ _ _,_=>⟨rfl,rfl⟩
 |.fn _ _,_=>⟨rfl,rfl⟩
 |.dk _ _,_=>⟨rfl,rfl⟩
 |.gf _,_=>⟨rfl,rfl⟩
 | .int i,h=>by
  have h':i.natAbs<2^1900:=by simpa only[iQ,decide_eq_true_eq]using h
  refine⟨by simp only[Po,PyData.intsShort,decide_eq_true_eq];exact BL h',?_⟩
  simp only[Po,PyData.showable,decide_eq_true_eq]
  by_cases h0:i.natAbs=0
  .
   rw[h0];decide
  .
   exact(Nat.log2_lt h0).mpr (SD h' (SL x_ x_))
 | .tup xs,h=>by
  obtain⟨h1,h2⟩:=qa xs (by simpa only[iQ]using h)
  exact⟨by simpa only[Po,PyData.intsShort]using h1,by simpa only[Po,PyData.showable]using h2⟩
 | .lst xs,h=>by
  obtain⟨h1,h2⟩:=qa xs (by simpa only[iQ]using h)
  exact⟨by simpa only[Po,PyData.intsShort]using h1,by simpa only[Po,PyData.showable]using h2⟩
theorem qa:∀ds:List D,lq ds=true->PyData.intsShortAll 601 (gK ds)=true/\PyData.showableAll (gK ds)=true
 |[],_=>⟨rfl,rfl⟩
 | d::ds,h=>by
  simp only[lq,Bool.and_eq_true]at h
  obtain⟨h1,h2⟩:=pw d h.1
  obtain⟨h3,h4⟩:=qa ds h.2
  exact⟨by simp only[gK,PyData.intsShortAll,h1,h3,Bool.and_self],by simp only[gK,PyData.showableAll,h2,h4,Bool.and_self]⟩
end
structure yM (d:D):Prop where
 ok:PJ 40 d=true
 sh:iQ d=true
 wt:(Po d).weight<=20000
theorem yM.len{d:D}(h:yM d):(Po d).shown.length<=sizeLine:=by
 have h1:=PyData.shown_le 601 x_ (Po d) (PyData.leavesShort_of_canLay0 601 _ (xg 40 d h.ok).1 (pw d h.sh).1);have h2:=h.wt;have e:sizeLine=16777216:=by decide
 rw[e];omega
def PU(f:Fl)(o:Option L)(j:Nat)(Z1:Ev)(p4:Fl->Ev->Prop):Prop:=match f with
 | .nx=>(match o with
  |some (.own _ xs)=>p4 .nx (Z1.set j (.d (.lst xs)))
  |_=>p4 .nx Z1)
 |f=>p4 f Z1
theorem Hv(a:Addr)(xs:List D)(j:Nat)(Z1:Ev)(p4:Fl->Ev->Prop):PU .nx (some (.own a xs)) j Z1 p4=p4 .nx (Z1.set j (.d (.lst xs))):=(rfl)
theorem Mu(x:D)(j:Nat)(Z1:Ev)(p4:Fl->Ev->Prop):PU .nx (some (.d x)) j Z1 p4=p4 .nx Z1:=(rfl)
end
section
variable{X:Cx}{gV:List (Addr×Obj)}{σ:St}{H:Hp}{s:Shared}
theorem Oq.past(I:Oq X gV σ H s):(s.heap.objs.size == sysModules)=false:=by have h:mainGlobals<s.heap.objs.size:=(I.mod.glob.keeps I.bk).lt;exact beq_eq_false_iff_ne.mpr (Ne.symm (Nat.ne_of_lt (Nat.lt_trans x_ h)))
end
structure FX (K:PySem.W.Frag) (mg:Str->Option Value) (g:Str) (st:Stmt) (a:Addr) (fd:FuncData) (P:List Str):Prop where
 f:O6 K g g st a fd
 b:oX K fd P []
 m:mg g=some (.ref a)
noncomputable abbrev PV(g:Str)(st:Stmt)(md:Value)(c:Nat):FuncData:=PySem.W.fnOf g g (i6 st) (eR st) (ao st) .none .none .none md none (.ref c) .none
theorem FX.mk'{K:PySem.W.Frag}{mg:Str->Option Value}{h:Heap}(X:K.In h)(G:h.Ns mainGlobals mg){g:Str}{st:Stmt}{a:Addr}{c:Nat}{md:Value}{P:List Str}(e1:PySem.W.nsIn K mainGlobals g=some (some (.ref a)))
  (e2:K.lookup a=some ⟨.type "function",none,.func (PV g st md c),#[]⟩) (e3:PySem.W.codeIn K (.ref c) g=true) (e4:PySem.W.keepIn K (.ref a)=true)
  (e5:∀(kV doc pm:Value)(an:Option Addr)(cdv ct:Value)(us:List Value),us.length=P.length->bindArgs (PySem.W.fnOf g g (i6 st) (eR st) (ao st) .none kV doc pm an cdv ct) ⟨us,[]⟩=pure (P.zip us)):FX K mg g st a (PV g st md c) P :=
 ⟨sG e2 e3 e4,(sG e2 e3 e4).binds e5,PySem.W.mg_of X G e1⟩
section
variable{X:Cx}{k k' n:Nat}{f:Addr}{fd:FuncData}{ps:List Str}{fs:FS}{g:Str}{st:Stmt}{e:Expr}{es:List Expr}{bs:List (Option Nat)}{t:W (List L)}{p pos:Pos}
theorem bp(F:FnOk X.prog X.w X.K X.mg X.base CX0 k f fd ps (spF X.K n fs))(T:FX X.K X.mg g st f fd ps)(hr:k9 k' X.A)(ha:O9 X (e::es) bs t)(hk:k<=k':=by decide)(hg:Gl X g:=by rfl)(hn:bs.length=n:=by rfl) (hdb:(g == ("__debug__" : Str))=false:=by decide) (he:starEach (e::es) X.env=(false,eval e X.env)::starEach es X.env:=by rfl) (hpl:(backTo pos (starEach es X.env)).any (·.1)=false:=by rfl) :
  PL X (.Call (.Name g p) (e::es) [] pos) (ba fs t):=G2 F (hr.mono hk) hg T.m T.f.kp T.b GP ha hn hdb he hpl
theorem bf(F:FnOk X.prog X.w X.K X.mg X.base CX0 k f fd ps (spF X.K n fs))(T:FX X.K X.mg g st f fd ps)(hr:k9 k' X.A)(j i:Nat)(ha:O9 X (e::es) bs t)(hk:k<=k':=by decide)(hg:Gl X g:=by rfl)(hj:bs[j]?=some (some i):=by rfl)(hn:bs.length=n:=by rfl) (hdb:(g == ("__debug__" : Str))=false:=by decide) (he:starEach (e::es) X.env=(false,eval e X.env)::starEach es X.env:=by rfl) (hpl:(backTo pos (starEach es X.env)).any (·.1)=false:=by rfl) :
  PL X (.Call (.Name g p) (e::es) [] pos) (a7 fs j i t):=DT F (hr.mono hk) hg T.m T.f.kp T.b GP j i ha hj hn hdb he hpl
end
section
variable{X:Cx}
theorem Ef:OI X (binaryOp .Add) (λx y H Q=>∃l b xs zs,x=.ref l/\y=.ref b/\Ox X.K H l xs/\Ox X.K H b zs/\xs≠[]/\zs≠[]/\xs.length+zs.length<=sizeLine/\∀p,H p=none->Q (.ref p) (Og H p (.tup (xs++zs)))):=by
 intro gV s σ H x y v u Q I rx ry h;obtain⟨l,b,xs,zs,rfl,rfl,hH,hB,n1,n2,hz,q⟩:=h;cases rx;cases ry;obtain⟨its,r,⟨o,e,c,n,f⟩,z⟩:=I.tuple hH;obtain⟨its2,r2,⟨o2,e2,c2,m,f2⟩,z2⟩:=I.tuple hB;obtain⟨cl,dd,dt,sl⟩:=o;obtain⟨cl2,dd2,dt2,sl2⟩:=o2;simp only at c f c2 f2;subst c f c2 f2;have hl:=r.length;have hl2:=r2.length;have k1:its≠[]:=λe=>n1 (List.length_eq_zero_iff.mp (by rw[hl,e];rfl));have k2:its2≠[]:=λe=>n2 (List.length_eq_zero_iff.mp (by rw[hl2,e];rfl));refine concat_meets ⟨_,e,rfl⟩ ⟨_,e2,rfl⟩ noFill_tuple_add seq_tuple_add PySem.F.slot_tuple_add PySem.F.entry_tuple_add (PySem.F.args_tuple_add_2 _ _) (tuple_addW2 l b its.toArray its2.toArray n m dd dd2 sl sl2 (by simpa using k1) (by simpa using k2) (by rw[List.size_toArray,List.size_toArray];omega)) ⟨e,e2,?_⟩;have ea:its.toArray++its2.toArray=(its++its2).toArray:=by simp
 rw[ea];exact⟨.ref _,Og H s.heap.objs.size (.tup (xs++zs)),I.laid (o:=.tup (xs++zs)) (λ_ _ q=>tu _ q) (SN _) ⟨by rw[List.length_append];omega,its++its2,r.append r2,⟨_,Heap.get?_push_size _ rfl,rfl,_,rfl⟩⟩,rfl,q _ I.fresh⟩
def yN:Pc:=λx y k=>match x,y with
 |.tup xs,.tup ys=>xs≠[]/\ys≠[]/\xs.length+ys.length<=sizeLine/\k (.d (.tup (xs++ys)))
 |_,_=>False
theorem Hw:Pd X (binaryOp .Add) yN:=(Pd.of Ef (op:=λx y k=>∃xs ys,x=.tup xs/\y=.tup ys/\xs≠[]/\ys≠[]/\xs.length+ys.length<=sizeLine/\k (.d (.tup (xs++ys)))) (λσ H Pr Z x y dx dy p4 E px py ⟨xs,ys,e1,e2,m1,m2,z,h⟩=>by
  subst e1 e2
  cases px with
  | tup h1 r1 =>
   cases py with
   | tup h2 r2 =>
    refine⟨_,_,_,_,rfl,rfl,h1,h2,λe=>m1 ?_,λe=>m2 ?_,by rw[r1.length,r2.length];exact z,λp hp=>⟨_,E.cons_tup hp (r1.append r2),h⟩⟩
    . exact List.length_eq_zero_iff.mp (by rw[<- r1.length,e];rfl)
    .
     exact List.length_eq_zero_iff.mp (by rw[<- r2.length,e];rfl))).imp λx y k h=>by
 unfold yN at h;split at h
 . exact⟨_,_,rfl,rfl,h⟩
 . exact h.elim
end
theorem BM{P:Program}{w:World}{K:PySem.W.Frag}{mg:Str->Option Value}{base:Heap}{CX:OQ}{k n:Nat}{f:Addr}{fd:FuncData}{ps:List Str}{fs:FS}(h:∀ls p4,¬fs ls p4):FnOk P w K mg base CX k f fd ps (spF K n fs) :=
 ⟨λ_ _ _ _ ⟨_,_,ls,p4,_,q,_⟩=>(h ls p4 q).elim,λ_ _ _ _ _ _ _ _ _ _ _ _ _ ⟨_,_,ls,p4,_,q,_⟩=>(h ls p4 q).elim⟩
mutual
noncomputable def z7:D->Nat
 |.tup xs=>xj xs+1
 |.lst xs=>xj xs+1
 |_=>0
noncomputable def xj:List D->Nat
 |[]=>0
 |x::xs=>max (z7 x) (xj xs)
end
theorem yO{n:Nat}:∀{xs:List D},(∀x∈xs,z7 x<=n)->xj xs<=n
 |[],_=>Nat.zero_le _
 | y::ys,h=>by simp only[xj];have:=h y SE;have:=yO (xs:=ys) λx hx=>h x (SC _ hx);omega
end L2
namespace L2
open PySem PySem.Spec PyProof.Rows PySem.Builtin.Str
inductive Sk where
 |l|t
def Sk.At:Sk->Heap->Addr->Addr->Nat->Prop
 |.l,h,j,a,i=>h.IsListIter j a i
 |.t,h,j,a,i=>IsTupIter h j a i
def Sk.Sq:Sk->Heap->Addr->Array Value->Prop
 |.l,h,a,xs=>h.IsList a xs
 |.t,h,a,xs=>IsTup h a xs
theorem Sk.At.to{k:Sk}{h h':Heap}{j a:Addr}{i:Nat}(x:k.At h j a i)(e:∀o,h.get? j=some o->h'.get? j=some o):k.At h' j a i:=by
 cases k with
 |l=>obtain⟨o,z,r⟩:=x;exact⟨o,e _ z,r⟩
 |t=>obtain⟨o,z,r⟩:=x;exact⟨o,e _ z,r⟩
theorem Sk.Sq.to{k:Sk}{h h':Heap}{a:Addr}{xs:Array Value}(x:k.Sq h a xs)(e:∀o,h.get? a=some o->h'.get? a=some o):k.Sq h' a xs:=by
 cases k with
 |l=>obtain⟨o,z,r⟩:=x;exact⟨o,e _ z,r⟩
 |t=>obtain⟨o,z,r⟩:=x;exact⟨o,e _ z,r⟩
theorem Sk.At.obj{k:Sk}{h:Heap}{j a:Addr}{i:Nat}(x:k.At h j a i):∃ o,h.get? j=some o/\(∀ v,o.data≠.cell v)/\o.cls≠.type "list"/\o.cls≠.type "tuple":=by
 cases k with
 |l=>obtain⟨o,z,c,d⟩:=x;exact⟨o,z,(λv q=>by rw[d]at q;cases q),by rw[c];simp,by rw[c];simp⟩
 |t=>obtain⟨o,z,c,d⟩:=x;exact⟨o,z,(λv q=>by rw[d]at q;cases q),by rw[c];simp,by rw[c];simp⟩
theorem Sk.Sq.obj{k:Sk}{h:Heap}{a:Addr}{xs:Array Value}(x:k.Sq h a xs):∃ o,h.get? a=some o/\(o.cls=.type "list"∨o.cls=.type "tuple"):=by
 cases k with
 |l=>obtain⟨o,z,c,d⟩:=x;exact⟨o,z,.inl c⟩
 |t=>obtain⟨o,z,c,d⟩:=x;exact⟨o,z,.inr c⟩
section
variable{prog:Program}{w:World}{A:Around}{E:Value->Shared->Prop}{s:Shared}
theorem Kw{j q:Addr}{i:Nat}{ys:Array Value}{y:Value}{Q:Value->Shared->Prop}(hj:IsTupIter s.heap j q i)(hq:IsTup s.heap q ys)(hy:ys[i]?=some y)
  (k:∀h',IsTupIter h' j q (i+1)->Heap.SameBut j s.heap h'->Q y {s with heap:=h' }):wpAny (model prog w) A (Builtin.SmallTypes.nextOf (.ref j)) Q E s:=by
 obtain⟨u,hu,cu,du⟩:=id hj;obtain⟨v,hv,_,n,dv⟩:=hq;unfold Builtin.SmallTypes.nextOf;refine kS (wpAny_callSpecial?_slot (name:=Str.ofString "__next__") hj.typeIs slot_tupleiter_next (wpAny_call_entry slot_tupleiter_next hj.typeIs entry_tupleiter_next ?_ (args_tupleiter_next _)));show wpAny _ _ (field (.ref j) 0 >>= _) _ _ s;refine kS (wpAny_field hu du (x:=.ref q) rfl ?_)
 show wpAny _ _ (if(Value.ref q == Value.none)=true then _ else _) _ _ s
 rw[if_neg (show ¬((Value.ref q == Value.none)=true)from Bool.false_ne_true)];show wpAny _ _ (field (.ref j) 1 >>= _) _ _ s;refine kS (wpAny_field hu du (x:=.int i 0) rfl ?_);show wpAny _ _ (seqItems? (.ref q) >>= _) _ _ s;refine kS (wpAny_seqItems hv dv ?_);simp only[hy,Int.toNat_natCast];refine kS (wpAny_setField hu du v6 (SG ⟨y,rfl,SG (k _ ?_ (Heap.SameBut.update ..))⟩));exact⟨_,Heap.get?_update_self _ hu (Obj.isFreed_of_fields (Obj.data_mapFields du _)),(Obj.cls_mapFields ..).trans cu,by rw[Obj.data_mapFields du];simp[rawInt]⟩
theorem Hx{j q:Addr}{i:Nat}{ys:Array Value}{Q:Value->Shared->Prop}(h0:A.handled=none)(hj:IsTupIter s.heap j q i)(hq:IsTup s.heap q ys)(hy:ys[i]?=none)
  (k:∀ h' e,Heap.ExtBut j s.heap h'->(∃ o,h'.get? e=some o/\o.cls=.type "StopIteration")->E (.ref e) {s with heap:=h' }):wpAny (model prog w) A (Builtin.SmallTypes.nextOf (.ref j)) Q E s:=by
 obtain⟨u,hu,cu,du⟩:=id hj;obtain⟨v,hv,_,n,dv⟩:=hq;unfold Builtin.SmallTypes.nextOf;refine kS (wpAny_callSpecial?_slot (name:=Str.ofString "__next__") hj.typeIs slot_tupleiter_next (wpAny_call_entry slot_tupleiter_next hj.typeIs entry_tupleiter_next ?_ (args_tupleiter_next _)));show wpAny _ _ (field (.ref j) 0 >>= _) _ _ s;refine kS (wpAny_field hu du (x:=.ref q) rfl ?_)
 show wpAny _ _ (if(Value.ref q == Value.none)=true then _ else _) _ _ s
 rw[if_neg (show ¬((Value.ref q == Value.none)=true)from Bool.false_ne_true)];show wpAny _ _ (field (.ref j) 1 >>= _) _ _ s;refine kS (wpAny_field hu du (x:=.int i 0) rfl ?_);show wpAny _ _ (seqItems? (.ref q) >>= _) _ _ s;refine kS (wpAny_seqItems hv dv ?_);simp only[hy,Int.toNat_natCast];refine kS (wpAny_rule (kS (wpAny_setField hu du v6 ?_)));show wpAny _ _ (newExc (.type "StopIteration") [] >>= _) _ _ {s with heap:=_};refine kS ?_;simp only[newExc,newTuple]
 refine kS (wpAny_newObj_type ?_ (by size_fits));refine kS (m:=firstArgMember _ _) (wpAny_of_eq (a:=Value.none) (by first|rfl|(simp only[firstArgMember];rfl)) ?_);refine wpAny_newObj_type ?_ (by size_fits)
 simp only[raiseNew]
 refine kS (wpAny_handled ?_);first|rw[show A.in1.handled=none from h0] | rw[h0]
 refine kS (SG (wpAny_throw ?_));exact k _ _ (((Heap.SameBut.update ..).extBut.push _).push _) ⟨_,Heap.get?_push_size _ rfl,rfl⟩
theorem Sk.draw{k:Sk}{j a:Addr}{i:Nat}{ys:Array Value}{y:Value}{Q:Value->Shared->Prop}(hj:k.At s.heap j a i)(ha:k.Sq s.heap a ys)(hy:ys[i]?=some y)
  (q:∀h',k.At h' j a (i+1)->Heap.SameBut j s.heap h'->Q y {s with heap:=h' }):wpAny (model prog w) A (Builtin.SmallTypes.nextOf (.ref j)) Q E s:=by
 cases k with
 |l=>exact wpAny_nextOf_list_item hj ha hy q
 |t=>exact Kw hj ha hy q
theorem Sk.drawE{k:Sk}{j a:Addr}{i:Nat}{ys:Array Value}{Q:Value->Shared->Prop}(h0:A.handled=none)(hj:k.At s.heap j a i)(ha:k.Sq s.heap a ys)(hy:ys[i]?=none)
  (q:∀ h' e,Heap.ExtBut j s.heap h'->(∃ o,h'.get? e=some o/\o.cls=.type "StopIteration")->E (.ref e) {s with heap:=h' }):wpAny (model prog w) A (Builtin.SmallTypes.nextOf (.ref j)) Q E s:=by
 cases k with
 |l=>exact wpAny_nextOf_list_end h0 hj ha hy q
 |t=>exact Hx h0 hj ha hy q
end
abbrev eZ(h:Heap)(T:Addr)(xs:List Value):Prop:=h.get? T=some {cls:=.type "tuple",data:=.seq xs.toArray}
noncomputable abbrev Zi:=Sk×Addr×Addr
noncomputable def Zi.ofs(js:List Zi):List Addr:=js.map (·.2.1)
structure ZA (z I O:Addr) (js:List Zi):Prop where
 nd:(z::I::O::Zi.ofs js).Nodup
 src:∀p∈js,p.2.2∉z::O::Zi.ofs js
structure PX (z I O:Addr) (js:List Zi) (f:Value) (i:Nat) (h:Heap):Prop where
 hz:IsZip h z I O f
 hI:eZ h I ((Zi.ofs js).map .ref)
 hO:∃os,os.length=js.length/\eZ h O os
 at':∀p∈js,p.1.At h p.2.1 p.2.2 i
def BN(z O:Addr)(js:List Zi)(h h':Heap):Prop:=∀c o,c∉z::O::Zi.ofs js->h.get? c=some o->h'.get? c=some o
structure Oe (z I O:Addr) (js:List Zi) (xs:List Value) (i j:Nat) (h₀ h:Heap):Prop where
 hz:IsZip h z I O .ellipsis
 hO:∃os,os.length=js.length/\eZ h O os/\os.take j=xs.take j
 ahead:∀m p,m<j->js[m]?=some p->p.1.At h p.2.1 p.2.2 (i+1)
 behind:∀m p,j<=m->js[m]?=some p->p.1.At h p.2.1 p.2.2 i
 keep:BN z O js h₀ h
 sz:h.objs.size=h₀.objs.size
theorem jd{js:List Zi}{p:Zi}(h:p∈js):p.2.1∈Zi.ofs js:=List.mem_map.mpr ⟨p,h,rfl⟩
theorem ZA.zO{z I O:Addr}{js:List Zi}(D:ZA z I O js):z≠O:=λe=>by have:=D.nd;simp[e]at this
theorem ZA.zj{z I O:Addr}{js:List Zi}(D:ZA z I O js){p:Zi}(hp:p∈js):p.2.1≠z/\p.2.1≠O:=by have n:=D.nd;have m:=jd hp;simp only[List.nodup_cons,SK,not_or]at n;exact⟨λe=>n.1.2.2 (e ▸ m),λe=>n.2.2.1 (e ▸ m)⟩
theorem ZA.Iz{z I O:Addr}{js:List Zi}(D:ZA z I O js):I∉z::O::Zi.ofs js:=by have n:=D.nd;simp only[List.nodup_cons,SK,not_or]at n ⊢;exact⟨Ne.symm n.1.1,n.2.1.1,n.2.1.2⟩
theorem ZA.inj{z I O:Addr}{js:List Zi}(D:ZA z I O js){m m':Nat}{p p':Zi}(h:js[m]?=some p)(h':js[m']?=some p')(e:p.2.1=p'.2.1):m=m':=by
 have n:=D.nd;simp only[List.nodup_cons]at n;obtain⟨hm,e1⟩:=SB.mp h;obtain⟨hm',e2⟩:=SB.mp h';have key:=List.pairwise_iff_getElem.mp n.2.2.2;have q:∀k (hk:k<js.length),(Zi.ofs js)[k]'(by simpa[Zi.ofs]using hk)=js[k].2.1:=λk hk=>by simp[Zi.ofs]
 have hl:(Zi.ofs js).length=js.length:=by simp[Zi.ofs]
 rcases Nat.lt_trichotomy m m' with g|g|g
 . exact absurd (by rw[q m hm,q m' hm',e1,e2,e]) (key m m' xL xL g)
 . exact g
 . exact absurd (by rw[q m hm,q m' hm',e1,e2,e]) (key m' m xL xL g)
section
theorem BO{α:Type}{xs:List α}{j:Nat}{x:α×Nat}{r:List (α×Nat)}(e:xs.zipIdx.drop j=x::r):x.2=j/\xs[j]?=some x.1/\xs.zipIdx.drop (j+1)=r:=by
 have h0:(xs.zipIdx.drop j)[0]?=some x:=by rw[e];rfl
 rw[List.getElem?_drop,Nat.add_zero,List.getElem?_zipIdx]at h0;have h2:xs.zipIdx.drop (j+1)=r:=by rw[<- List.drop_drop,e];rfl
 cases h:xs[j]? with
 |none=>rw[h]at h0;cases h0
 | some y =>
  rw[h]at h0;simp only[Option.map_some,Nat.zero_add,Option.some.injEq]at h0;subst h0;exact⟨rfl,rfl,h2⟩
theorem PY{n:Nat}(h:n<=8):n<=sizeLine:=SJ h x_
end
noncomputable def Sk.nm:Sk->String
 |.l=>"list_iterator"
 |.t=>"tuple_iterator"
noncomputable abbrev Sk.itO(k:Sk)(a:Addr):Obj:={cls:=.type k.nm,data:=.fields #[.ref a,.int 0 0] }
section
variable{prog:Program}{w:World}{A:Around}{E:Value->Shared->Prop}{s:Shared}
theorem Sk.iter{k:Sk}{a:Addr}{ys:Array Value}{Q:Value->Shared->Prop}(h:k.Sq s.heap a ys)(hQ:Q (.ref s.heap.objs.size) {s with heap:=s.heap.push (k.itO a) }):wpAny (model prog w) A (pyIter (.ref a)) Q E s:=by
 cases k with
 |l=>exact wpAny_pyIter_list h hQ
 |t=>exact iter_tuple h hQ
end
theorem Sk.itAt{k:Sk}{h:Heap}{j a:Addr}(e:h.get? j=some (k.itO a)):k.At h j a 0:=by
 cases k with
 |l=>exact⟨_,e,rfl,rfl⟩
 |t=>exact⟨_,e,rfl,rfl⟩
noncomputable abbrev zA(h:Heap)(k:Sk)(a:Addr):Heap:=h.push (k.itO a)
noncomputable abbrev zT(h:Heap)(vs:List Value):Heap:=h.push {cls:=.type "tuple",data:=.seq vs.toArray}
noncomputable abbrev zZ(h:Heap)(I O:Addr):Heap:=h.push {cls:=.type "zip",data:=.fields #[.none,.bool false,.bool false,.ref I,.ref O] }
noncomputable abbrev PZ(h:Heap)(k m:Sk)(a b:Addr):Heap:=zT (zA (zA h k a) m b) [.ref h.objs.size,.ref (zA h k a).objs.size]
noncomputable abbrev P0(h:Heap)(k m:Sk)(a b:Addr):Heap:=zT (PZ h k m a b) [.none,.none]
noncomputable abbrev P1(h:Heap)(k m:Sk)(a b:Addr):Heap:=zZ (P0 h k m a b) (zA (zA h k a) m b).objs.size (PZ h k m a b).objs.size
theorem Eg(k m:Sk)(a b:Addr)(xs ys:Array Value):Meets (Builtin.«zip.__new__» ⟨[.type "zip",.ref a,.ref b],[]⟩) (λ_ R s=>k.Sq s.heap a xs/\m.Sq s.heap b ys/\R (.ok (.ret (.ref (P0 s.heap k m a b).objs.size))) {s with heap:=P1 s.heap k m a b}) :=
 .of_wp λprog w A R s q=>by
  obtain⟨hp,g,d,tk,os⟩:=s;obtain⟨q1,q2,q⟩:=q;have hsub:=sub_zip;have p1:Sk.Sq k (Shared.heap ⟨hp,g,d,tk,os⟩) a xs:=q1;have p2:Sk.Sq m (Shared.heap ⟨hp.push (k.itO a),g,d,tk,os⟩) b ys:=q2.to λo e=>tu _ e
  wp_walk using Sk.iter p1,Sk.iter p2
  exact⟨_,rfl,q⟩
structure Zq where
 k:Sk
 it:Addr
 a:Addr
 c:List V
noncomputable def Zq.zi(q:Zq):Zi:=(q.k,q.it,q.a)
def P2(K:PySem.W.Frag)(H:Hp):Sk->Addr->List V->Prop
 |.l,a,xs=>Ow K H a xs
 |.t,a,xs=>Ox K H a xs
section
variable{X:Cx}{gV:List (Addr×Obj)}{σ:St}{H:Hp}{s:Shared}
theorem Oq.sqk{k:Sk}{a:Addr}{xs:List V}(I:Oq X gV σ H s)(h:P2 X.K H k a xs):∃its:List Value,bZ xs its/\k.Sq s.heap a its.toArray:=by
 cases k with
 |l=>obtain⟨its,r,p,_⟩:=I.list h;exact⟨its,r,p.isList⟩
 |t=>obtain⟨its,r,p,_⟩:=I.tuple h;exact⟨its,r,p⟩
end
noncomputable def P4(K:PySem.W.Frag)(qs:List Zq):It :=
 ⟨λi H=>∀q∈qs,P2 K H q.k q.a q.c/\i<q.c.length,λi H v H'=>∃p,v=.ref p/\H p=none/\H'=Og H p (.tup (qs.map λq=>q.c.getD i .non)),λi H=>(∀q∈qs,P2 K H q.k q.a q.c)/\∃q∈qs,q.c.length<=i⟩
open Classical in
theorem vI{α β:Type}[Inhabited β]{P:α->β->Prop}{l:List α}(h:∀x∈l,∃y,P x y):∃f:α->β,∀x∈l,P x (f x) :=
 ⟨λx=>if hx:x∈l then Classical.choose (h x hx)else default,λx hx=>by
  dsimp only;rw[dif_pos hx]
  exact Classical.choose_spec (h x hx)⟩
theorem sO{α β γ:Type}{F:β->γ->Prop}{f:α->β}{g:α->γ}:∀{l:List α},(∀x∈l,F (f x) (g x))->Paired F (l.map f) (l.map g)
 |[],_=>.nil
 |x::l,h=>.cons (h x SE) (sO λy hy=>h y (SC _ hy))
theorem yP{K:PySem.W.Frag}{H:Hp}{α:Type}{f:α->V}{g:α->D}:∀{l:List α},(∀x∈l,O8 K H (f x) (g x))->bM K H (l.map f) (l.map g)
 |[],_=>.nil
 |x::l,h=>.cons (h x SE) (yP λy hy=>h y (SC _ hy))
def P5(K:PySem.W.Frag)(H:Hp):Sk->Addr->List V->Prop
 |.l,a,xs=>O7 K H a xs
 |.t,a,xs=>Ox K H a xs
theorem P5.pres{K:PySem.W.Frag}{H H':Hp}{k:Sk}{a:Addr}{xs:List V}(p:sH H H')(h:P5 K H k a xs):P2 K H' k a xs:=by
 cases k with
 |l=>exact(O7.pres p h).l
 |t=>exact Ox.pres p h
noncomputable def Sk.mk:Sk->List D->D
 |.l,xs=>.lst xs
 |.t,xs=>.tup xs
theorem Sk.rep{K:PySem.W.Frag}{H:Hp}{k:Sk}{v:V}{xs:List D}(r:O8 K H v (k.mk xs)):∃a vs,v=.ref a/\P5 K H k a vs/\bM K H vs xs:=by
 cases k with
 | l=>cases r with
  |lst h rs=>exact⟨_,_,rfl,h,rs⟩
 | t=>cases r with
  |tup h rs=>exact⟨_,_,rfl,h,rs⟩
theorem vJ(xs ys:List D):((List.range (min xs.length ys.length)).map λi=>D.tup [xs.getD i .non,ys.getD i .non])=Dn xs ys:=by
 refine List.ext_getElem (by simp[Dn]) λi h1 h2=>?_;have:i<min xs.length ys.length:=by simpa using h1
 simp only[List.getElem_map,List.getElem_range,Dn,List.getElem_zip];rw[SA,SA,so xL,so xL];rfl
section
variable{prog:Program}{w:World}{A:Around}{E:Value->Shared->Prop}{s:Shared}
theorem z8{k m:Sk}{a b:Addr}{xs ys:Array Value}{Q:Value->Shared->Prop}(ha:k.Sq s.heap a xs)(hb:m.Sq s.heap b ys)
  (h:∀h',PX (s.heap.objs.size+4) (s.heap.objs.size+2) (s.heap.objs.size+3) [(k,s.heap.objs.size,a),(m,s.heap.objs.size+1,b)] .none 0 h'->(∀c o,s.heap.get? c=some o->h'.get? c=some o)->Q (.ref (s.heap.objs.size+4)) {s with heap:=h' }) :
  wpAny (model prog w) A (call (.type "zip") [.ref a,.ref b]) Q E s:=by
 refine callType_new F.called_zip x_ (F.typeCall_zip_2 _ _) (F.newCall_zip_2 _ _) (λobj=>F.args_object_init_3 obj _ _) F.entry_zip_new (Eg k m a b xs ys) ⟨ha,hb,?_⟩;have z1:(zA s.heap k a).objs.size=s.heap.objs.size+1:=Heap.size_push ..;have z2:(zA (zA s.heap k a) m b).objs.size=s.heap.objs.size+2:=by rw[Heap.size_push,z1]
 have z3:(PZ s.heap k m a b).objs.size=s.heap.objs.size+3:=by rw[Heap.size_push,z2]
 have z4:(P0 s.heap k m a b).objs.size=s.heap.objs.size+4:=by rw[Heap.size_push,z3]
 have g5:(P1 s.heap k m a b).get? (P0 s.heap k m a b).objs.size=some _:=Heap.get?_push_size _ rfl;have g4:(P1 s.heap k m a b).get? (PZ s.heap k m a b).objs.size=some _:=tu _ (Heap.get?_push_size _ rfl);have g3:(P1 s.heap k m a b).get? (zA (zA s.heap k a) m b).objs.size=some _:=tu _ (tu _ (Heap.get?_push_size _ rfl));have g2:(P1 s.heap k m a b).get? (zA s.heap k a).objs.size=some _:=tu _ (tu _ (tu _ (Heap.get?_push_size _ rfl)));have g1:(P1 s.heap k m a b).get? s.heap.objs.size=some _:=tu _ (tu _ (tu _ (tu _ (Heap.get?_push_size _ rfl))));show _/\_;rw[z2,z3,z4]at g5;rw[z1,z2]at g3;rw[z3]at g4;rw[z1]at g2;rw[z4];refine⟨⟨_,g5,rfl⟩,h _ ⟨g5,g3,⟨_,v6,g4⟩,λp hp=>?_⟩ λc o x=>tu _ (tu _ (tu _ (tu _ (tu _ x))))⟩;simp only[SK,List.not_mem_nil,or_false]at hp;rcases hp with rfl|rfl
 . exact Sk.itAt g1
 . exact Sk.itAt g2
end
def Kx(d:D)(k:Sk->List D->Prop):Prop:=match d with
 |.lst xs=>k .l xs
 |.tup xs=>k .t xs
 |_=>False
theorem BP{d:D}{k:Sk->List D->Prop}(h:Kx d k):∃s xs,d=Sk.mk s xs/\k s xs:=by
 unfold Kx at h;split at h
 . exact⟨.l,_,rfl,h⟩
 . exact⟨.t,_,rfl,h⟩
 . exact h.elim
def Ni(d d2:D)(k:List D->Prop):Prop:=Kx d λ_ xs=>Kx d2 λ_ ys=>k (Dn xs ys)
abbrev LK(h:Heap)(z I O:Addr)(f:Value)(b:Bool):Prop:=h.get? z=some {cls:=.type "zip",dict:=none,data:=.fields #[f,.bool b,.bool false,.ref I,.ref O],slots:=#[] }
theorem vK{M:Model}{A:Around}{E:Value->Shared->Prop}{s:Shared}{α β:Type}(f:α->β->Sem (ForInStep β))(J:List α->β->Shared->Prop)(Q:β->Shared->Prop)
  (turn:∀x cL b s,J (x::cL) b s->wpAny M A (f x b) (λr s'=>match r with | .yield b'=>J cL b' s' | .done b'=>Q b' s') E s) (Ov:∀b s,J [] b s->Q b s) (xs:Array α) (b:β) (h:J xs.toList b s):wpAny M A (forIn xs b f) Q E s:=by
 rw[<- Array.forIn_toList];exact wpAny_forIn_list f J Q turn Ov _ b h
section
variable{prog:Program}{w:World}{A:Around}{E:Value->Shared->Prop}{s:Shared}{z I O:Addr}{js:List Zi}{i:Nat}
theorem Eh{a:Addr}{Q:Option Obj->Shared->Prop}(h:Q (s.heap.get? a) s):wpAny (model prog w) A (loadIfAlive a) Q E s:=λΓ p hΓ=>by show Sem.wp _ Γ (.loadIfAlive a .pure) _ _ p s;rw[Sem.wp_loadIfAlive];exact h
theorem yQ{f:Value}{b:Bool}{Q:Bool->Shared->Prop}(hz:LK s.heap z I O f b)(hf:f=.none∨∃T:Nat,f=rawInt T)(h1:Q true s)(h2:∀h' b',LK h' z I O f b'->Heap.SameBut z s.heap h'->Q false {s with heap:=h' }) :
  wpAny (model prog w) A (Builtin.SmallTypes.ownedTupleIsFree (.ref z)) Q E s:=by
 unfold Builtin.SmallTypes.ownedTupleIsFree;refine kS (wpAny_field hz rfl (x:=f) rfl ?_);rcases hf with rfl|⟨T,rfl⟩
 . exact SG h1
 .
  show wpAny _ _ (loadIfAlive (T:Int).toNat >>= _) _ _ s;refine kS (Eh ?_)
  cases hT:s.heap.get? (T:Int).toNat with
  |none=>exact SG h1
  | some o =>
   show wpAny _ _ (field (.ref z) 1 >>= _) _ _ s;refine kS (wpAny_field hz rfl (x:=.bool b) rfl ?_)
   cases b with
   |true=>exact SG (h2 s.heap true hz ⟨rfl,λ_ _=>rfl⟩)
   | false =>
    show wpAny _ _ (setField (.ref z) 1 (.bool true) >>= _) _ _ s;exact kS (wpAny_setField_rec hz v6 λh' hz' hs'=>SG (h2 h' true hz' hs'))
structure P6 (zo:Obj) (z O:Addr) (js:List Zi) (xs:List Value) (i j:Nat) (h₀ h:Heap):Prop where
 hz:h.get? z=some zo
 hO:∃os,os.length=js.length/\eZ h O os/\os.take j=xs.take j
 ahead:∀m p,m<j->js[m]?=some p->p.1.At h p.2.1 p.2.2 (i+1)
 behind:∀m p,j<=m->js[m]?=some p->p.1.At h p.2.1 p.2.2 i
 keep:BN z O js h₀ h
 sz:h.objs.size=h₀.objs.size
theorem P6.next(D:ZA z I O js){zo:Obj}{xs os:List Value}{j:Nat}{p:Zi}{x:Value}{h₀ h h1:Heap}(hj:js[j]?=some p)(hx:xs[j]?=some x)(M:P6 zo z O js xs i j h₀ h)(a1:p.1.At h1 p.2.1 p.2.2 (i+1))(s1:Heap.SameBut p.2.1 h h1)
  (ol:os.length=js.length) (ho1:eZ h1 O os) (ht:os.take j=xs.take j):P6 zo z O js xs i (j+1) h₀ (h1.update O (Obj.mapSeq (·.setIfInBounds j x))):=by
 have pm:p∈js:=List.mem_of_getElem? hj;have jl:j<js.length:=(SB.mp hj).1;have s2:Heap.SameBut O h1 (h1.update O (Obj.mapSeq (·.setIfInBounds j x))):=Heap.SameBut.update ..;have ho2:eZ (h1.update O (Obj.mapSeq (·.setIfInBounds j x))) O (os.set j x):=by show Heap.get? _ _=_;rw[Heap.get?_update_self _ ho1 rfl];simp[Obj.mapSeq]
 have k2:∀c o,c≠O->c≠p.2.1->h.get? c=some o->(h1.update O (Obj.mapSeq (·.setIfInBounds j x))).get? c=some o:=λc o n1 n2 e=>s2.extBut _ _ n1 (s1.extBut _ _ n2 e);refine⟨k2 _ _ D.zO (Ne.symm (D.zj pm).1) M.hz,⟨os.set j x,by simp[ol],ho2,?_⟩,λm q hm hq=>?_,λm q hm hq=>?_,λc o hc e=>?_,by rw[s2.1,s1.1];exact M.sz⟩
 . have hxl:j<xs.length:=(SB.mp hx).1;rw[List.take_succ,List.take_succ,List.getElem?_set_self xL,hx,List.take_set_of_le (SN _),ht]
 .
  have qm:q∈js:=List.mem_of_getElem? hq;rcases Nat.lt_or_ge m j with h|h
  .
   have ne:q.2.1≠p.2.1:=λe=>by have:=D.inj hq hj e;omega
   exact(M.ahead m q h hq).to λo e=>k2 _ o (D.zj qm).2 ne e
  .
   have:m=j:=by omega
   subst this;rw[hj]at hq;cases hq;exact a1.to λo e=>s2.extBut _ _ (D.zj pm).2 e
 .
  have qm:q∈js:=List.mem_of_getElem? hq;have ne:q.2.1≠p.2.1:=λe=>by have:=D.inj hq hj e;omega
  exact(M.behind m q xL hq).to λo e=>k2 _ o (D.zj qm).2 ne e
 . have n:=hc;simp only[SK,not_or]at n;exact k2 c o n.2.1 (λq=>n.2.2 (q ▸ jd pm)) (M.keep c o hc e)
structure P7 (z I O:Addr) (js:List Zi) (i:Nat) (h:Heap):Prop where
 hz:∃f b,(f=.none∨∃T:Nat,f=rawInt T)/\LK h z I O f b
 hI:eZ h I ((Zi.ofs js).map .ref)
 hO:∃os,os.length=js.length/\eZ h O os
 at':∀p∈js,p.1.At h p.2.1 p.2.2 i
structure P8 (zo:Obj) (z O:Addr) (js:List Zi) (i j:Nat) (h₀ h:Heap):Prop where
 hz:h.get? z=some zo
 hO:∃os,os.length=js.length/\eZ h O os
 ahead:∀m p,m<j->js[m]?=some p->p.1.At h p.2.1 p.2.2 (i+1)
 behind:∀m p,j<=m->js[m]?=some p->p.1.At h p.2.1 p.2.2 i
 keep:BN z O js h₀ h
 sz:h.objs.size=h₀.objs.size
theorem P8.next(D:ZA z I O js){zo:Obj}{j:Nat}{p:Zi}{h₀ h h1:Heap}(hj:js[j]?=some p)(M:P8 zo z O js i j h₀ h)(a1:p.1.At h1 p.2.1 p.2.2 (i+1))(s1:Heap.SameBut p.2.1 h h1):P8 zo z O js i (j+1) h₀ h1:=by
 have pm:p∈js:=List.mem_of_getElem? hj;obtain⟨os,ol,ho⟩:=M.hO;have k2:∀c o,c≠p.2.1->h.get? c=some o->h1.get? c=some o:=λc o n e=>s1.extBut _ _ n e;refine⟨k2 _ _ (Ne.symm (D.zj pm).1) M.hz,⟨os,ol,k2 _ _ (Ne.symm (D.zj pm).2) ho⟩,λm q hm hq=>?_,λm q hm hq=>?_,λc o hc e=>?_,by rw[s1.1];exact M.sz⟩
 .
  rcases Nat.lt_or_ge m j with h|h
  .
   have ne:q.2.1≠p.2.1:=λe=>by have:=D.inj hq hj e;omega
   exact(M.ahead m q h hq).to λo e=>k2 _ o ne e
  .
   have:m=j:=by omega
   subst this;rw[hj]at hq;cases hq;exact a1
 .
  have ne:q.2.1≠p.2.1:=λe=>by have:=D.inj hq hj e;omega
  exact(M.behind m q xL hq).to λo e=>k2 _ o ne e
 . have n:=hc;simp only[SK,not_or]at n;exact k2 c o (λq=>n.2.2 (q ▸ jd pm)) (M.keep c o hc e)
theorem Gc{x:Value×Nat}{cL:List (Value×Nat)}{j:Nat}(er:((Zi.ofs js).map Value.ref).zipIdx.drop j=x::cL):∃p,js[j]?=some p/\x=(.ref p.2.1,j)/\((Zi.ofs js).map Value.ref).zipIdx.drop (j+1)=cL:=by obtain⟨e1,e2,e3⟩:=BO er;rw[List.getElem?_map]at e2;obtain⟨y,e4,e5⟩:=Option.map_eq_some_iff.mp e2;unfold Zi.ofs at e4;rw[List.getElem?_map]at e4;obtain⟨p,hp,e6⟩:=Option.map_eq_some_iff.mp e4;exact⟨p,hp,Prod.ext (by rw[<- e5,<- e6]) e1,e3⟩
noncomputable abbrev LM(I O:Addr)(b:Bool):Obj:={cls:=.type "zip",dict:=none,data:=.fields #[.ellipsis,.bool b,.bool false,.ref I,.ref O],slots:=#[] }
noncomputable abbrev LN(I O:Addr)(f:Value)(b:Bool):Obj:={cls:=.type "zip",dict:=none,data:=.fields #[f,.bool b,.bool false,.ref I,.ref O],slots:=#[] }
theorem BQ{x:Value}{cL:List Value}{j:Nat}(er:((Zi.ofs js).map Value.ref).drop j=x::cL):∃p,js[j]?=some p/\x=.ref p.2.1/\((Zi.ofs js).map Value.ref).drop (j+1)=cL:=by
 have h0:(((Zi.ofs js).map Value.ref).drop j)[0]?=some x:=by rw[er];rfl
 rw[List.getElem?_drop,Nat.add_zero,List.getElem?_map]at h0;obtain⟨y,e4,e5⟩:=Option.map_eq_some_iff.mp h0;unfold Zi.ofs at e4;rw[List.getElem?_map]at e4;obtain⟨p,hp,e6⟩:=Option.map_eq_some_iff.mp e4;exact⟨p,hp,by rw[<- e5,<- e6],by rw[<- List.drop_drop,er];rfl⟩
theorem P8.put(D:ZA z I O js){zo:Obj}{j k:Nat}{x:Value}{os:List Value}{h₀ h:Heap}(M:P8 zo z O js i j h₀ h)(hk:k<js.length)(ho:eZ h O os)(ol:os.length=js.length):P8 zo z O js i j h₀ (h.update O (Obj.mapSeq (·.setIfInBounds k x))):=by have s2:Heap.SameBut O h (h.update O (Obj.mapSeq (·.setIfInBounds k x))):=Heap.SameBut.update ..;refine⟨s2.extBut _ _ D.zO M.hz,⟨os.set k x,by simp[ol],?_⟩,λm p hm hp=>(M.ahead m p hm hp).to λo e=>s2.extBut _ _ (D.zj (List.mem_of_getElem? hp)).2 e,λm p hm hp=>(M.behind m p hm hp).to λo e=>s2.extBut _ _ (D.zj (List.mem_of_getElem? hp)).2 e,λc o hc e=>s2.extBut _ _ (λq=>hc (by simp[q])) (M.keep c o hc e),by rw[s2.1];exact M.sz⟩;show Heap.get? _ _=_;rw[Heap.get?_update_self _ ho rfl];simp[Obj.mapSeq]
theorem Ky(h1:js≠[]):((Zi.ofs js).map Value.ref).toArray.isEmpty=false:=by
 cases js with
 |nil=>exact absurd rfl h1
 |cons p r=>rfl
theorem Hy(D:ZA z I O js)(st:P7 z I O js i s.heap){xs:List Value}(hl:xs.length=js.length)(h1:js≠[])(h8:js.length<=8)(hv:∀(j:Nat) (p:Zi) (x:Value),js[j]?=some p->xs[j]?=some x->∃ys,p.1.Sq s.heap p.2.2 ys/\ys[i]?=some x){Q:Value->Shared->Prop}
  (hQ:∀h',P7 z I O js (i+1) h'->eZ h' s.heap.objs.size xs->BN z O js s.heap h'->Q (.ref s.heap.objs.size) {s with heap:=h' }) :
  wpAny (model prog w) A (Builtin.«zip.__next__» ⟨[.ref z],[]⟩) (λr s'=>∃v,r=.done (.ret v)/\Q v s') E s:=by
 obtain⟨⟨f,b,hf,hz⟩,hI,⟨os,ol,hO⟩,at'⟩:=st;have Iz:=D.Iz;simp only[SK,not_or]at Iz;show wpAny _ _ (field (.ref z) 2 >>= _) _ _ s;refine kS (wpAny_field hz rfl (x:=.bool false) rfl ?_);show wpAny _ _ (field (.ref z) 3 >>= _) _ _ s;refine kS (wpAny_field hz rfl (x:=.ref I) rfl ?_);refine kS (wpAny_seqItems hI rfl ?_)
 show wpAny _ _ (if(_:Array Value).isEmpty=true then _ else _) _ _ s
 rw[if_neg (by rw[Ky h1];exact Bool.false_ne_true)];show wpAny _ _ (Builtin.SmallTypes.ownedTupleIsFree (.ref z) >>= _) _ _ s;refine kS (yQ hz hf ?_ λh₁ b' hz₁ hs₁=>?_)
 .
  simp only[if_true];refine kS (wpAny_rule (kS (wpAny_field hz rfl (x:=.ref O) rfl ?_)));refine kS (wpAny_setField_rec hz v6 λh₁ hz₁ hs₁=>?_);have M0:P6 (LM I O b) z O js xs i 0 s.heap h₁:=by refine⟨hz₁,⟨os,ol,hs₁.extBut _ _ (Ne.symm D.zO) hO,v6⟩,λm p hm=>by omega,λm p _ hp=>(at' p (List.mem_of_getElem? hp)).to λo e=>hs₁.extBut _ _ (D.zj (List.mem_of_getElem? hp)).1 e,λc o hc e=>?_,hs₁.1⟩;exact hs₁.extBut _ _ (λq=>hc (by simp[q])) e
  refine kS (wpAny_forIn_list _ (λcL bb s1=>∃j,((Zi.ofs js).map Value.ref).zipIdx.drop j=cL/\bb=(none,())/\j<=js.length/\P6 (LM I O b) z O js xs i j s.heap s1.heap/\s1={s with heap:=s1.heap}) _ ?_ ?_ _ _ ⟨0,rfl,rfl,Nat.zero_le _,M0,rfl⟩)
  .
   rintro x cL bb s1 ⟨j,er,rfl,hjl,M,es⟩;obtain⟨p,hp,rfl,e3⟩:=Gc er;have jl:j<js.length:=(SB.mp hp).1;obtain⟨ys,sq,hy⟩:=hv j p xs[j] hp (so xL);have pm:p∈js:=List.mem_of_getElem? hp;refine kS (wpAny_onRaise ?_);show wpAny _ _ (Builtin.SmallTypes.nextOf (.ref p.2.1) >>= _) _ _ s1;refine kS (Sk.draw (M.behind j p (SN _) hp) (sq.to λo e=>M.keep _ o (D.src p pm) e) hy λh1 a1 k1=>SG ?_);obtain⟨os1,ol1,ho,ht⟩:=M.hO;have ho1:eZ h1 O os1:=k1.extBut _ _ (Ne.symm (D.zj pm).2) ho;refine kS (wpAny_seqItems ho1 rfl ?_);refine kS (wpAny_updateSeq ho1 rfl ?_ (by simp;exact PY xL) (by simp;exact SJ (PY xL) (Nat.le_succ _)));refine kS (wpAny_letGo (SG ?_))
   exact⟨j+1,e3,rfl,jl,M.next D hp (so xL) a1 k1 ol1 ho1 ht,by rw[es]⟩
  .
   rintro bb s1 ⟨j,er,rfl,hjl,M,es⟩;have jn:j=js.length:=by have:=congrArg List.length er;simp[Zi.ofs]at this;omega
   subst jn;obtain⟨os1,ol1,ho,ht⟩:=M.hO;have eo:os1=xs:=by rw[List.take_of_length_le xL,List.take_of_length_le xL]at ht;exact ht
   subst eo;refine kS (wpAny_seqItems ho rfl ?_);refine kS (wpAny_newTuple ?_ (by simp;exact PY xL));have hz1:=tu {cls:=.type "tuple",data:=.seq os1.toArray} M.hz;show wpAny _ _ (Builtin.SmallTypes.ownedTupleHandOut (.ref z) (.ref s1.heap.objs.size) >>= _) _ _ {s1 with heap:=_};refine kS ?_;unfold Builtin.SmallTypes.ownedTupleHandOut;refine kS (wpAny_setField_rec hz1 v6 λh2 hz2 k2=>?_);refine wpAny_setField_rec hz2 v6 λh3 hz3 k3=>?_;replace hz3:LK h3 z I O (rawInt s1.heap.objs.size) false:=hz3;have up:∀c o,c≠z->s1.heap.get? c=some o->h3.get? c=some o:=λc o n e=>k3.extBut _ _ n (k2.extBut _ _ n (tu _ e));have zl:z<s1.heap.objs.size:=SI M.hz;have T:eZ h3 s1.heap.objs.size os1:=k3.extBut _ _ (Nat.ne_of_gt zl) (k2.extBut _ _ (Nat.ne_of_gt zl) (Heap.get?_push_size _ rfl));have es1:=M.sz;rw[es1]at hz3 T;refine SG ⟨_,rfl,?_⟩;show Q (.ref s1.heap.objs.size) _;rw[es1,es];refine hQ h3 ⟨⟨_,_,.inr ⟨_,rfl⟩,hz3⟩,up _ _ Iz.1 (M.keep _ _ D.Iz hI),⟨os1,ol1,up _ _ (Ne.symm D.zO) ho⟩,λp hp=>?_⟩ T λc o hc e=>up c o (λq=>hc (by simp[q])) (M.keep c o hc e);obtain⟨m,hm,e⟩:=List.mem_iff_getElem.mp hp;exact(M.ahead m p hm (by rw[so hm,e])).to λo q=>up _ o (D.zj hp).1 q
 .
  simp only[Bool.false_eq_true,if_false];have M0:P8 (LN I O f b') z O js i 0 s.heap h₁:=by refine⟨hz₁,⟨os,ol,hs₁.extBut _ _ (Ne.symm D.zO) hO⟩,λm p hm=>by omega,λm p _ hp=>(at' p (List.mem_of_getElem? hp)).to λo e=>hs₁.extBut _ _ (D.zj (List.mem_of_getElem? hp)).1 e,λc o hc e=>?_,hs₁.1⟩;exact hs₁.extBut _ _ (λq=>hc (by simp[q])) e
  refine kS (vK _ (λcL bb s1=>∃j,((Zi.ofs js).map Value.ref).drop j=cL/\bb=(none,(xs.take j).toArray)/\j<=js.length/\P8 (LN I O f b') z O js i j s.heap s1.heap/\s1={s with heap:=s1.heap}) _ ?_ ?_ _ _ ⟨0,v6,v6,Nat.zero_le _,M0,rfl⟩)
  .
   rintro x cL bb s1 ⟨j,er,rfl,hjl,M,es⟩;obtain⟨p,hp,rfl,e3⟩:=BQ er;have jl:j<js.length:=(SB.mp hp).1;obtain⟨ys,sq,hy⟩:=hv j p xs[j] hp (so xL);have pm:p∈js:=List.mem_of_getElem? hp;refine kS (wpAny_holding ?_);show wpAny _ _ (Builtin.SmallTypes.nextOf (.ref p.2.1) >>= _) _ _ s1;refine kS (Sk.draw (M.behind j p (SN _) hp) (sq.to λo e=>M.keep _ o (D.src p pm) e) hy λh1 a1 k1=>SG ?_)
   refine SG ⟨j+1,e3,?_,jl,M.next D hp a1 k1,by rw[es]⟩
   rw[List.take_succ,so xL];simp
  .
   rintro bb s1 ⟨j,er,rfl,hjl,M,es⟩;have jn:j=js.length:=by have:=congrArg List.length er;simp[Zi.ofs]at this;omega
   subst jn;rw[List.take_of_length_le xL];obtain⟨os1,ol1,ho⟩:=M.hO;refine kS (wpAny_newTuple ?_ (by simp;exact PY xL));have es1:=M.sz;refine SG ⟨_,rfl,?_⟩;show Q (.ref s1.heap.objs.size) _;have up:∀ c o,s1.heap.get? c=some o->(s1.heap.push {cls:=.type "tuple",data:=.seq xs.toArray}).get? c=some o:=λc o e=>tu _ e;have T:eZ (s1.heap.push {cls:=.type "tuple",data:=.seq xs.toArray}) s1.heap.objs.size xs:=Heap.get?_push_size _ rfl;rw[es1]at T;rw[es1,es];refine hQ _ ⟨⟨_,_,hf,up _ _ M.hz⟩,up _ _ (M.keep _ _ D.Iz hI),⟨os1,ol1,up _ _ ho⟩,λp hp=>?_⟩ T λc o hc e=>up c o (M.keep c o hc e);obtain⟨m,hm,e⟩:=List.mem_iff_getElem.mp hp;exact(M.ahead m p hm (by rw[so hm,e])).to λo q=>up _ o q
theorem Hz(D:ZA z I O js)(st:P7 z I O js i s.heap)(h0:A.handled=none)(h1:js≠[])(h8:js.length<=8)(Y:Zi->Array Value)(hv:∀p∈js,p.1.Sq s.heap p.2.2 (Y p))(he:∃p∈js,(Y p)[i]?=none){Q:Fin->Shared->Prop}
  (hE:∀ h' e,BN z O js s.heap h'->(∃ o,h'.get? e=some o/\o.cls=.type "StopIteration")->E (.ref e) {s with heap:=h' }) :
  wpAny (model prog w) A (Builtin.«zip.__next__» ⟨[.ref z],[]⟩) Q E s:=by
 obtain⟨⟨f,b,hf,hz⟩,hI,⟨os,ol,hO⟩,at'⟩:=st;obtain⟨p0,hp0,hn0⟩:=he;obtain⟨m0,hm0,em0⟩:=List.mem_iff_getElem.mp hp0;show wpAny _ _ (field (.ref z) 2 >>= _) _ _ s;refine kS (wpAny_field hz rfl (x:=.bool false) rfl ?_);show wpAny _ _ (field (.ref z) 3 >>= _) _ _ s;refine kS (wpAny_field hz rfl (x:=.ref I) rfl ?_);refine kS (wpAny_seqItems hI rfl ?_)
 show wpAny _ _ (if(_:Array Value).isEmpty=true then _ else _) _ _ s
 rw[if_neg (by rw[Ky h1];exact Bool.false_ne_true)];show wpAny _ _ (Builtin.SmallTypes.ownedTupleIsFree (.ref z) >>= _) _ _ s;refine kS (yQ hz hf ?_ λh₁ b' hz₁ hs₁=>?_)
 .
  simp only[if_true];refine kS (wpAny_rule (kS (wpAny_field hz rfl (x:=.ref O) rfl ?_)));refine kS (wpAny_setField_rec hz v6 λh₁ hz₁ hs₁=>?_);have M0:P8 (LM I O b) z O js i 0 s.heap h₁:=by refine⟨hz₁,⟨os,ol,hs₁.extBut _ _ (Ne.symm D.zO) hO⟩,λm p hm=>by omega,λm p _ hp=>(at' p (List.mem_of_getElem? hp)).to λo e=>hs₁.extBut _ _ (D.zj (List.mem_of_getElem? hp)).1 e,λc o hc e=>?_,hs₁.1⟩;exact hs₁.extBut _ _ (λq=>hc (by simp[q])) e
  refine kS (wpAny_forIn_list _ (λcL bb s1=>∃j,((Zi.ofs js).map Value.ref).zipIdx.drop j=cL/\bb=(none,())/\j<=js.length/\P8 (LM I O b) z O js i j s.heap s1.heap/\s1={s with heap:=s1.heap}/\j<=m0) _ ?_ ?_ _ _ ⟨0,rfl,rfl,Nat.zero_le _,M0,rfl,Nat.zero_le _⟩)
  .
   rintro x cL bb s1 ⟨j,er,rfl,hjl,M,es,hj0⟩;obtain⟨p,hp,rfl,e3⟩:=Gc er;have jl:j<js.length:=(SB.mp hp).1;have pm:p∈js:=List.mem_of_getElem? hp;have sq:=hv p pm;refine kS (wpAny_onRaise ?_);show wpAny _ _ (Builtin.SmallTypes.nextOf (.ref p.2.1) >>= _) _ _ s1
   cases hy:(Y p)[i]? with
   | none =>
    refine kS (Sk.drawE h0 (M.behind j p (SN _) hp) (sq.to λo e=>M.keep _ o (D.src p pm) e) hy λh1 e k1 ho=>?_);obtain⟨oe,he,ce⟩:=ho;have hz2:=k1 _ _ (Ne.symm (D.zj pm).1) M.hz;have ne:e≠z:=λx=>by subst x;rw[hz2]at he;cases he;simp at ce
    refine wpAny_setField_rec hz2 v6 λh3 _ k3=>?_;rw[es];refine hE h3 e (λc o hc q=>?_) ⟨oe,k3.extBut _ _ ne he,ce⟩;have hc':=hc;simp only[SK,not_or]at hc';exact k3.extBut _ _ hc'.1 (k1 _ _ (λq=>hc'.2.2 (q ▸ jd pm)) (M.keep c o hc q))
   |some v =>
   have nj:j≠m0:=λq=>by subst q;rw[so jl,em0]at hp;cases hp;rw[hn0]at hy;cases hy
   refine kS (Sk.draw (M.behind j p (SN _) hp) (sq.to λo e=>M.keep _ o (D.src p pm) e) hy λh1 a1 k1=>SG ?_)
   have M1:=M.next D hp a1 k1
   obtain⟨os1,ol1,ho1⟩:=M1.hO;refine kS (wpAny_seqItems ho1 rfl ?_);refine kS (wpAny_updateSeq ho1 rfl ?_ (by simp;exact PY xL) (by simp;exact SJ (PY xL) (Nat.le_succ _)));refine kS (wpAny_letGo (SG ?_));refine⟨j+1,e3,rfl,jl,M1.put D (SB.mp hp).1 ho1 ol1,by rw[es],xL⟩
  .
   rintro bb s1 ⟨j,er,rfl,hjl,M,es,hj0⟩;have jn:j=js.length:=by have:=congrArg List.length er;simp[Zi.ofs]at this;omega
   omega
 .
  simp only[Bool.false_eq_true,if_false];have M0:P8 (LN I O f b') z O js i 0 s.heap h₁:=by refine⟨hz₁,⟨os,ol,hs₁.extBut _ _ (Ne.symm D.zO) hO⟩,λm p hm=>by omega,λm p _ hp=>(at' p (List.mem_of_getElem? hp)).to λo e=>hs₁.extBut _ _ (D.zj (List.mem_of_getElem? hp)).1 e,λc o hc e=>?_,hs₁.1⟩;exact hs₁.extBut _ _ (λq=>hc (by simp[q])) e
  refine kS (vK _ (λcL bb s1=>∃j,((Zi.ofs js).map Value.ref).drop j=cL/\bb.1=none/\j<=js.length/\P8 (LN I O f b') z O js i j s.heap s1.heap/\s1={s with heap:=s1.heap}/\j<=m0) _ ?_ ?_ _ _ ⟨0,v6,rfl,Nat.zero_le _,M0,rfl,Nat.zero_le _⟩)
  .
   rintro x cL bb s1 ⟨j,er,hbb,hjl,M,es,hj0⟩;obtain⟨p,hp,rfl,e3⟩:=BQ er;have jl:j<js.length:=(SB.mp hp).1;have pm:p∈js:=List.mem_of_getElem? hp;have sq:=hv p pm;refine kS (wpAny_holding ?_);show wpAny _ _ (Builtin.SmallTypes.nextOf (.ref p.2.1) >>= _) _ _ s1
   cases hy:(Y p)[i]? with
   | none =>
    refine kS (Sk.drawE h0 (M.behind j p (SN _) hp) (sq.to λo e=>M.keep _ o (D.src p pm) e) hy λh1 e k1 ho=>?_);rw[es];refine hE h1 e (λc o hc q=>?_) ho;have hc':=hc;simp only[SK,not_or]at hc';exact k1 _ _ (λq=>hc'.2.2 (q ▸ jd pm)) (M.keep c o hc q)
   |some v =>
   have nj:j≠m0:=λq=>by subst q;rw[so jl,em0]at hp;cases hp;rw[hn0]at hy;cases hy
   refine kS (Sk.draw (M.behind j p (SN _) hp) (sq.to λo e=>M.keep _ o (D.src p pm) e) hy λh1 a1 k1=>SG ?_)
   exact SG ⟨j+1,e3,rfl,jl,M.next D hp a1 k1,by rw[es],xL⟩
  .
   rintro bb s1 ⟨j,er,hbb,hjl,M,es,hj0⟩;have jn:j=js.length:=by have:=congrArg List.length er;simp[Zi.ofs]at this;omega
   omega
end
theorem z9:typeLookup (.type "zip") "__len__"=pure none:=by rw[typeLookup_type,builtinLookup_eq_fast]; kernel_rfl
theorem xk:typeLookup (.type "zip") "__length_hint__"=pure none:=by rw[typeLookup_type,builtinLookup_eq_fast]; kernel_rfl
section
variable{prog:Program}{w:World}{A:Around}{s:Shared}{R:Result->Shared->Prop}{z I O S:Addr}{js:List Zi}
structure LZ (z I O S:Addr) (js:List Zi) (Y:Zi->Array Value) (row:Nat->List Value) (i:Nat) (acc:Array Value) (h:Heap):Prop where
 st:P7 z I O js i h
 src:∀p∈js,p.1.Sq h p.2.2 (Y p)
 lst:∃ c,h.get? S=some {cls:=.type "list",dict:=none,data:=.seq acc c,slots:=#[] }
 size:acc.size=i
 its:∀m,m<i->∃T,acc[m]?=some (.ref T)/\eZ h T (row m)/\T∉z::O::Zi.ofs js/\S<T
theorem Ei{h:Heap}(st:P7 z I O js i h):h.objs.size∉z::O::Zi.ofs js:=λhm=>by
 obtain⟨f,b,_,hz⟩:=st.hz;obtain⟨os,_,hO⟩:=st.hO;rcases SK.mp hm with e|hm
 . exact absurd (SI hz) (by rw[<- e];exact Nat.lt_irrefl _)
 rcases SK.mp hm with e|hm
 . exact absurd (SI hO) (by rw[<- e];exact Nat.lt_irrefl _)
 . obtain⟨p,hp,e⟩:=List.mem_map.mp hm;obtain⟨o,eo,_⟩:=(st.at' p hp).obj;exact absurd (SI eo) (by rw[e];exact Nat.lt_irrefl _)
theorem HD(D:ZA z I O js)(hS:S∉z::I::O::Zi.ofs js)(hSs:∀p∈js,p.2.2≠S)(h0:A.handled=none)(h1:js≠[])(h8:js.length<=8)(Y:Zi->Array Value)(row:Nat->List Value){n:Nat}(hn:n<=sizeLine)(hr:∀m,m<n->(row m).length=js.length/\∀(j:Nat) (p:Zi) (x:Value),js[j]?=some p->(row m)[j]?=some x->(Y p)[m]?=some x)
  (he:∃p∈js,(Y p)[n]?=none) (res:Value):∀(k i:Nat)(s:Shared)(acc:Array Value),n-i=k->i<=n->LZ z I O S js Y row i acc s.heap ->
  (∀ h' acc',LZ z I O S js Y row n acc' h'∨True->(∃ c,h'.get? S=some {cls:=.type "list",dict:=none,data:=.seq acc' c,slots:=#[] })->acc'.size=n->(∀ m,m < n->∃ T,acc'[m]?=some (.ref T)/\eZ h' T (row m)/\S < T)->(∀ c o,c∉S::z::O::Zi.ofs js->s.heap.get? c=some o->h'.get? c=some o)->R (.ok (.ret res)) {s with heap:=h' }) ->
  codeAny (model prog w) A (.builtin "list.extend.loop" ⟨[.ref S,.ref z,res],[]⟩) R s:=by
 have nS:S∉z::O::Zi.ofs js:=λq=>hS (by
  rcases SK.mp q with e|q
  . rw[e];exact SE
  .
   exact SC _ (SC _ q))
 intro k
 induction k with
 | zero =>
  intro i s acc hk hi L hR;have:i=n:=by omega
  subst this;refine codeAny_builtin F.entry_extend_loop ?_;rw[Around.under_plainId F.plain_extend_loop _];show wpAny _ A.in1 (pyNext (.ref z) >>= _) _ _ s;obtain⟨f,b,hf,hz⟩:=L.st.hz;have ty:s.TypeIs (.ref z) "zip":=⟨_,hz,rfl⟩;refine kS ?_;unfold pyNext;refine kS (wpAny_attempt (wpAny_callSpecial?_slot (name:=Str.ofString "__next__") ty F.slot_zip_next (wpAny_call_entry F.slot_zip_next ty F.entry_zip_next (Hz (A:=A.in1.in1) D L.st h0 h1 h8 Y L.src he λh' e k he=>?_) (F.args_zip_next_1 _))));obtain⟨o,ho,hc⟩:=he;refine kS (wpAny_isInstance (T:="StopIteration") (b:=true) ⟨o,ho,hc⟩ isSubtype_stop (SG (SG ?_)));obtain⟨c,hc⟩:=L.lst;refine hR h' acc (.inr trivial) ⟨c,k _ _ nS hc⟩ L.size (λm hm=>?_) λc o hc e=>k c o (λq=>hc (SC _ q)) e;obtain⟨T,t1,t2,t3,t4⟩:=L.its m hm;exact⟨T,t1,k _ _ t3 t2,t4⟩
 | succ k ih =>
  intro i s acc hk hi L hR;have lt:i<n:=by omega
  obtain⟨rl,rv⟩:=hr i lt;refine codeAny_builtin F.entry_extend_loop ?_;rw[Around.under_plainId F.plain_extend_loop _];show wpAny _ A.in1 (pyNext (.ref z) >>= _) _ _ s;obtain⟨f,b,hf,hz⟩:=L.st.hz;have ty:s.TypeIs (.ref z) "zip":=⟨_,hz,rfl⟩;refine kS ?_;unfold pyNext;refine kS (wpAny_attempt (wpAny_callSpecial?_slot (name:=Str.ofString "__next__") ty F.slot_zip_next (wpAny_call_entry F.slot_zip_next ty F.entry_zip_next (Hy D L.st rl h1 h8 (λj p x hp hx=>⟨Y p,L.src p (List.mem_of_getElem? hp),rv j p x hp hx⟩) λh' st' hT hk'=>SG ?_) (F.args_zip_next_1 _))));obtain⟨c,hc⟩:=L.lst;have hc':=hk' _ _ nS hc;have sl:S<s.heap.objs.size:=SI hc;show wpAny _ A.in1 (updateSeq S (·.push (.ref s.heap.objs.size)) >>= _) _ _ {s with heap:=h' };refine kS (wpAny_updateSeq hc' rfl (SG ⟨plainId_quiet F.plain_extend_loop _,ih (i+1) _ (acc.push (.ref s.heap.objs.size)) xL lt ?_ λh'' acc' hz'' q1 q2 q3 q4=>?_⟩) (by rw[L.size];omega) (by show(acc.push _).size<=sizeLine+1;rw[Array.size_push,L.size];omega))
  .
   have s2:Heap.SameBut S h' (h'.update S (Obj.mapSeq (·.push (.ref s.heap.objs.size)))):=Heap.SameBut.update ..;have up:∀c o,c≠S->h'.get? c=some o->(h'.update S (Obj.mapSeq (·.push (.ref s.heap.objs.size)))).get? c=some o:=λc o n e=>s2.extBut _ _ n e;have hS':=hS;simp only[SK,not_or]at hS';obtain⟨⟨f',b',hf',hz'⟩,hI',⟨os,ol,hO'⟩,at'⟩:=st';refine⟨⟨⟨f',b',hf',up _ _ (Ne.symm hS'.1) hz'⟩,up _ _ (Ne.symm hS'.2.1) hI',⟨os,ol,up _ _ (Ne.symm hS'.2.2.1) hO'⟩,λp hp=>(at' p hp).to λo e=>up _ o (λq=>hS'.2.2.2 (q ▸ jd hp)) e⟩,λp hp=>?_,⟨_,Heap.get?_update_self _ hc' rfl⟩,by rw[Array.size_push,L.size],λm hm=>?_⟩
   . exact((L.src p hp).to λo e=>hk' _ _ (D.src p hp) e).to λo e=>up _ o (hSs p hp) e
   .
    rcases Nat.lt_or_ge m i with g|g
    . obtain⟨T,t1,t2,t3,t4⟩:=L.its m g;refine⟨T,?_,up _ _ (Nat.ne_of_gt t4) (hk' _ _ t3 t2),t3,t4⟩;rw[Array.getElem?_push_lt (by rw[L.size];exact g),<- Array.getElem?_eq_getElem];exact t1
    .
     have:m=i:=by omega
     subst this;refine⟨s.heap.objs.size,?_,up _ _ (Nat.ne_of_gt sl) hT,Ei L.st,sl⟩;rw[<- L.size,Array.getElem?_push_size]
  . refine hR h'' acc' hz'' q1 q2 q3 λc o hcc e=>q4 c o hcc ?_;have hcc':=hcc;simp only[SK,not_or]at hcc';show(h'.update S _).get? c=some o;exact(Heap.get?_update_other _ _ (λh:S=c=>hcc'.1 h.symm)).trans (hk' c o (by simp only[SK,not_or];exact hcc'.2) e)
theorem BR(D:ZA z I O js)(hS:S∉z::I::O::Zi.ofs js)(hSs:∀p∈js,p.2.2≠S)(h0:A.handled=none)(h1:js≠[])(h8:js.length<=8)(Y:Zi->Array Value)(row:Nat->List Value){n c0:Nat}(hn:n<=sizeLine)(hr:∀m,m<n->(row m).length=js.length/\∀(j:Nat) (p:Zi) (x:Value),js[j]?=some p->(row m)[j]?=some x->(Y p)[m]?=some x)
  (he:∃ p∈js,(Y p)[n]?=none) (res:Value) (st:P7 z I O js 0 s.heap) (src:∀ p∈js,p.1.Sq s.heap p.2.2 (Y p)) (hl:s.heap.get? S=some {cls:=.type "list",data:=.seq #[] c0})
  (hR:∀ h' acc',(∃ c,h'.get? S=some {cls:=.type "list",dict:=none,data:=.seq acc' c,slots:=#[] })->acc'.size=n->(∀ m,m < n->∃ T,acc'[m]?=some (.ref T)/\eZ h' T (row m)/\S < T)->(∀ c o,c∉S::z::O::Zi.ofs js->s.heap.get? c=some o->h'.get? c=some o)->R (.ok (.ret res)) {s with heap:=h' }) :
  wpAny (model prog w) A.in1 (Builtin.List.listExtendWith (.ref S) (.ref z) res) (λOv s'=>match Ov with | .done f=>R (.ok f) s' | .again c'=>c'.quiet=true/\codeAny (model prog w) A c' R s') (λe s'=>R (.error e) s') s:=by
 obtain⟨f,b,hf,hz⟩:=id st.hz;have ty:s.TypeIs (.ref z) "zip":=⟨_,hz,rfl⟩;have hS':=hS;simp only[SK,not_or]at hS';unfold Builtin.List.listExtendWith;refine kS (wpAny_typeOf ty ?_);have e1:Builtin.List.listSameRef (.ref S) (.ref z)=false:=by simp[Builtin.List.listSameRef,hS'.1]
 have e2:(Value.type "zip" == Value.type "list")=false:=by decide
 have e3:(Value.type "zip" == Value.type "tuple")=false:=by decide
 simp only[e1,e2,e3,Bool.or_false,Bool.false_eq_true,if_false];refine kS ?_;have it:∀{Q:Value->Shared->Prop}{E:Value->Shared->Prop},Q (.ref z) s->wpAny (model prog w) A.in1 (pyIter (.ref z)) Q E s:=λ{Q E} h=>by refine wpAny_pyIter_slot ty F.slot_zip_iter (wpAny_call_entry F.slot_zip_iter ty F.entry_zip_iter ?_ (F.args_zip_iter_1 _));show wpAny _ _ (ret (.ref z)) _ _ s;exact SG ⟨_,rfl,"zip",_,ty,F.slot_zip_next.lookup,h⟩
 refine it ?_;refine kS (wpAny_holding ?_);unfold Builtin.List.listLengthHint;refine kS (wpAny_specialOf ty z9 ?_);show wpAny _ A.in1 (specialOf (.ref z) (Str.ofString "__length_hint__") >>= _) _ _ s;refine kS (wpAny_specialOf ty xk ?_);refine SG ?_;show wpAny _ A.in1 (rule "list.extend.makes-room" >>= λ_=>Builtin.List.listTouch (.ref S) >>= λ_=>again (.builtin "list.extend.loop" ⟨[.ref S,.ref z,res],[]⟩)) _ _ s;refine kS (wpAny_rule (kS ?_));show wpAny _ A.in1 (updateSeq S (·.push .none) >>= λ_=>updateSeq S (·.pop)) _ _ s;refine kS (wpAny_updateSeq hl rfl ?_);have l2:=Heap.get?_update_self (Obj.mapSeq (·.push Value.none)) hl rfl;refine wpAny_updateSeq (hz:=by seq_fits) l2 rfl ?_;have l3:=Heap.get?_update_self (Obj.mapSeq (·.pop)) l2 rfl;have oth:∀b o,b≠S->s.heap.get? b=some o->((s.heap.update S (Obj.mapSeq (·.push Value.none))).update S (Obj.mapSeq (·.pop))).get? b=some o:=λb o hb e=>(Heap.get?_update_other _ _ (Ne.symm hb)).trans ((Heap.get?_update_other _ _ (Ne.symm hb)).trans e);refine SG ⟨plainId_quiet F.plain_extend_loop _,HD D hS hSs h0 h1 h8 Y row hn hr he res n 0 _ #[] rfl (Nat.zero_le _) ⟨⟨⟨f,b,hf,oth _ _ (Ne.symm hS'.1) hz⟩,oth _ _ (Ne.symm hS'.2.1) st.hI,?_,λp hp=>(st.at' p hp).to λo e=>oth _ o (λq=>hS'.2.2.2 (q ▸ jd hp)) e⟩,λp hp=>(src p hp).to λo e=>oth _ o (hSs p hp) e,⟨_,l3⟩,rfl,λm hm=>by omega⟩ λh' acc' _ q1 q2 q3 q4=>hR h' acc' q1 q2 q3 λc o hc e=>q4 c o hc (oth c o (λq=>hc (by simp[q])) e)⟩;obtain⟨os,ol,hO⟩:=st.hO;exact⟨os,ol,oth _ _ (Ne.symm hS'.2.2.1) hO⟩
end
section
variable{prog:Program}{w:World}{A:Around}{E:Value->Shared->Prop}{s:Shared}{z I O:Addr}{js:List Zi}
theorem t8{Q:Value->Shared->Prop}(D:ZA z I O js)(h0:A.handled=none)(h1:js≠[])(h8:js.length<=8)(Y:Zi->Array Value)(row:Nat->List Value){n:Nat}(hn:n<=sizeLine)(hr:∀m,m<n->(row m).length=js.length/\∀(j:Nat) (p:Zi) (x:Value),js[j]?=some p->(row m)[j]?=some x->(Y p)[m]?=some x)
  (he:∃p∈js,(Y p)[n]?=none) (st:P7 z I O js 0 s.heap) (src:∀p∈js,p.1.Sq s.heap p.2.2 (Y p))
  (hQ:∀ h' acc',(∃ c,h'.get? s.heap.objs.size=some {cls:=.type "list",dict:=none,data:=.seq acc' c,slots:=#[] })->acc'.size=n->(∀ m,m < n->∃ T,acc'[m]?=some (.ref T)/\eZ h' T (row m)/\s.heap.objs.size < T)->(∀ c o,c∉z::O::Zi.ofs js->s.heap.get? c=some o->h'.get? c=some o)->Q (.ref s.heap.objs.size) {s with heap:=h' }) :
  wpAny (model prog w) A (call (.type "list") [.ref z]) Q E s:=by
 have lt:∀b∈z::I::O::Zi.ofs js,b<s.heap.objs.size:=λb hb=>by
  obtain⟨f,b0,_,hz⟩:=st.hz;obtain⟨os,_,hO⟩:=st.hO;rcases SK.mp hb with rfl|hb
  . exact SI hz
  rcases SK.mp hb with rfl|hb
  . exact SI st.hI
  rcases SK.mp hb with rfl|hb
  . exact SI hO
  . obtain⟨p,hp,rfl⟩:=List.mem_map.mp hb;obtain⟨o,e,_⟩:=(st.at' p hp).obj;exact SI e
 have slt:∀p∈js,p.2.2<s.heap.objs.size:=λp hp=>by obtain⟨o,e,_⟩:=(src p hp).obj;exact SI e
 refine callType_codes (Q₁:=λobj s₁=>obj=.ref s.heap.objs.size/\s₁={s with heap:=s.heap.push {cls:=.type "list",data:=.seq #[] } }) F.called_list (F.typeCall_list_1 _) F.entry_list_init (code_list_new _ ⟨rfl,rfl⟩) λobj s₁ h₁=>?_;obtain⟨rfl,rfl⟩:=h₁;have hS:(s.heap.push {cls:=.type "list",data:=.seq #[] }).get? s.heap.objs.size=some {cls:=.type "list",data:=.seq #[] }:=Heap.get?_push_size _ rfl;refine⟨⟨_,hS,rfl⟩,F.args_list_init_2 _ _,?_⟩
 show wpAny _ A.in1.in1 (do let old <- Builtin.List.listItems (.ref s.heap.objs.size);Builtin.List.listUpdate (.ref s.heap.objs.size) (λ_=>#[]);letGo old.toList.reverse;Builtin.List.listExtendWith (.ref s.heap.objs.size) (.ref z) .none) _ _ {s with heap:=_}
 refine kS ?_;unfold Builtin.List.listItems;refine kS (wpAny_seqItems hS rfl (SG ?_));show wpAny _ A.in1.in1 (updateSeq s.heap.objs.size (λ_=>#[]) >>= λ_=>letGo (#[]:Array Value).toList.reverse >>= λ_=>Builtin.List.listExtendWith (.ref s.heap.objs.size) (.ref z) .none) _ _ {s with heap:=_};refine kS (wpAny_updateSeq hS rfl ?_);have hS2:=Heap.get?_update_self (Obj.mapSeq (λ_=>(#[]:Array Value))) hS rfl;have oth:∀ b o,b≠s.heap.objs.size->s.heap.get? b=some o->((s.heap.push {cls:=.type "list",data:=.seq #[] }).update s.heap.objs.size (Obj.mapSeq (λ_=>(#[]:Array Value)))).get? b=some o:=λb o hb e=>(Heap.get?_update_other _ _ (Ne.symm hb)).trans (tu _ e);refine kS (wpAny_letGo ?_);obtain⟨⟨f,b,hf,hz⟩,hI,⟨os,ol,hO⟩,at'⟩:=st;have ne:∀b∈z::I::O::Zi.ofs js,b≠s.heap.objs.size:=λb hb=>Nat.ne_of_lt (lt b hb);refine BR (A:=A.in1) D (λq=>absurd (lt _ q) (Nat.lt_irrefl _)) (λp hp=>Nat.ne_of_lt (slt p hp)) h0 h1 h8 Y row hn hr he .none ⟨⟨f,b,hf,oth _ _ (ne _ v6) hz⟩,oth _ _ (ne _ v6) hI,⟨os,ol,oth _ _ (ne _ v6) hO⟩,λp hp=>(at' p hp).to λo e=>oth _ o (ne _ (by simp[jd hp])) e⟩ (λp hp=>(src p hp).to λo e=>oth _ o (Nat.ne_of_lt (slt p hp)) e) hS2 λh' acc' q1 q2 q3 q4=>?_;refine⟨rfl,hQ h' acc' q1 q2 q3 λc o hc e=>?_⟩;have hcl:c≠s.heap.objs.size:=Nat.ne_of_lt (SI e);exact q4 c o (by simp only[SK,not_or]at hc ⊢;exact⟨hcl,hc⟩) (oth c o hcl e)
end
section
variable{K:PySem.W.Frag}{Pr H H':Hp}{σ:St}{Z:Ev}
theorem aA.more(E:aA K Pr H σ Z)(k:∀b u,H b=some u->H' b=some u):aA K Pr H' σ Z :=
 ⟨λb u e=>k b u (E.sub b u e),E.nd,E.off,Paired.impMem E.sl λl hl s q=>q.pres (λb u _ e=>k b u e) l λa e=>by
  obtain⟨vs,e,_⟩:=E.at_own (dN.mpr ⟨l,hl,e⟩)
  rw[k _ _ e,e]⟩
theorem aA.own_more(E:aA K Pr H σ Z)(k:∀b u,H b=some u->H' b=some u){p:Addr}{vs:List V}{xs:List D}(h:H p=none)(h':H' p=some (.lst vs))(r:bM K H' vs xs):aA K Pr H' (some (.ref p)::σ) (.own p xs::Z):=by
 have E':=E.more k;refine⟨E'.sub,?_,λa ha=>?_,.cons ⟨rfl,vs,h',r⟩ E'.sl⟩
 . rw[aS];refine List.nodup_cons.mpr ⟨λhm=>?_,E.nd⟩;obtain⟨us,e,_⟩:=E.at_own hm;rw[h]at e;cases e
 .
  rw[aS]at ha;rcases SK.mp ha with rfl|ha
  .
   cases q:Pr a with
   |none=>rfl
   |some u=>rw[E.sub a u q]at h;cases h
  . exact E.off a ha
end
open Classical in
noncomputable def laidT(H:Hp)(m:Nat)(S n:Nat)(T:Nat->Addr)(vs:List V)(row:Nat->List V):Hp:=λb =>
 if b<m then H b else if b=S then some (.lst vs)else if h:∃k,k<n/\T k=b then some (.tup (row (Classical.choose h)))else none
section
variable{X:Cx}{gV:List (Addr×Obj)}{σ:St}{H:Hp}{s:Shared}
open Classical in
theorem vL{m S n:Nat}{T:Nat->Addr}{vs:List V}{row:Nat->List V}{us:Nat->List Value}{h':Heap}(hT:∀k,k<n->m<=T k/\T k≠S/\eZ h' (T k) (us k))(hv:∀k,k<n->bZ (row k) (us k)){k:Nat}(hk:k<n):laidT H m S n T vs row (T k)=some (.tup (row k)):=by
 obtain⟨h1,h2,h3⟩:=hT k hk;have ex:∃j,j<n/\T j=T k:=⟨k,hk,rfl⟩;unfold laidT;rw[if_neg (Nat.not_lt.mpr h1),if_neg h2,dif_pos ex];obtain⟨c1,c2⟩:=Classical.choose_spec ex;have h4:=(hT _ c1).2.2;rw[c2]at h4;have e:us (Classical.choose ex)=us k:=by have:=h4.symm.trans h3;simp only[Option.some.injEq,Obj.mk.injEq,Data.seq.injEq,true_and,and_true]at this;exact List.toArray_inj this
 have v1:=hv _ c1;rw[e]at v1;rw[v1.inj (hv k hk)]
open Classical in
theorem Oq.laidT{h':Heap}{S n:Nat}{T:Nat->Addr}{vs:List V}{us:List Value}{row:Nat->List V}{ur:Nat->List Value}{c:Nat}(I:Oq X gV σ H s)(k:∀ b u,s.heap.get? b=some u->h'.get? b=some u)(hS:s.heap.objs.size<=S) (hl:h'.get? S=some {cls:=.type "list",data:=.seq us.toArray c}) (hz:vs.length<=sizeLine) (hv:bZ vs us)
  (hT:∀k,k<n->s.heap.objs.size<=T k/\T k≠S/\eZ h' (T k) (ur k)) (hr:∀k,k<n->bZ (row k) (ur k)) (h8:∀k,k<n->(row k).length<=sizeLine):Oq X gV σ (L2.laidT H s.heap.objs.size S n T vs row) {s with heap:=h' }:=by
 have old:∀b u,H b=some u->L2.laidT H s.heap.objs.size S n T vs row b=some u:=λb u e=>by unfold L2.laidT;rw[if_pos (I.hok.lt e)];exact e
 have hSa:L2.laidT H s.heap.objs.size S n T vs row S=some (.lst vs):=by unfold L2.laidT;rw[if_neg (Nat.not_lt.mpr hS),if_pos rfl]
 refine I.un (t':=s.toks) ⟨λb o e _ _ _=>k b o e,λb o e _ _ _=>⟨o.slots,k b o e⟩,λb o e hn _=>?_,λb o e _=>⟨o,k b o e⟩,λb xs e=>old b _ e,λb o u e=>old b _ e,λb ps e=>old b _ e⟩ λb u e=>?_
 . unfold L2.laidT;rw[if_pos (SI e)];exact hn
 .
  by_cases hb:b<s.heap.objs.size
  .
   have e':H b=some u:=by unfold L2.laidT at e;rw[if_pos hb]at e;exact e
   exact(I.hok b u e').stay (λc v _ q=>k c v q) (λc q=>old c _ q) (λc xs q=>old c _ q) λc ob _ _ q=>old c _ q
  .
   by_cases hbS:b=S
   . subst hbS;rw[hSa]at e;cases e;exact⟨hz,us,c,hv,hl⟩
   .
    have e0:=e;unfold L2.laidT at e0;rw[if_neg hb,if_neg hbS]at e0;split at e0
    . rename_i ex;obtain⟨c1,c2⟩:=Classical.choose_spec ex;have e3:=vL (H:=H) (vs:=vs) hT hr c1;rw[c2]at e3;rw[e3]at e;cases e;obtain⟨_,_,q3⟩:=hT _ c1;rw[c2]at q3;exact⟨h8 _ c1,_,hr _ c1,⟨_,q3,rfl,_,rfl⟩⟩
    . cases e0
end
theorem HE{z I O:Addr}{js:List Zi}{i:Nat}{h:Heap}(st:PX z I O js .none i h):P7 z I O js i h:=⟨⟨.none,false,.inl rfl,st.hz⟩,st.hI,st.hO,st.at'⟩
def HF(t:W (List L)):W L:=λZ p4=>t Z λls Z1=>match ls with
 |[.d d,.d d2]=>Ni d d2 λzs=>zs.length<=sizeLine/\∀a,p4 (.own a zs) Z1
 |_=>False
section
variable{X:Cx}{a b:Expr}{pos p pos0 p0:Pos}
theorem HG{xs ys:List Value}{m j:Nat}{k1 k2:Sk}{i1 i2 a1 a2:Addr}{Y:Zi->Array Value}{q:Zi}{x:Value}(h1:m<xs.length)(h2:m<ys.length)(e1:Y (k1,i1,a1)=xs.toArray)(e2:Y (k2,i2,a2)=ys.toArray)(hq:[(k1,i1,a1),(k2,i2,a2)][j]?=some q)(hx:[xs[m],ys[m]][j]?=some x):(Y q)[m]?=some x:=by
 match j with
 | 0 =>
  simp only[List.getElem?_cons_zero,Option.some.injEq]at hq hx;subst hq hx;rw[e1];simp[h1]
 | 1 =>
  simp only[List.getElem?_cons_succ,List.getElem?_cons_zero,Option.some.injEq]at hq hx;subst hq hx;rw[e2];simp[h2]
 |j+2=>simp at hq
theorem Aa{bs:List (Option Nat)}{t:W (List L)} (hgl:Gl X "list") (hml:X.mg "list"=none) (hg:Gl X "zip") (hm:X.mg "zip"=none) (hc:X.calm=true) (ha:O9 X [a,b] bs t) (hs:starEach [a,b] X.env=(false,eval a X.env)::starEach [b] X.env:=by rfl) (hs2:(backTo pos (starEach [b] X.env)).any (·.1)=false:=by rfl)
  (hs0:starEach [.Call (.Name "zip" p) [a,b] [] pos] X.env=[(false,eval (.Call (.Name "zip" p) [a,b] [] pos) X.env)]:=by rfl) :
  PL X (.Call (.Name "list" p0) [.Call (.Name "zip" p) [a,b] [] pos] [] pos0) (HF t):=by
 intro gV s σ H Pr Z p4 I E h;refine wpAny_Call_Name_kw (iJ I hgl hml (show bootBuiltins "list"=some (.type "list") by decide +kernel) (PyProof.Rows.callWith_type1 ?_ (by rw[hs0]; rfl) rfl));rw[hs0];show wpAny _ _ (spliced ((false,eval (.Call (.Name "zip" p) [a,b] [] pos) X.env)::[])) _ _ s;refine Calls.spliced_cons (Call_ (iJ I hg hm boot_zip (PyProof.Rows.callWith_type1 (Ot (ha pos gV s σ H Pr Z _ I E h) λus s1 ⟨vs,H1,ls,Z1,I1,r1,hl,hb,E1,_,q1⟩=>?_) hs hs2)));dsimp only at q1;split at q1
 .
  rename_i d d2;obtain⟨k1,xs,ed,q2⟩:=BP q1;obtain⟨k2,ys,ed2,q3,q4⟩:=BP q2;subst ed ed2;clear q1 q2
  match vs,hl with
  | [v,v2],_ =>
   have E1':aA X.K Pr H1 (some v::some v2::σ) (.d (k1.mk xs)::.d (k2.mk ys)::Z1):=E1;obtain⟨_,e1,p1⟩:=E1'.head_d;cases e1;obtain⟨_,e1,p2⟩:=E1'.tail.head_d;cases e1;obtain⟨a1,vs1,rfl,f1,rs1⟩:=Sk.rep p1;obtain⟨a2,vs2,rfl,f2,rs2⟩:=Sk.rep p2;obtain⟨u1,u2,rfl,ru,ru2⟩:=r1.two;cases ru;cases ru2;obtain⟨its,rv,sq1⟩:=I1.sqk (P5.pres (λ_ _ _ e=>e) f1);obtain⟨its2,rv2,sq2⟩:=I1.sqk (P5.pres (λ_ _ _ e=>e) f2);have E2:aA X.K Pr H1 σ Z1:=E1'.tail.tail;refine z8 sq1 sq2 λh' st hk=>Calls.spliced_nil ?_;have lt1:a1<s1.heap.objs.size:=by obtain⟨o,e,_⟩:=sq1.obj;exact SI e
   have lt2:a2<s1.heap.objs.size:=by obtain⟨o,e,_⟩:=sq2.obj;exact SI e
   have D:ZA (s1.heap.objs.size+4) (s1.heap.objs.size+2) (s1.heap.objs.size+3) [(k1,s1.heap.objs.size,a1),(k2,s1.heap.objs.size+1,a2)]:=by
    refine⟨by simp[Zi.ofs],λq hq=>?_⟩;simp only[SK,List.not_mem_nil,or_false]at hq;rcases hq with rfl|rfl
    . simp only[Zi.ofs,List.map_cons,List.map_nil,SK,List.not_mem_nil,or_false,not_or];refine⟨Nat.ne_of_lt (Nat.lt_add_right _ lt1),Nat.ne_of_lt (Nat.lt_add_right _ lt1),Nat.ne_of_lt lt1,Nat.ne_of_lt (Nat.lt_add_right _ lt1)⟩
    . simp only[Zi.ofs,List.map_cons,List.map_nil,SK,List.not_mem_nil,or_false,not_or];refine⟨Nat.ne_of_lt (Nat.lt_add_right _ lt2),Nat.ne_of_lt (Nat.lt_add_right _ lt2),Nat.ne_of_lt lt2,Nat.ne_of_lt (Nat.lt_add_right _ lt2)⟩
   have l1:=rv.length;have l2:=rv2.length;have m1:=rs1.length;have m2:=rs2.length
   have hsrc:∀q∈[(k1,s1.heap.objs.size,a1),(k2,s1.heap.objs.size+1,a2)],∃ys,q.1.Sq h' q.2.2 ys/\((q=(k1,s1.heap.objs.size,a1)->ys=its.toArray)/\(q=(k2,s1.heap.objs.size+1,a2)->ys=its2.toArray)):=λq hq=>by
    simp only[SK,List.not_mem_nil,or_false]at hq;rcases hq with rfl|rfl
    . exact⟨_,sq1.to λo e=>hk _ o e,λ_=>rfl,λz=>by simp at z⟩
    . exact⟨_,sq2.to λo e=>hk _ o e,λz=>by simp at z,λ_=>rfl⟩
   obtain⟨Y,hY⟩:=vI hsrc;have y1:=(hY (k1,s1.heap.objs.size,a1) v6).2.1 rfl;have y2:=(hY (k2,s1.heap.objs.size+1,a2) v6).2.2 rfl;have zl:(Dn xs ys).length=min its.length its2.length:=by simp[Dn];omega
   have sz':s1.heap.objs.size+5<=h'.objs.size:=Nat.succ_le_of_lt (SI st.hz);refine t8 (s:={s1 with heap:=h' }) D (I1.ok.hd hc) v6 v6 Y (λm=>[its.getD m .none,its2.getD m .none]) (n:=min its.length its2.length) (by rw[<- zl];exact q3) (λm hm=>⟨rfl,λj q x hq hx=>?_⟩) ?_ (HE st) (λq hq=>(hY q hq).1) λh2 acc hl2 hsz hT hk2=>?_
   .
    have g1:m<its.length:=by omega
    have g2:m<its2.length:=by omega
    refine HG g1 g2 y1 y2 hq ?_;rw[SA,SA,so g1,so g2]at hx;exact hx
   .
    rcases Nat.le_total its.length its2.length with g|g
    . exact⟨_,SE,by rw[y1,Nat.min_eq_left g];simp⟩
    . exact⟨_,SC _ SE,by rw[y2,Nat.min_eq_right g];simp⟩
   obtain⟨c,hl2⟩:=hl2;obtain⟨T,hT⟩:=vI (l:=List.range (min its.length its2.length)) (P:=λm (T:Addr)=>acc[m]?=some (.ref T)/\eZ h2 T [its.getD m .none,its2.getD m .none]/\h'.objs.size<T) λm hm=>hT m (List.mem_range.mp hm)
   have kp:∀b u,s1.heap.get? b=some u->h2.get? b=some u:=λb u e=>hk2 b u (by
    have lb:b<s1.heap.objs.size:=SI e;simp only[Zi.ofs,List.map_cons,List.map_nil,SK,List.not_mem_nil,or_false,not_or]
    exact⟨Nat.ne_of_lt (Nat.lt_add_right _ lb),Nat.ne_of_lt (Nat.lt_add_right _ lb),Nat.ne_of_lt lb,Nat.ne_of_lt (Nat.lt_add_right _ lb)⟩) (hk b u e)
   have hT':∀m,m<min its.length its2.length->acc[m]?=some (.ref (T m))/\eZ h2 (T m) [its.getD m .none,its2.getD m .none]/\h'.objs.size<T m:=λm hm=>hT m (List.mem_range.mpr hm)
   have ea:acc=((List.range (min its.length its2.length)).map λm=>Value.ref (T m)).toArray:=by
    refine Array.ext (by simp[hsz]) λm g1 g2=>?_;have g:m<min its.length its2.length:=by rw[<- hsz];exact g1
    have:=(hT' m g).1;rw[Array.getElem?_eq_getElem g1]at this;simpa using this
   subst ea
   have gr:∀m,m<min its.length its2.length->bZ [vs1.getD m .non,vs2.getD m .non] [its.getD m .none,its2.getD m .none]:=λm hm=>by
    have g1:m<vs1.length:=by omega
    have g2:m<vs2.length:=by omega
    obtain⟨u1,e1,r1⟩:=rv.get (so g1);obtain⟨u2,e2,r2⟩:=rv2.get (so g2);rw[SA,SA,SA,SA,e1,e2,so g1,so g2];exact .cons r1 (.cons r2 .nil)
   have tt:∀m,m<min its.length its2.length->s1.heap.objs.size<=T m/\T m≠h'.objs.size/\eZ h2 (T m) [its.getD m .none,its2.getD m .none]:=λm hm=>⟨SJ (SJ (Nat.le_add_right _ 5) sz') (Nat.le_of_lt (hT' m hm).2.2),Nat.ne_of_gt (hT' m hm).2.2,(hT' m hm).2.1⟩;have I2:=I1.laidT (vs:=(List.range (min its.length its2.length)).map λm=>V.ref (T m)) (row:=λm=>[vs1.getD m .non,vs2.getD m .non]) kp (SJ (Nat.le_add_right _ 5) sz') hl2 (by rw[SH,List.length_range,<- zl];exact q3) (sO λm _=>rfl) tt gr (λm _=>(by show 2<=sizeLine;decide));have old:∀b u,H1 b=some u->L2.laidT H1 s1.heap.objs.size h'.objs.size (min its.length its2.length) T ((List.range (min its.length its2.length)).map λm=>V.ref (T m)) (λm=>[vs1.getD m .non,vs2.getD m .non]) b=some u:=λb u e=>by unfold L2.laidT;rw[if_pos (I1.hok.lt e)];exact e
   refine⟨.ref h'.objs.size,_,_,Z1,I2,rfl,E2.own_more (vs:=(List.range (min its.length its2.length)).map λm=>V.ref (T m)) old (I1.hok.fresh (SJ (Nat.le_add_right _ 5) sz')) ?_ ?_,q4 _⟩
   . unfold L2.laidT;rw[if_neg (Nat.not_lt.mpr (SJ (Nat.le_add_right _ 5) sz')),if_pos rfl]
   .
    rw[<- vJ];have en:min xs.length ys.length=min its.length its2.length:=by omega
    rw[en];refine yP λm hm=>?_;have hm:=List.mem_range.mp hm;have g1:m<xs.length:=by omega
    have g2:m<ys.length:=by omega
    refine .tup (Ox.of (vL tt gr hm)) ?_;obtain⟨w1,e1,r1⟩:=rs1.get (so g1);obtain⟨w2,e2,r2⟩:=rs2.get (so g2);rw[SA,SA,SA,SA,e1,e2,so g1,so g2];exact .cons (r1.pres λb u _ e=>old b u e) (.cons (r2.pres λb u _ e=>old b u e) .nil)
 . exact q1.elim
end
end L2
namespace L2
open PySem PySem.Spec PyProof.Rows
section
variable{X:Cx}{e:Expr}{pos:Pos}
def LO:Option L->(Int->Prop)->Prop
 |some (.d (.int a)),k=>k a
 |_,_=>False
theorem Ej(a:Int)(k:Int->Prop):LO (some (.d (.int a))) k=k a:=rfl
theorem HH{o:Option L}{k:Int->Prop}(h:LO o k):∃a,o=some (.d (.int a))/\k a:=by
 unfold LO at h;split at h
 . exact⟨_,rfl,h⟩
 . exact h.elim
def Mv(i:Nat)(f:Int->Int->Int)(te:W L):W Fl:=λZ p4=>LO Z[i]? λa=>te Z λr Z1=>nK r λb=>p4 .nx (Z1.set i (.d (.int (f a b))))
theorem Kz{i:Nat}{x:Str}{te:W L}{pos':Pos}{op:Operator}{f:Int->Int->Int}(ho:OB X op (OD f))(hN:X.N.Nodup)(hi:X.N[i]?=some x)(hx:Oo X.env.scope x)(he:PL X e te)(hf:X.fn x=true∨X.env.scope.names.lookup x=some .local:=by first|exact .inl rfl|exact .inr rfl|assumption) :
  PM X (.AugAssign (.Name x pos') op e pos) (Mv i f te):=by
 refine PM.of (JC hN hi hx he.pe ho hf) λσ H Pr Z p4 kz E h=>?_;obtain⟨a,q,h⟩:=HH h;obtain⟨sv,hs,v,rfl,r⟩:=E.slot q;cases r;refine⟨_,hs,Pr,Z,_,E,h,λy H1 r Z1 E1 p=>?_⟩;obtain⟨b,rfl,p⟩:=dP p;obtain⟨_,e1,p1⟩:=E1.head_d;cases e1;cases p1;exact⟨a,b,rfl,rfl,_,(E1.tail.cons_d (.int _)).store (by rw[kz];exact(SB.mp hi).1),p⟩
def Mw(i:Nat):W Bool:=λZ p4=>w9 i Z λ_ xs=>p4 (!xs.isEmpty) Z
theorem KA(i:Nat){x:Str}{p:Pos}(hN:X.N[i]?=some x:=by rfl)(hv:On X.env.scope x:=by first | exact Or.inl rfl | exact Or.inr (Or.inl rfl) | exact Or.inr (Or.inr rfl)) (hd:(x == ("__debug__" : Str))=false:=by decide)
  (hcd:(x == ("__classdict__" : Str))=false:=by decide) (he:∀ whole,isTrue (.Name x p) X.env whole=(do let v <- whole; standAt (Expr.Name x p).pos; holding [v] (truthy v)):=by intro _; rfl):PB X (.Name x p) (Mw i):=by
 intro gV s σ H Pr Z p4 I E h;obtain⟨l,xs0,q0,h⟩:=hJ h;obtain⟨hσ,vs0,hl0,r⟩:=E.ownAt q0;have em:(!vs0.isEmpty)=!xs0.isEmpty:=by have:=r.length;cases vs0<;>cases xs0<;>simp at this ⊢
 refine Ot (Dw (cR hN hv hd hcd) he gV s σ H (λb H'=>b=(!xs0.isEmpty)/\H'=H) I ⟨.ref l,hσ,_,.inl ⟨vs0,Ow.of hl0,rfl⟩,em,rfl⟩) λb s1 jqz=>?_;obtain⟨H1,I1,e1,e2⟩:=jqz;subst e1 e2;exact⟨H1,Z,I1,E,h⟩
end
end L2
namespace L2
open PySem PySem.Spec PyProof.Rows PySem.W
noncomputable def HI(K:Frag)(C fI:Addr):Bool:=(match K.lookup C with
 | some ⟨.type "type",_,.cls cd,sl⟩=>(match cd.mro,sl.toList with
  |.ref C'::bm,[_,_,_,_,some (.builtin n),_]=>C' == C && n == "ValueError.__new__" && !cd.hasDel && bm.contains (.type "ValueError") && !(bm.contains (.type "AttributeError")) && !(bm.contains (.type "NameError"))
  |_,_=>false)
 |_=>false) && findIn K (.ref C) "__init__" == some (some (.ref fI)) && typeIn K (.ref fI) == some (.type "function")
structure P9 (K:Frag) (C fI:Addr):Prop where
 ex:∃ nm q N bs bm hdct sn sub ab col dd k0 k1 k2 k3 k5,K.lookup C=some (excClassObj nm q C N bs bm hdct sn sub ab col dd k0 k1 k2 k3 k5 "ValueError.__new__")/\bm.contains (.type "ValueError")=true/\bm.contains (.type "AttributeError")=false/\bm.contains (.type "NameError")=false
 init:findIn K (.ref C) "__init__"=some (some (.ref fI))
 fn:typeIn K (.ref fI)=some (.type "function")
theorem KB{K:Frag}{C fI:Addr}(h:HI K C fI=true):P9 K C fI:=by
 unfold HI at h;simp only[Bool.and_eq_true,beq_iff_eq]at h;obtain⟨⟨h,h1⟩,h2⟩:=h;refine⟨?_,h1,h2⟩;split at h
 .
  rename_i dd cd sl ho;split at h
  . rename_i C' bm k0 k1 k2 k3 n k5 hm hs;simp only[Bool.and_eq_true,beq_iff_eq,Bool.not_eq_true']at h;obtain⟨⟨⟨⟨⟨rfl,rfl⟩,hdel⟩,e1⟩,e2⟩,e3⟩:=h;obtain⟨nm,bs,mro,ns,qn,hd,sn,sub,ab,col,Qa⟩:=cd;dsimp only at hm hdel;subst hm hdel;obtain⟨l⟩:=sl;simp only at hs;subst hs;exact⟨nm,qn,ns,bs,bm,hd,sn,sub,ab,col,dd,k0,k1,k2,k3,k5,ho,e1,e2,e3⟩
  . cases h
 . cases h
section
variable{prog:Program}{w:World}{A:Around}{E:Value->Shared->Prop}{h:Heap}{g:Array GenState}{d:Drawn}{t:Nat}{os:OsState}
variable{nm q:Str}{C N:Addr}{bs bm:List Value}{hdct:Bool}{sn:List Str}{sub:List Value}{ab:Bool}{col:Option Bool}{dd:Option Addr}{k0 k1 k2 k3 k5:Option Value}
theorem Ab{M:Model}{cL:List Value}{Q:Unit->Shared->Prop} (hC:h.get? C=some (excClassObj nm q C N bs bm hdct sn sub ab col dd k0 k1 k2 k3 k5 "ValueError.__new__")) (hv:bm.contains (.type "ValueError")=true)
  (hq:Q () ⟨h,g,d,t,os⟩):wpAny M A (checkBuiltinCall "ValueError.__new__" ⟨.ref C::cL,[]⟩) Q E ⟨h,g,d,t,os⟩:=by
 have FB:=F.excBase_ValueError;have hb:(Value.ref C::bm).contains (.type "ValueError")=true:=by rw[List.contains_cons,hv,Bool.or_true]
 have hst:=FB.noStar;simp only[checkBuiltinCall,FB.newKind,FB.newSplit,FB.newRow]
 repeat (first|refine wpAny_loadPart_at hC ?_|(refine wpAny_isSubtype_exc hC ?_;rw[hb])|refine wpAny_staticBase_exc hC ?_|refine wpAny_madeBy_exc hC ?_|simp only[bne_self_eq_false,Bool.false_eq_true,if_false] | wp_step)
 exact hq
theorem Ek{cL:List Value}{R:Result->Shared->Prop} (hC:h.get? C=some (excClassObj nm q C N bs bm hdct sn sub ab col dd k0 k1 k2 k3 k5 "ValueError.__new__")) (hv:bm.contains (.type "ValueError")=true) (ha:bm.contains (.type "AttributeError")=false) (hn:bm.contains (.type "NameError")=false)
  (hz:cL.length<=sizeLine) (hq:R (.ok (.ret (.ref (h.objs.size+1)))) ⟨(h.push {cls:=.type "tuple",data:=.seq cL.toArray}).push {cls:=.ref C,data:=.fields #[.ref h.objs.size,.none,.none,.none,.bool false,.none] },g,d,t,os⟩) :
  codeAny (model prog w) A (.builtin "ValueError.__new__" ⟨.ref C::cL,[]⟩) R ⟨h,g,d,t,os⟩:=by
 have FB:=F.excBase_ValueError;have hends:=FB.ends;have c1:(Value.ref C::bm).contains (.type "ValueError")=true:=by rw[List.contains_cons,hv,Bool.or_true]
 have c2:(Value.ref C::bm).contains (.type "AttributeError")=false:=by rw[List.contains_cons,ha]; rfl
 have c3:(Value.ref C::bm).contains (.type "NameError")=false:=by rw[List.contains_cons,hn]; rfl
 refine codeAny_builtinAt FB.entry ?_;unfold Builtin.«BaseException.__new__»;refine PySem.wpAt_bind ?_;show PySem.wpAt _ _ _ (stack >>= _) _ _ _;refine PySem.wpAt_bind (PySem.wpAt_stack λp below=>PySem.wpAt_of_wpAny ?_)
 wp_walk
 refine PySem.wpAt_of_wpAny ?_;rw[FB.owner]
 repeat (first|with_reducible refine wpAny_madeHere_exc FB.canon hC ?_|with_reducible refine wpAny_loadPart_at hC ?_|(with_reducible refine wpAny_isSubtype_exc hC ?_;first|rw[c1] | rw[c2] | rw[c3])|wp_step)
 show R _ _;rw[Heap.size_push];exact hq
theorem Mx{K:Frag}{fI:Addr}{cL:List Value}{Q:Value->Shared->Prop}(X:K.In h)(M:P9 K C fI)(hz:cL.length<=sizeLine)
  (hq:∀ h' e,Heap.MadeExcOf h h' e (.ref C) cL->h.objs.size<=e->wpAny (model prog w) (A.under (.builtin "type.__call__" ⟨.ref C::cL,[]⟩)) (call (.ref fI) (.ref e::cL)) (λr s'=>r=.none/\Q (.ref e) s') E ⟨h',g,d,t,os⟩) :
  wpAny (model prog w) A (call (.ref C) cL) Q E ⟨h,g,d,t,os⟩:=by
 obtain⟨nm,q,N,bs,bm,hdct,sn,sub,ab,col,dd,k0,k1,k2,k3,k5,hK,b1,b2,b3⟩:=M.ex;have hC:=X _ _ hK;have FB:=F.excBase_ValueError;have f1:=tc_lookup;have f2:=tc_bind (.ref C);have hT:(⟨h,g,d,t,os⟩:Shared).TypeIs (.ref C) "type":=⟨_,hC,rfl⟩;refine wpAny_call (codeAny_of_tree ?_);show wpAny _ _ (callAny (.ref C) _) _ _ _
 repeat (any_goals (first|assumption|with_reducible refine wpAny_loadPart_at hC ?_|wp_step))
 refine⟨rfl,?_⟩;refine codeAny_call_builtin_at (Code.quiet_builtin _ y_) entry_typeCall (wpAny_check_type_call_sub hC ?_)
 repeat (first|with_reducible refine wpAny_loadPart_at hC ?_|with_reducible refine wpAny_madeBy_exc hC ?_|wp_step)
 refine codeAny_call_builtin_code (Code.quiet_builtin _ FB.quiet) (Ab hC b1 ?_);refine Ek hC b1 b2 b3 hz ?_;have kp:∀ b o,h.get? b=some o->((h.push {cls:=.type "tuple",data:=.seq cL.toArray}).push {cls:=.ref C,data:=.fields #[.ref h.objs.size,.none,.none,.none,.bool false,.none] }).get? b=some o:=λb o e=>tu _ (tu _ e);have hC1:=kp _ _ hC;have X1:K.In _:=X.keeps kp;have hg:((h.push {cls:=.type "tuple",data:=.seq cL.toArray}).push {cls:=.ref C,data:=.fields #[.ref h.objs.size,.none,.none,.none,.bool false,.none] }).get? (h.objs.size+1)=some {cls:=.ref C,data:=.fields #[.ref h.objs.size,.none,.none,.none,.bool false,.none] }:=by heap_get
 have cC:(Value.ref C::bm).contains (.ref C)=true:=by simp
 show wpAny _ _ _ _ _ ⟨(h.push {cls:=.type "tuple",data:=.seq cL.toArray}).push {cls:=.ref C,data:=.fields #[.ref h.objs.size,.none,.none,.none,.bool false,.none] },g,d,t,os⟩;unfold isInstance
 repeat (first|with_reducible refine wpAny_loadPart_at hg ?_|(with_reducible refine wpAny_isSubtype_exc hC1 ?_;rw[cC])|wp_step)
 have L1:=looks_findIn (M:=model prog w) X1 M.init;have L2:=bind_fn (M:=model prog w) X1 (.ref (h.objs.size+1)) M.fn;show wpAny _ _ (typeLookup (.ref C) _) _ _ _;refine L1.at (wpAny_holding (kS (L2.at ?_)));refine kS (wpAny_mono (hq _ (h.objs.size+1) ⟨kp,Heap.get?_none_of_le (Nat.le_succ _),h.objs.size,hg,Heap.get?_none_of_le (SN _),tu _ (Heap.get?_push_at rfl rfl)⟩ (Nat.le_succ _)) (λr s' hr=>?_) λ_ _ x=>x);obtain⟨rfl,hQ⟩:=hr
 wp_walk
 exact hQ
end
section
variable{prog:Program}{w:World}{A:Around}{E:Value->Shared->Prop}{s:Shared}{K:Frag}{c:Str}{C L:Addr}{cd:ClassData}{env:Env}
structure Qb (h:Heap) (e:Addr) (cls:Value) (dx T:Option Addr):Prop where
 ex:∃vs sl,h.get? e=some ⟨cls,dx,.fields vs,sl⟩/\1<vs.size/\(match T with
  |none=>vs[1]?=some .none
  |some t=>vs[1]?=some (.ref t)/\t≠e/\∃ot ts,h.get? t=some ot/\ot.data=.fields ts/\ts[3]?=some .none)
theorem KC{x:Sem Value}{Q:Flow->Shared->Prop}(S:rF K c C L cd)(hh:A.handled=none)
  (h:wpAny (model prog w) A x (λv s1=>∃e dx,v=.ref e/\K.In s1.heap/\Qb s1.heap e (.ref C) dx none/\E (.ref e) s1) E s):wpAny (model prog w) A (raiseStmt env (some x) none) Q E s:=by
 unfold raiseStmt;refine kS (wpAny_mono h (λv s1 h1=>?_) λ_ _ z=>z);obtain⟨e,dx,rfl,X,⟨vs,sl,he,hz,h1⟩,hE⟩:=h1;obtain⟨hp,g,d,tk,os⟩:=s1;have h1:vs[1]?=some .none:=h1;have he:hp.get? e=some ⟨.ref C,dx,.fields vs,sl⟩:=he;obtain⟨oc,odc,slc,hK⟩:=pR S.cls;have hC:hp.get? C=some ⟨oc,odc,.cls cd,slc⟩:=X _ _ hK;have hoc:oc=.type "type":=by have z:(K.lookup C).map (·.cls)=some (.type "type"):=S.ty;rw[hK]at z;exact Option.some.inj z
 subst hoc;have Lb:=S.isT (M:=model prog w) X "BaseException";have eb:(["ValueError","Exception","BaseException","object"]:List String).contains "BaseException"=true:=by decide
 rw[eb]at Lb
 repeat (first|with_reducible refine wpAny_loadPart_at he ?_|with_reducible refine wpAny_loadPart_at hC ?_|with_reducible refine Lb.at ?_|with_reducible refine wpAny_field he rfl h1 ?_|wp_step)
 exact wpAny_raiseNew_none hh hE
theorem KD{base:Heap}{outer:List Env}{F e:Addr}{cls:Value}{dx T:Option Addr}{Q:Unit->Shared->Prop}
  (hfr:A.frames=some (env::outer)) (hl:s.heap.FunFrames base (env::outer)) (hf:env.frame=some F) (fl:Qb s.heap e cls dx T)
  (hq:∀h' T',Qb h' e cls dx (some T')->s.heap.objs.size<=T'->(∀b o,b≠e->some b≠T->b∉Om (env::outer)->s.heap.get? b=some o->h'.get? b=some o) ->
   (∀b o,b≠e->some b≠T->s.heap.get? b=some o->∃sl,h'.get? b=some {o with slots:=sl})->Q () {s with heap:=h' }) :
  wpAny (model prog w) A (noteFrame (.ref e) env) (λ_ s2=>wpAny (model prog w) A (setFlight (.ref e) none) Q E s2) E s:=by
 obtain⟨vs,sl,he,hz,hT⟩:=fl;have nof:∀b o vs',s.heap.get? b=some o->o.data=.fields vs'->b∉Om (env::outer):=λb o vs' hb hd hm=>by obtain⟨_,o',ho',hn'⟩:=hl.mem hm;rw[hb]at ho';cases ho';exact hn' _ hd
 have entry:∀(s1:Shared)(vs1:Array Value)(head:Value)(hn:Bool),s1.heap.get? e=some ⟨cls,dx,.fields vs1,sl⟩->1<vs1.size->s1.heap.FunFrames base (env::outer) ->
   (∀b o,b≠e->some b≠T->s.heap.get? b=some o->s1.heap.get? b=some o)->s1.heap.objs.size=s.heap.objs.size->s1={s with heap:=s1.heap} ->
   wpAny (model prog w) A (do let a <- frameOf env;let pl <- entryPlaceOf F hn;let b <- EntryCells.newEntry head a .none (rawInt F) .none pl;setField (.ref e) 1 b) (λ_ s2=>wpAny (model prog w) A (setFlight (.ref e) none) Q E s2) E s1:=by
  intro s1 vs1 head hn he1 hz1 hl1 kp sz es;have nof1:∀b o vs',s1.heap.get? b=some o->o.data=.fields vs'->b∉Om (env::outer):=λb o vs' hb hd hm=>by obtain⟨_,o',ho',hn'⟩:=hl1.mem hm;rw[hb]at ho';cases ho';exact hn' _ hd
  refine kS (wpAny_frameOf_fun hfr hl1 hf λh1 hs1=>?_);refine kS (wpAny_entryPlaceOf λpl hpl=>?_);unfold EntryCells.newEntry newFields;refine kS (wpAny_newObj_type ?_ (hpl.sizeOk5 _ _ _ _ _))
  generalize hob:({cls:=.type "traceback",dict:=none,data:=.fields ([head,Value.ref F,.none,rawInt F,.none]++(if pl.isEmpty then List.replicate 6 Value.none else pl)).toArray}:Obj)=ob
  have hod:∃ts,ob.data=.fields ts/\3<ts.size:=by subst hob;exact⟨_,rfl,by simp only[List.size_toArray,List.length_append,List.length_cons,List.length_nil];omega⟩
  obtain⟨ts,hod,hts⟩:=hod;have he2:h1.get? e=some ⟨cls,dx,.fields vs1,sl⟩:=(hs1.2.1 e (nof1 _ _ _ he1 rfl)).trans he1;have he3:=tu (h:=h1) ob he2;have ne:h1.objs.size≠e:=Nat.ne_of_gt (SI he2);refine wpAny_setField he3 rfl hz1 ?_;have he4:=Heap.get?_update_self (Obj.mapFields (·.setIfInBounds 1 (Value.ref h1.objs.size))) he3 rfl;have hT4:=(Heap.get?_update_other (h1.push ob) (Obj.mapFields (·.setIfInBounds 1 (Value.ref h1.objs.size))) (Ne.symm ne)).trans (Heap.get?_push_size h1 (by obtain⟨_,_,dt,_⟩:=ob;cases hod;rfl));unfold setFlight;refine kS (wpAny_field he4 rfl (x:=.ref h1.objs.size) (by simp[hz1]) ?_);rw[if_pos (show(Value.ref h1.objs.size != Value.none)=true from by simp)];refine wpAny_setField hT4 hod hts ?_;rw[es];have keep:∀b o,b≠e->h1.get? b=some o->(((h1.push ob).update e (Obj.mapFields (·.setIfInBounds 1 (Value.ref h1.objs.size)))).update h1.objs.size (Obj.mapFields (·.setIfInBounds 3 ((none:Option Addr).elim Value.none λf=>rawInt f)))).get? b=some o:=λb o hb e1=>by rw[Heap.get?_update_other _ _ (Nat.ne_of_gt (SI e1)),Heap.get?_update_other _ _ (Ne.symm hb)];exact tu _ e1
  refine hq _ h1.objs.size ⟨vs1.setIfInBounds 1 (.ref h1.objs.size),sl,?_,by simpa using hz1,by simp[hz1],ne,_,_,Heap.get?_update_self _ hT4 (Obj.isFreed_of_fields (Obj.data_mapFields hod _)),Obj.data_mapFields hod _,by simp[hts]⟩ ?_ (λb o hb hbT hbf e1=>?_) λb o hb hbT e1=>?_
  . rw[Heap.get?_update_other _ _ ne];exact he4
  . rw[hs1.1,sz];exact SN _
  . exact keep b o hb ((hs1.2.1 b hbf).trans (kp b o hb hbT e1))
  . obtain⟨sl',e2⟩:=hs1.2.2 b o (kp b o hb hbT e1);exact⟨sl',keep b _ hb e2⟩
 unfold noteFrame;simp only[hf]
 cases T with
 | none =>
  refine kS (wpAny_field he rfl hT ?_);rw[if_neg (by decide)];exact entry s vs .none _ he hz hl (λ_ _ _ _ e1=>e1) rfl rfl
 | some t =>
  obtain⟨h1,hte,ot,ts,ht,hdt,h3⟩:=hT;refine kS (wpAny_field he rfl h1 ?_);rw[if_pos (show(Value.ref t != Value.none)=true from by simp)];refine kS (wpAny_field ht hdt h3 ?_);rw[if_neg (show ¬((Value.none == rawInt F)=true)from by simp[rawInt])];refine kS (wpAny_setField ht hdt (Array.getElem?_eq_some_iff.mp h3).1 ?_);have oth:∀b,b≠t->(s.heap.update t (Obj.mapFields (·.setIfInBounds 3 Value.none))).get? b=s.heap.get? b:=λb hb=>Heap.get?_update_other _ _ (Ne.symm hb);refine entry _ vs (.ref t) _ ((oth e (Ne.symm hte)).trans he) hz (hl.of_keeps λb o hb hnf=>⟨o,(oth b λq=>?_).trans hb,rfl⟩) (λb o hb hbT e1=>(oth b λq=>hbT (by rw[q])).trans e1) v6 rfl;rw[q,ht]at hb;cases hb;exact hnf ts hdt
theorem Mz{e T:Addr}{cls:Value}{dx:Option Addr}{Q:Unit->Shared->Prop}(fl:Qb s.heap e cls dx (some T))
  (hq:∀h',Qb h' e cls dx (some T)->(∀b o,b≠T->s.heap.get? b=some o->h'.get? b=some o)->Q () {s with heap:=h' }):wpAny (model prog w) A (setFlight (.ref e) none) Q E s:=by
 obtain⟨vs,sl,he,hz,h1,hte,ot,ts,ht,hdt,h3⟩:=fl;have hts:=(Array.getElem?_eq_some_iff.mp h3).1;unfold setFlight;refine kS (wpAny_field he rfl h1 ?_);rw[if_pos (show(Value.ref T != Value.none)=true from by simp)];refine wpAny_setField ht hdt hts (hq _ ⟨vs,sl,?_,hz,h1,hte,_,_,Heap.get?_update_self _ ht (Obj.isFreed_of_fields (Obj.data_mapFields hdt _)),Obj.data_mapFields hdt _,by simp[hts]⟩ λb o hb e1=>?_)
 . rw[Heap.get?_update_other _ _ hte];exact he
 . rw[Heap.get?_update_other _ _ (Ne.symm hb)];exact e1
end
noncomputable def Qa(H:Hp)(e:Addr):Hp:=λb=>if b=e then none else H b
theorem di{H:Hp}{e b:Addr}(h:b≠e):Qa H e b=H b:=by unfold Qa;rw[if_neg h]
theorem pA{H:Hp}{e:Addr}:Qa H e e=none:=by unfold Qa;rw[if_pos rfl]
theorem pC{H:Hp}{e b:Addr}(h:H b=none):Qa H e b=none:=by unfold Qa;split;rfl;exact h
section
variable{X:Cx}{gV:List (Addr×Obj)}{σ:St}{H:Hp}{s:Shared}
theorem Oq.forget{e:Addr}{φ:Heap->Prop}(I:Oq X gV σ H s)(h:H e=some (.ext φ)):Oq X gV σ (Qa H e) s:=by
 have ne:∀b o,H b=some o->(∀ψ,o≠.ext ψ)->b≠e:=λb o q n z=>by subst z;rw[h]at q;cases q;exact n _ rfl
 refine⟨I.ok,I.os,I.bare,⟨I.base.keep,I.base.slot,λb o e1 n hx=>pC (I.base.free b o e1 n hx),I.base.there,λb xs q=>?_,λb o u q=>?_,λb ps q=>?_⟩,I.loc,I.cell,pC I.free,λx c q=>(I.freeC x c q).imp pC fun⟨hf,o,z⟩=>⟨hf,o,by rw[di (ne c _ z λ_ q=>nomatch q)];exact z⟩,λp hp=>?_,λb u q=>?_,I.len⟩
 . have z:=I.base.tups b xs q;rw[di (ne b _ z λ_ q=>nomatch q)];exact z
 . have z:=I.base.frzs b o u q;rw[di (ne b _ z λ_ q=>nomatch q)];exact z
 . have z:=I.base.tbls b ps q;rw[di (ne b _ z λ_ q=>nomatch q)];exact z
 . obtain⟨a1,a2,a3⟩:=I.pin p hp;exact⟨a1,pC a2,a3⟩
 .
  have hb:b≠e:=λz=>by subst z;rw[pA]at q;cases q
  rw[di hb]at q;exact(I.hok b u q).stay (λc v _ z=>z) (λc z=>by rw[di (ne c _ z λ_ q=>nomatch q)];exact z) (λc xs z=>by rw[di (ne c _ z λ_ q=>nomatch q)];exact z) λc ob _ _ z=>by rw[di (ne c _ z λ_ q=>nomatch q)];exact z
end
def OC(o:HO):Prop:=LC o/\DE o
open Classical in
noncomputable def uY(H:Hp):Hp:=λb=>match H b with
 |some o=>if OC o then some o else none
 |none=>none
theorem je{H:Hp}{b:Addr}(h:H b=none):uY H b=none:=by unfold uY;rw[h]
theorem bQ{H:Hp}{b:Addr}{o:HO}(h:H b=some o)(v:OC o):uY H b=some o:=by unfold uY;rw[h];exact if_pos v
theorem HJ{H:Hp}{b:Addr}{o:HO}(h:uY H b=some o):H b=some o/\OC o:=by
 unfold uY at h;split at h
 .
  rename_i u e;split at h
  . rename_i v;cases h;exact⟨e,v⟩
  . cases h
 . cases h
theorem HK{H:Hp}{b:Addr}{o:HO}(h:H b=some o)(v:¬OC o):uY H b=none:=by unfold uY;rw[h];exact if_neg v
theorem dB.stayN{P:Program}{w:World}{H H':Hp}{h h':Heap}{a:Addr}:∀{o:HO},DE o->dB P w H h a o->(∀u,h.get? a=some u->h'.get? a=some u)->(∀b xs,H b=some (.tup xs)->H' b=some (.tup xs))->(∀b o q,u4 o q->H b=some (.frz o (.own b))->H' b=some (.frz o (.own b)))->dB P w H' h' a o
 |.lst xs,_,x,k,_,_=>by obtain⟨z,its,n,r,e⟩:=x;exact⟨z,its,n,r,k _ e⟩
 |.tup xs,_,x,k,_,_=>by obtain⟨z,its,r,ob,e,c⟩:=x;exact⟨z,its,r,ob,k _ e,c⟩
 |.dK kvs,_,x,k,_,_=>by obtain⟨z,y,vs,r,ob,es,ep,e,c⟩:=x;exact⟨z,y,vs,r,ob,es,ep,k _ e,c⟩
 | .dT kvs,_,x,k,ht,_=>by obtain⟨z,y,xs,r,ob,es,ep,e,c⟩:=x;exact⟨z,y,xs,Paired.mapP r λp q z=>⟨z.1,ht _ _ z.2.1,z.2.2⟩,ob,es,ep,k _ e,c⟩
 |.set S n,_,x,k,_,_=>by obtain⟨ob,es,ep,t,e,c⟩:=x;exact⟨ob,es,ep,t,k _ e,c⟩
 |.ins C dx fs,n,_,_,_,_=>n.elim
 |.own y,_,x,k,_,_=>by obtain⟨ob,e⟩:=x;exact⟨ob,k _ e⟩
 |.xd fs,_,x,k,_,_=>by obtain⟨mA,⟨od,es,ep,e,c⟩,r⟩:=x;exact⟨mA,⟨od,es,ep,k _ e,c⟩,r⟩
 |.rng lo hi,_,x,k,_,_=>by obtain⟨t,u,v,e⟩:=x;exact⟨t,u,v,k _ e⟩
 |.frz ob u,n,x,k,ht,hf=>by obtain⟨e,q⟩:=x;exact⟨k _ e,dB.stayN (o:=u) n q k ht hf⟩
 | .tbl t,_,x,k,_,hf=>by
  obtain⟨ps,e,tr,m⟩:=x
  exact⟨ps,k _ e,tr,λpos cv z=>let ⟨c',oc,a1,a2,a3⟩:=m pos cv z;⟨c',oc,a1,hf _ _ _ a3 a2,a3⟩⟩
 | .met f y,_,x,k,_,_=>by have e:h.get? a=some (PySem.W.methodObj (.ref f) (.ref y)):=x;exact(k _ e:h'.get? a=some (PySem.W.methodObj (.ref f) (.ref y)))
 |.ext φ,_,x,k,_,_=>by obtain⟨p,⟨o,e⟩,st⟩:=x;exact⟨st _ _ p k,⟨o,k _ e⟩,st⟩
theorem xl(xs:List V):OC (.tup xs):=⟨True.intro,True.intro⟩
theorem BS(q:Str):OC (.tbl q):=⟨True.intro,True.intro⟩
theorem pD(o:Obj)(y:Addr):OC (.frz o (.own y)):=⟨True.intro,True.intro⟩
section
variable{X:Cx}{gV:List (Addr×Obj)}{σ:St}{H H':Hp}{s s':Shared}
theorem Oq.hide(I:Oq X gV σ H s):FW X.prog X.w X.K X.mg X.base X.A X.stack s (uY H):=by have e0:=I.env0;refine⟨e0.frames,e0.mod,λb o e=>⟨(e0.bs b o e).1,je (e0.bs b o e).2⟩,e0.bsz,e0.funs,λb hb=>je (e0.frf b hb),λb o e=>?_,e0.bare,λx hx c P e=>bQ (e0.tbs x hx c P e) (BS _)⟩;obtain⟨e1,v⟩:=HJ e;exact dB.stayN v.2 (e0.hok b o e1) (λ_ z=>z) (λc xs z=>bQ z (xl xs)) λc ob _ _ z=>bQ z (pD ob c)
open Classical in
noncomputable def Qc(H H':Hp):Hp:=λb=>match H' b with
 |some o=>some o
 |none=>H b
theorem eK{b:Addr}{o:HO}(h:H' b=some o):Qc H H' b=some o:=by unfold Qc;rw[h]
theorem pE{b:Addr}(h:H' b=none):Qc H H' b=H b:=by unfold Qc;rw[h]
theorem Oq.unhide(I:Oq X gV σ H s)(ho:s'.os=s.os)(hg:AllBare s'.gens)(u:Un (Om X.stack) [] (uY H) H' s.heap s'.heap)(hok:Oh X.prog X.w H' s'.heap) :
  Oq X gV σ (Qc H H') s'/\(∀b o,H b=some o->Qc H H' b=some o)/\(∀b o,H' b=some o->uY H b=none->H b=none):=by
 have gone:∀b o,H b=some o->¬OC o->uY H b=none/\H' b=none:=λb o e v=>by
  have z:=HK e v
  obtain⟨ob,hb⟩:∃ob,s.heap.get? b=some ob:=by
   cases q:s.heap.get? b with
   |some ob=>exact⟨ob,rfl⟩
   | none =>
    exfalso
    cases o with
    |lst xs=>obtain⟨_,_,_,_,e⟩:=I.hok b _ e;rw[q]at e;cases e
    |tup xs=>exact v (xl xs)
    |dK kvs=>obtain⟨_,_,_,_,o,_,_,e,_⟩:=I.hok b _ e;rw[q]at e;cases e
    |dT kvs=>obtain⟨_,_,_,_,o,_,_,e,_⟩:=I.hok b _ e;rw[q]at e;cases e
    |set S n=>obtain⟨o,_,_,_,e,_⟩:=I.hok b _ e;rw[q]at e;cases e
    |ins C dx fs=>obtain⟨_,_,_,e,_⟩:=I.hok b _ e;rw[q]at e;cases e
    |own y=>obtain⟨_,e⟩:=I.hok b _ e;rw[q]at e;cases e
    |xd fs=>obtain⟨_,⟨_,_,_,e,_⟩,_⟩:=I.hok b _ e;rw[q]at e;cases e
    |rng lo hi=>obtain⟨_,_,_,e⟩:=I.hok b _ e;rw[q]at e;cases e
    |frz ob u=>obtain⟨e,_⟩:=I.hok b _ e;rw[q]at e;cases e
    |tbl t=>exact v (BS t)
    |met f y=>have e:=(show s.heap.get? b=some _ from I.hok b _ e);rw[q]at e;cases e
    |ext φ=>obtain⟨_,⟨_,e⟩,_⟩:=I.hok b _ e;rw[q]at e;cases e
  exact⟨z,u.free b ob hb z v6⟩
 have ext:∀b o,H b=some o->Qc H H' b=some o:=λb o e=>by
  by_cases v:OC o
  .
   have z:=bQ e v
   cases o with
   |tup xs=>exact eK (u.tups b xs z)
   |frz ob w=>exact eK (u.frzs b ob w z)
   |tbl t=>exact eK (u.tbls b t z)
   |_=>exact v.1.elim
  . rw[pE (gone b o e v).2];exact e
 have back:∀b o,H' b=some o->uY H b=none->H b=none:=λb o e z=>by
  cases q:H b with
  |none=>rfl
  | some o' =>
   by_cases v:OC o'
   . rw[bQ q v]at z;cases z
   . rw[(gone b o' q v).2]at e;cases e
 have hok2:Oh X.prog X.w (Qc H H') s'.heap:=λb o e=>by
  unfold Qc at e;split at e
  . rename_i o' q;cases e;exact(hok b _ q).stay (λc w _ z=>z) (λc z=>eK z) (λc xs z=>eK z) λc ob _ _ z=>eK z
  .
   rename_i q
   have nv:¬OC o:=λv=>by
    have z:=bQ e v
    cases o with
    |tup xs=>rw[u.tups b xs z]at q;cases q
    |frz ob w=>rw[u.frzs b ob w z]at q;cases q
    |tbl t=>rw[u.tbls b t z]at q;cases q
    |_=>exact v.1.elim
   have keepT:∀c o',H c=some o'->¬OC o'->∀w,s.heap.get? c=some w->s'.heap.get? c=some w:=λc o' e' v' w hw=>by refine u.keep c w hw (gone c o' e' v').1 (λhm=>?_) v6;have:=I.stkFree c hm;rw[e']at this;cases this
   refine(I.hok b o e).stay (λc w hc z=>?_) (λc z=>ext c _ z) (λc xs z=>ext c _ z) λc ob _ _ z=>ext c _ z;rcases hc with rfl|hc
   . exact keepT c o e nv w z
   . exact keepT c _ hc (λv=>v.1) w z
 refine⟨I.call' (ch:=[]) ho ⟨λb o e n hf hx=>u.keep b o e (je n) hf hx,λb o e n hf hx=>u.slot b o e (je n) hf hx,λb o e n hx=>?_,u.there,λb xs e=>ext b _ e,λb o w e=>ext b _ e,λb ps e=>ext b _ e⟩ hok2 hg (λb z=>absurd z v6),ext,back⟩;rw[pE (u.free b o e (je n) hx)];exact n
end
section
variable{K:Frag}{Pr H H':Hp}{σ:St}{Z:Ev}
theorem aA.exten(E:aA K Pr H σ Z)(h:∀b o,H b=some o->H' b=some o):aA K Pr H' σ Z :=
 ⟨λb o e=>h b o (E.sub b o e),E.nd,E.off,Paired.impMem E.sl λl hl s q=>q.pres (λb u _ e=>h b u e) l λa e=>by
  obtain⟨vs,e,_⟩:=E.at_own (dN.mpr ⟨l,hl,e⟩)
  rw[h _ _ e,e]⟩
end
mutual
theorem O8.hid{K:Frag}{H:Hp}:∀{v:V}{d:D},O8 K H v d->O8 K (uY H) v d
 |_,_,.non=>.non
 |_,_,.bl b=>.bl b
 |_,_,.int i=>.int i
 |_,_,.str x=>.str x
 | _,_,.tup h r=>.tup (by
   rcases h with(h|⟨o,h⟩)|h
   .
    exact .inl (.inl (bQ h (xl _)))
   .
    exact .inl (.inr ⟨o,bQ h ⟨True.intro,True.intro⟩⟩)
   .
    exact .inr h) (bM.hid r)
 | _,_,.lst h r=>.lst (by
   rcases h with⟨o,h⟩|h
   .
    exact .inl ⟨o,bQ h ⟨True.intro,True.intro⟩⟩
   .
    exact .inr h) (bM.hid r)
 |_,_,.dct h=>.dct (bQ h ⟨True.intro,True.intro⟩)
 | _,_,.exc h hv hc hn hs hq hf r=>.exc (bQ h ⟨True.intro,hv⟩) hv hc hn hs hq (by
   rcases hf with hf|⟨d,od,e,h,l⟩
   .
    exact .inl hf
   .
    exact .inr ⟨d,od,e,bQ h ⟨True.intro,True.intro⟩,l⟩) (bM.hid r)
 |_,_,.fn hl hf hq hc hz hd hv hm r=>.fn hl (bQ hf (pD _ _)) (bQ hq (pD _ _)) hc (bQ hz (pD _ _)) hd hv hm (O8.hid r)
 |_,_,.dk h r=>.dk (bQ h ⟨True.intro,True.intro⟩) (bM.hid r)
 |_,_,.gf h ho hk=>.gf h ho hk
theorem bM.hid{K:Frag}{H:Hp}:∀{vs:List V}{ds:List D},bM K H vs ds->bM K (uY H) vs ds
 |_,_,.nil=>.nil
 |_,_,.cons h t=>.cons (O8.hid h) (bM.hid t)
end
theorem MA:typeOf (.type "ValueError")=pure (.type "type"):=kitMeta_of y_
theorem MB:Manifest.isStub "ValueError"=false:=by decide +kernel
theorem MC:handedIn (.builtin "ValueError.__init__")=true:=by decide +kernel
theorem BU(K:Frag):findCls K (.type "ValueError") (.type "type") "__init__"=some (.val (.builtin "ValueError.__init__")):=by kernel_rfl
theorem Qb.at{h h':Heap}{e:Addr}{cls:Value}{dx:Option Addr}(f:Qb h e cls dx none)(k:∀o,h.get? e=some o->h'.get? e=some o):Qb h' e cls dx none:=by obtain⟨vs,sl,he,hz,h1⟩:=f;exact⟨vs,sl,k _ he,hz,h1⟩
noncomputable def XO(e:Addr)(cls:Value)(dx:Option Addr):HO:=.ext λh=>Qb h e cls dx none
noncomputable def XD(d:Addr)(fs:List (Str×V)):HO:=.ext λh=>∃mA,h.Ns1 d mA/\(∀f,wM (fs.lookup f) (mA f))/\PySem.Within mA (fs.map (·.1))
theorem XO.ok{P:Program}{w:World}{H:Hp}{h:Heap}{e:Addr}{cls:Value}{dx:Option Addr}(f:Qb h e cls dx none):dB P w H h e (XO e cls dx):=by obtain⟨vs,sl,he,hz,h1⟩:=f;exact⟨⟨vs,sl,he,hz,h1⟩,⟨_,he⟩,λh1 h2 p k=>p.at k⟩
theorem XD.ok{P:Program}{w:World}{H:Hp}{h:Heap}{d:Addr}{fs:List (Str×V)}{mA:Str->Option Value}(n:h.Ns1 d mA)(r:∀f,wM (fs.lookup f) (mA f))(wi:PySem.Within mA (fs.map (·.1))):dB P w H h d (XD d fs) :=
 ⟨⟨mA,n,r,wi⟩,let ⟨o,_,_,e,_⟩:=n;⟨o,e⟩,λh1 h2 ⟨mA,n,r⟩ k=>⟨mA,n.at k,r⟩⟩
theorem KF{H:Hp}{a:Addr}{o:HO}(h:H a=some o):Og H a o=H:=by
 funext b;unfold Og;split
 . rename_i e;rw[e,h]
 . rfl
section
variable{X:Cx}{gV:List (Addr×Obj)}{σ:St}{H:Hp}{s:Shared}
theorem Oq.xo{e:Addr}{cls:Value}{dx:Option Addr}(I:Oq X gV σ H s)(h:H e=some (XO e cls dx)):Qb s.heap e cls dx none:=(I.hok e _ h).1
theorem Oq.xd{d:Addr}{fs:List (Str×V)}(I:Oq X gV σ H s)(h:H d=some (XD d fs)):∃mA,s.heap.Ns1 d mA/\(∀f,wM (fs.lookup f) (mA f))/\PySem.Within mA (fs.map (·.1)):=(I.hok d _ h).1
theorem Qb.inst{h:Heap}{e C:Addr}{dx T:Option Addr}(f:Qb h e (.ref C) dx T)(hd:∀d,dx=some d->∃o,h.get? d=some o):∃vs sl od,InstAt h e ⟨.ref C,dx,.fields vs,sl⟩ C od/\1<vs.size:=by
 obtain⟨vs,sl,he,hz,_⟩:=f
 cases dx with
 |none=>exact⟨vs,sl,none,⟨he,rfl,rfl,trivial⟩,hz⟩
 | some d =>
  obtain⟨o,ho⟩:=hd d rfl;exact⟨vs,sl,some o,⟨he,rfl,rfl,ho⟩,hz⟩
end
section
variable{X:Cx}{a b:Expr}{p1 p2 pos:Pos}{t:TA}
def yR(K:Frag)(t:TA):TE:=λσ H Q=>t σ H λvs H1=>∃e tx c C L cd,vs=[.ref e,tx]/\H1 e=some (XO e (.ref C) none)/\rF K c C L cd/\Q .non H1
theorem El{pl:Sem Bool} (hg:Gl X "ValueError") (hm:X.mg "ValueError"=none) (ha:PA X [a,b] t) (hs:starEach [a,b] X.env=(false,eval a X.env)::starEach [b] X.env:=by rfl) (hpl:(backTo pos (starEach [b] X.env)).any (·.1)=false:=by rfl)
  (ht:eval (.Call (.Attribute (.Name "ValueError" p1) "__init__" p2) [a,b] [] pos) X.env=(do
   let ov <- eval (.Name "ValueError" p1) X.env
   standAt p2.atName
   let (f,first) <- holding [ov] (getMethod ov "__init__" pl)
   callWith pos f first (backTo pos (starEach [a,b] X.env)) (backToKw pos (keywordEach [] X.env))):=by rfl) :
  PE X (.Call (.Attribute (.Name "ValueError" p1) "__init__" p2) [a,b] [] pos) (yR X.K t):=by
 intro gV s σ H Q I h;refine methodCall_KW (iJ I hg hm (show bootBuiltins "ValueError"=some (.type "ValueError") by decide +kernel) ?_) ht;obtain⟨m,F⟩:=I.fr;have k4:=BU X.K;refine @method_type _ _ _ _ _ X.K _ _ _ _ _ _ _ _ F I.ok.mod.kin MA MB k4 MC ?_;have I1:=I.tok (s.toks+1);have hA:=ha pos gV _ σ H _ I1 h;rw[hs]at hA ⊢;refine Calls.callWith_builtin (by show(false ||(backTo pos (starEach [b] X.env)).any (·.1))=false;rw[hpl]<;>rfl) (Calls.evalArgs_plain (Ot hA λus s2 ⟨vs,H2,I2,r,e,tx,c,C,L,cd,ev,he,S,q⟩=>?_));subst ev;obtain⟨u1,u2,rfl,r1,r2⟩:=Dx r;cases r1;obtain⟨vs,sl,od,Ia,hz⟩:=(I2.xo he).inst (λd z=>nomatch z);refine Mo S I2.kIn Ia rfl xL λt'=>⟨.non,H2,?_,rfl,q⟩;have hx1:=tu (h:=s2.heap) {cls:=.type "tuple",data:=.seq #[u2] } Ia.at_;have z:=I2.write (x:=e) (e:=e) (o:=XO e (.ref C) none) (h':=(s2.heap.push {cls:=.type "tuple",data:=.seq #[u2] }).update e (Obj.mapFields (·.setIfInBounds 0 (.ref s2.heap.objs.size)))) (t':=t') (by rw[he]; exact True.intro) (.inl rfl) (λb u hb e1=>(Heap.get?_update_other _ _ (Ne.symm hb)).trans (tu _ e1)) ⟨_,Heap.get?_update_self _ hx1 rfl⟩ (XO.ok ?_)
 . rw[KF he]at z;exact z
 . obtain⟨vs',sl',he',hz',h1'⟩:=I2.xo he;have e2:=Ia.at_.symm.trans he';cases e2;refine⟨vs.setIfInBounds 0 (.ref s2.heap.objs.size),sl,Heap.get?_update_self _ hx1 rfl,by simpa using hz',?_⟩;show(vs.setIfInBounds 0 _)[1]?=some .none;rw[Array.getElem?_setIfInBounds_ne x_];exact h1'
noncomputable def LP(K:Frag):Sp:=λvs H Q _=>∃e tx c C L cd,vs=[.ref e,tx]/\H e=some (XO e (.ref C) none)/\rF K c C L cd/\Q .non H
structure BV (K:Frag) (mg:Str->Option Value) (L fL:Addr) (fd:FuncData) (st:Stmt):Prop where
 m:mg "LoadError"=some (.ref L)
 rd:readsIn K L (.type "type")=true
 sg:specialIn K (.ref L) "__getattribute__"=some (some (.builtin "type.__getattribute__"))
 fc:findCls K (.ref L) (.type "type") "__init__"=some (.val (.ref fL))
 f:O6 K "__init__" "LoadError.__init__" st fL fd
 b:oX K fd ["self","text"] []
theorem Em{pl:Sem Bool}{k L fL:Addr}{fd:FuncData}{st:Stmt}(T:BV X.K X.mg L fL fd st) (F:FnOk X.prog X.w X.K X.mg X.base CX0 k fL fd ["self","text"] (LP X.K)) (hr:k9 k X.A) (hg:Gl X "LoadError") (ha:PA X [a,b] t)
  (hs:starEach [a,b] X.env=(false,eval a X.env)::starEach [b] X.env:=by rfl) (hpl:(backTo pos (starEach [b] X.env)).any (·.1)=false:=by rfl)
  (ht:eval (.Call (.Attribute (.Name "LoadError" p1) "__init__" p2) [a,b] [] pos) X.env=(do
   let ov <- eval (.Name "LoadError" p1) X.env
   standAt p2.atName
   let (f,first) <- holding [ov] (getMethod ov "__init__" pl)
   callWith pos f first (backTo pos (starEach [a,b] X.env)) (backToKw pos (keywordEach [] X.env))):=by rfl) :
  PE X (.Call (.Attribute (.Name "LoadError" p1) "__init__" p2) [a,b] [] pos) (yR X.K t):=by
 intro gV s σ H Q I h;refine methodCall_KW (k8 I hg T.m ?_) ht;refine method_cls I.kIn T.sg (cls_read I.kIn T.rd T.fc (SG ?_));have k3:handedIn (.ref fL)=true:=rfl;show wpAny _ _ (handedOut (.ref fL)) _ _ _;rw[handedOut_of k3];refine SG ?_;have I1:=I.tok (s.toks+1);refine callWith_K (h₀:=X.base) I.ok.mod.kin T.f.kp (Ot (ha pos gV _ σ H _ I1 h) λus s1 ⟨vs,H1,I2,r,q⟩=>⟨I2.kIn,?_⟩) hs hpl;refine A3 F hr T.b .nil GP I2 r ?_;rw[List.append_nil];exact q
def KG(K:Frag)(ta tv:TE)(f:Str):TS:=λD σ H=>tv σ H λy H1=>ta σ H1 λx H2=>∃e c C L cd,x=.ref e/\rF K c C L cd/\findIn K (.ref C) f=some none /\
 ((H2 e=some (XO e (.ref C) none)/\∀d,H2 d=none->d≠e->D.nx σ (Og (Og H2 d (XD d [(f,y)])) e (XO e (.ref C) (some d)))) ∨
  ∃d fs,H2 e=some (XO e (.ref C) (some d))/\H2 d=some (XD d fs)/\fs.lookup f=none/\fs.length<=900/\D.nx σ (Og H2 d (XD d (fs++[(f,y)]))))
theorem sP{α:Type}{f g:Str}{y:α}:∀{fs:List (Str×α)},fs.lookup f=none->(fs++[(f,y)]).lookup g=if g=f then some y else fs.lookup g
 | [],_=>by
  by_cases h:g=f
  . subst h;simp
  . have:(g == f)=false:=beq_eq_false_iff_ne.mpr h;simp[List.lookup,this,h]
 | (k,v)::fs,h=>by
  have h':(f == k)=false/\fs.lookup f=none:=by
   cases e:(f == k)with
   |true=>simp[List.lookup,e]at h
   |false=>exact⟨rfl,by simpa[List.lookup,e]using h⟩
  have ih:=sP (g:=g) (y:=y) h'.2
  cases e:(g == k)with
  | true =>
   have:g≠f:=λz=>by subst z;rw[h'.1]at e;cases e
   simp[List.lookup,e,this]
  | false =>
   simp only[List.cons_append,List.lookup,e];exact ih
theorem HL{o value:Expr}{f:Str}{pos':Pos}{ta tv:TE}(ha:PE X o ta)(hv:PE X value tv)(hs:swapsWith value (some (.Attribute o f pos')) pos.line X.env=pure false:=by rfl):PS X (.Assign [.Attribute o f pos'] value pos) (KG X.K ta tv f):=by
 intro gV s σ H D I h;refine plainObj_wpAny_Assign_Attribute (Ot (hv gV s σ H _ I h) λu s1 ⟨y,H1,I1,ry,q⟩=>Ot (ha gV s1 σ H1 _ I1 q) λov s2 ⟨x,H2,I2,rx,e,c,C,L,cd,ex,S,hf,q2⟩=>?_) hs;subst ex;obtain rfl:ov=Value.ref e:=rx;rcases q2 with⟨he,q2⟩|⟨d,fs,he,hd,hl,hz,q2⟩
 .
  obtain⟨vs,sl,od,Ia,hz⟩:=(I2.xo he).inst (λd z=>nomatch z);have dn:H2 s2.heap.objs.size=none:=I2.hok.fresh (SN _);have dne:s2.heap.objs.size≠e:=Nat.ne_of_gt (SI Ia.at_);refine DI S I2.kIn Ia rfl hf λh' tk e1 n1 k1=>⟨σ,_,?_,q2 s2.heap.objs.size dn dne⟩
  have hd1:dB X.prog X.w (Og (Og H2 s2.heap.objs.size (XD s2.heap.objs.size [(f,y)])) e (XO e (.ref C) (some s2.heap.objs.size))) h' s2.heap.objs.size (XD s2.heap.objs.size [(f,y)]):=by
   refine XD.ok n1 (λg=>?_) λg hg=>?_
   .
    by_cases z:g=f
    . subst z;simp[wM,ry]
    . have:(g == f)=false:=beq_eq_false_iff_ne.mpr z;simp[List.lookup,this,z,wM]
   .
    by_cases z:g=f
    . simp[z]
    . simp[z]at hg
  obtain⟨vs0,sl0,he0,hz0,h10⟩:=I2.xo he;have e2:=Ia.at_.symm.trans he0;cases e2;have ho1:dB X.prog X.w (Og (Og H2 s2.heap.objs.size (XD s2.heap.objs.size [(f,y)])) e (XO e (.ref C) (some s2.heap.objs.size))) h' e (XO e (.ref C) (some s2.heap.objs.size)):=XO.ok ⟨vs,sl,e1,hz0,h10⟩;have tr:∀b o,H2 b=some o->b≠e->Og (Og H2 s2.heap.objs.size (XD s2.heap.objs.size [(f,y)])) e (XO e (.ref C) (some s2.heap.objs.size)) b=some o:=λb o q hb=>by rw[aD hb,aD (bq q dn)];exact q
  have nx:∀b o,H2 b=some o->(∀ψ,o≠.ext ψ)->b≠e:=λb o q n z=>by subst z;rw[he]at q;cases q;exact n _ rfl
  refine I2.un ⟨λb o hb n _ _=>k1 b o (λz=>by subst z;rw[he]at n;cases n) hb,λb o hb n _ _=>⟨o.slots,k1 b o (λz=>by subst z;rw[he]at n;cases n) hb⟩,λb o hb n _=>?_,λb o hb _=>?_,λb xs q=>tr b _ q (nx b _ q λ_ z=>nomatch z),λb o' u' q=>tr b _ q (nx b _ q λ_ z=>nomatch z),λb ps q=>tr b _ q (nx b _ q λ_ z=>nomatch z)⟩ λb o q=>?_
  . rw[aD (λz=>by subst z;rw[he]at n;cases n),aD (Nat.ne_of_lt (SI hb))];exact n
  .
   by_cases z:b=e
   . subst z;exact⟨_,e1⟩
   . exact⟨o,k1 b o z hb⟩
  .
   by_cases hb:b=e
   . subst hb;rw[aY]at q;cases q;exact ho1
   .
    by_cases hb2:b=s2.heap.objs.size
    . subst hb2;rw[aD hb,aY]at q;cases q;exact hd1
    .
     rw[aD hb,aD hb2]at q;refine(I2.hok b o q).stay (λc v hc z=>k1 c v ?_ z) (λc z=>tr c _ z (nx c _ z λ_ z=>nomatch z)) (λc xs z=>tr c _ z (nx c _ z λ_ z=>nomatch z)) λc ob _ _ z=>tr c _ z (nx c _ z λ_ z=>nomatch z);rcases hc with rfl|hc
     . exact hb
     . exact nx c _ hc λ_ z=>nomatch z
 .
  obtain⟨mA,nA,rA,wA⟩:=I2.xd hd;obtain⟨od,_,_,hod,_⟩:=id nA;obtain⟨vs,sl,od',Ia,hz'⟩:=(I2.xo he).inst (λd' z=>by cases z;exact⟨od,hod⟩);refine DJ S I2.kIn Ia rfl nA wA (by rw[SH];omega) hf λh' tk n1 sb=>⟨σ,_,?_,q2⟩
  refine I2.write (x:=d) (e:=d) (by rw[hd];exact True.intro) (.inl rfl) (λb u hb e1=>(sb.2 b hb).trans e1) (let ⟨o,_,_,e1,_⟩:=n1;⟨o,e1⟩) (XD.ok n1 (λg=>?_) λg hg=>?_)
  .
   rw[sP hl];by_cases z:g=f
   . subst z;simp[wM,ry]
   . rw[if_neg z,if_neg z];exact rA g
  .
   by_cases z:g=f
   . subst z;simp
   . rw[if_neg z]at hg;have:=wA g hg;simp at this ⊢;exact .inl this
end
def Qd(K:Frag):TS:=GG (yR K (zE (GD 0) (zE (GD 1) Lz)))
theorem HM{K:Frag}{vs:List V}{H:Hp}{Q:VK}{E:XK}{a b:Str}(h:LP K vs H Q E):Qd K {nx:=λ_ H'=>Q .non H',rt:=Q} (oY [a,b] vs) H:=by obtain⟨e,tx,c,C,L,cd,rfl,he,S,q⟩:=h;exact⟨_,rfl,_,rfl,e,tx,c,C,L,cd,rfl,he,S,q⟩
structure Xc where
 c:Str
 ns:List Str
 ds:List D
def Do(K:Frag)(H:Hp)(cls:Value)(dx:Option Addr)(x:Xc):Prop:=∃C vs,cls=.ref C/\km K x.c C=true/\(∀f∈x.ns,findIn K (.ref C) f=some none)/\XF H dx x.ns vs/\bM K H vs x.ds
theorem Do.ext{K:Frag}{H H':Hp}{cls:Value}{dx:Option Addr}{x:Xc}(f:Do K H cls dx x)(h:∀b o,H b=some o->H' b=some o):Do K H' cls dx x:=by obtain⟨C,vs,e,s,fq,a,r⟩:=f;exact⟨C,vs,e,s,fq,a.pres λb o _ q=>h b o q,r.pres λb o _ q=>h b o q⟩
noncomputable def Qe(P:Program)(w:World):OQ:=λouter H s E e s'=>∃a cls dx T H',e=.ref a/\s'.os=s.os/\AllBare s'.gens/\Un (Om outer) [] H H' s.heap s'.heap/\Oh P w H' s'.heap/\Qb s'.heap a cls dx (some T)/\H' a=none/\H' T=none /\
 s.heap.objs.size<=a/\s.heap.objs.size<=T/\E cls dx H'
section
variable{X:Cx}{gV:List (Addr×Obj)}{σ:St}{H:Hp}{s:Shared}
theorem Oh.there{P:Program}{w:World}{H:Hp}{h:Heap}(x:Oh P w H h){b:Addr}{o:HO}(e:H b=some o):∃u,h.get? b=some u:=by
 have lt:=x.lt e
 cases o with
 |lst xs=>obtain⟨_,_,_,_,e⟩:=x b _ e;exact⟨_,e⟩
 |tup xs=>obtain⟨_,_,_,o,e,_⟩:=x b _ e;exact⟨_,e⟩
 |dK kvs=>obtain⟨_,_,_,_,o,_,_,e,_⟩:=x b _ e;exact⟨_,e⟩
 |dT kvs=>obtain⟨_,_,_,_,o,_,_,e,_⟩:=x b _ e;exact⟨_,e⟩
 |set S n=>obtain⟨o,_,_,_,e,_⟩:=x b _ e;exact⟨_,e⟩
 |ins C dx fs=>obtain⟨_,_,_,e,_⟩:=x b _ e;exact⟨_,e⟩
 |own y=>obtain⟨_,e⟩:=x b _ e;exact⟨_,e⟩
 |xd fs=>obtain⟨_,⟨_,_,_,e,_⟩,_⟩:=x b _ e;exact⟨_,e⟩
 |rng lo hi=>obtain⟨_,_,_,e⟩:=x b _ e;exact⟨_,e⟩
 |frz ob u=>obtain⟨e,_⟩:=x b _ e;exact⟨_,e⟩
 |tbl t=>obtain⟨_,e,_⟩:=x b _ e;exact⟨_,e⟩
 |met f y=>exact⟨_,(show h.get? b=some _ from x b _ e)⟩
 |ext φ=>obtain⟨_,⟨_,e⟩,_⟩:=x b _ e;exact⟨_,e⟩
structure Qf (X:Cx) (gV:List (Addr×Obj)) (b:Addr):Prop where
 s0:X.s₀.heap.objs.size<=b
 loc:b≠X.env.locals
 cel:∀x c,X.env.cells.lookup x=some c->c≠b
 pin:∀p∈X.pn++gV,p.1≠b
theorem Oq.newer(I:Oq X gV σ H s){b:Addr}(h:s.heap.objs.size<=b):Qf X gV b:=by
 refine⟨SJ I.sz h,λz=>?_,λx c e z=>?_,λp hp z=>?_⟩
 . have:=I.lt;rw[<- z]at this;exact absurd this (Nat.not_lt.mpr h)
 . obtain⟨v,o,ho,_⟩:=I.cell x c e;have:=SI ho;rw[z]at this;exact absurd this (Nat.not_lt.mpr h)
 . have:=SI (I.pin p hp).1;rw[z]at this;exact absurd this (Nat.not_lt.mpr h)
structure yS (X:Cx) (gV:List (Addr×Obj)) (H:Hp) (s:Shared) (a:Addr) (cls:Value) (dx T:Option Addr):Prop where
 fly:Qb s.heap a cls dx T
 na:H a=none
 nt:∀t,T=some t->H t=none
 wa:Qf X gV a
 wt:∀t,T=some t->Qf X gV t
def Qg(X:Cx)(xp:Xc->Prop):Prop:=∀(gV:List (Addr×Obj))(σ:St)(H:Hp)(s:Shared)(a:Addr)(cls:Value)(dx T:Option Addr)(x:Xc),Oq X gV σ H s->yS X gV H s a cls dx T->Do X.K H cls dx x->xp x->X.xe (.ref a) s
end
theorem HN{P:Program}{w:World}{K:Frag}{mg:Str->Option Value}{base:Heap}{N:List Str}{qual:Str}{scope:Scope}{f:Addr}{cd:Value}{A:Around}{outer:List Env}{s:Shared}{H:Hp}{E:XK}{xp:Xc->Prop}
  (h:∀cls dx H' x,Do K H' cls dx x->xp x->E cls dx H'):Qg (Dz (Qe P w) P w K mg base N qual scope f cd A outer s H E) xp:=by
 intro gV σ H1 s1 a cls dx T x I R F q;show wpAny (model P w) _ (leaving _ (.ref a)) _ _ s1;unfold leaving;have hl:=I.stack;refine kS (KD (F:=s.heap.objs.size) I.ok.frames hl rfl R.fly λh' T' fl hT k1 k2=>?_);have neL:∀b o,s.heap.get? b=some o->b≠s.heap.objs.size:=λb o e=>Nat.ne_of_lt (SI e);have neA:∀b o,s.heap.get? b=some o->b≠a:=λb o e=>Nat.ne_of_lt (SD (SI e) R.wa.s0);have neT:∀b o,s.heap.get? b=some o->some b≠T:=λb o e z=>absurd (SI e) (Nat.not_lt.mpr (R.wt b z.symm).s0);have tra:∀b o,H1 b=some o->b≠a/\some b≠T/\b∉Om (envOfC qual scope s.heap.objs.size f cd::outer):=λb o e=>by refine⟨λz=>(by subst z;rw[R.na]at e;cases e),λz=>(by rw[R.nt b z.symm]at e;cases e),λz=>?_⟩;have:=I.stkFree b z;rw[e]at this;cases this
 refine⟨a,cls,dx,T',H1,rfl,I.os,I.bare,⟨λb o e n hf hx=>?_,λb o e n hf hx=>?_,λb o e n hx=>I.base.free b o e n hx,λb o e hx=>?_,I.base.tups,I.base.frzs,I.base.tbls⟩,λb o e=>?_,fl,R.na,?_,R.wa.s0,SJ I.sz hT,h cls dx H1 x F q⟩
 .
  refine k1 b o (neA b o e) (neT b o e) (λhm=>?_) (I.base.keep b o e n hf hx);rcases SK.mp (show b∈s.heap.objs.size::Om outer from hm)with z|z
  . exact neL b o e z
  . exact hf z
 . obtain⟨sl,e1⟩:=I.base.slot b o e n hf hx;obtain⟨sl',e2⟩:=k2 b _ (neA b o e) (neT b o e) e1;exact⟨sl',e2⟩
 . obtain⟨o',e1⟩:=I.base.there b o e hx;obtain⟨sl',e2⟩:=k2 b _ (neA b o e) (neT b o e) e1;exact⟨_,e2⟩
 .
  refine(I.hok b o e).stay (λc v hc z=>?_) (λ_ z=>z) (λ_ _ z=>z) λ_ _ _ _ z=>z
  have ht:∃o',H1 c=some o':=by
   rcases hc with rfl|hc
   . exact⟨o,e⟩
   . exact⟨_,hc⟩
  obtain⟨o',ho'⟩:=ht;obtain⟨t1,t2,t3⟩:=tra c o' ho';exact k1 c v t1 t2 t3 z
 . exact I.hok.fresh hT
abbrev Qh:=List D->(L->Prop)->(Xc->Prop)->Prop
noncomputable def Qi(K:Frag)(n:Nat)(fs:Qh):Sp:=λvs H Q E=>vs.length=n/\∃ds p4 xp,bM K H vs ds/\fs ds p4 xp/\(∀v H' r,aA K H H' [some v] [r]->p4 r->Q v H')/\∀cls dx H' x,Do K H' cls dx x->xp x->E cls dx H'
theorem aA.ds{K:Frag}{H:Hp}:∀{vs:List V}{ds:List D},bM K H vs ds->Paired (bI K H) (vs.map some) (ds.map .d)
 |_,_,.nil=>.nil
 |_,_,.cons h t=>.cons ⟨_,rfl,h⟩ (aA.ds t)
section
variable{X:Cx}{k n:Nat}{f:Addr}{fd:FuncData}{ps:List Str}{fs:Qh}{p:Pos}{e:Expr}{t:W (List L)}{xp:Xc->Prop}
theorem MD{gV:List (Addr×Obj)}{σ:St}{H Pr:Hp}{s:Shared}{Z:Ev}{us:List Value}{vs:List V}{ds:List D}{p4:L->Ev->Prop}{Ex:Value->Shared->Prop}(F:FnOk X.prog X.w X.K X.mg X.base (Qe X.prog X.w) k f fd ps (Qi X.K n fs))(hr:k9 k X.A)(hb:oX X.K fd ps [])(hl:vs.length=n)
  (I:Oq X gV σ H s) (E:aA X.K Pr H σ Z) (r:bZ vs us) (rs:bM X.K H vs ds) (h:fs ds (λr=>p4 r Z) xp)
  (hx:∀(s':Shared)(H':Hp)(a:Addr)(cls:Value)(dx T:Option Addr)(y:Xc),Oq X gV σ H' s'->aA X.K Pr H' σ Z->yS X gV H' s' a cls dx T->Do X.K H' cls dx y->xp y->Ex (.ref a) s') :
  wpAny (model X.prog X.w) X.A (call (.ref f) us) (EL X gV σ Pr p4) Ex s:=by
 have hsp:Qi X.K n fs vs (uY H) (λv H'=>∃r,aA X.K (uY H) H' [some v] [r]/\p4 r Z) (λcls dx H'=>∃y,Do X.K H' cls dx y/\xp y) :=
  ⟨hl,ds,_,xp,rs.hid,h,λv H' r E1 p=>⟨r,E1,p⟩,λcls dx H' y q1 q2=>⟨y,q1,q2⟩⟩
 have hl':us.length=ps.length:=by rw[<- r.length];exact F.len _ _ _ _ hsp
 have bt:=hb s us I.kIn (by rw[List.append_nil];exact hl');rw[List.append_nil]at bt;refine wpAny_call (codeAny_mono (F.run X.A X.stack s (uY H) ⟨us,[]⟩ us vs _ _ hr I.hide bt r hsp) λres s' hq=>?_)
 cases res with
 | error e =>
  obtain⟨a,cls,dx,T,H',rfl,os,bare,un,hok,fl,na,nt,za,zt,y,q1,q2⟩:=hq;obtain⟨I2,ext,back⟩:=I.unhide os bare un hok;refine hx s' _ a cls dx (some T) y I2 (E.exten ext) ⟨fl,?_,λt et=>?_,I.newer za,λt et=>by cases et;exact I.newer zt⟩ (q1.ext λb o q=>eK q) q2
  . rw[pE na];exact I.hok.fresh za
  . cases et;rw[pE nt];exact I.hok.fresh zt
 | ok fl =>
  cases fl with
  | ret u =>
   obtain⟨v,H',os,bare,un,hok,rv,r,E2,p⟩:=hq;obtain⟨I2,ext,back⟩:=I.unhide os bare un hok;have E3:=E.exten ext
   have fr:∀a∈bR r,H a=none/\∃vs,H' a=some vs/\GQ vs:=λa ha=>by
    have ha':a∈owns [r]:=by rw[aI];exact List.mem_append_left _ ha
    obtain⟨vs',e1,m1⟩:=E2.at_own ha';exact⟨back a _ e1 (E2.off a ha'),vs',e1,m1⟩
   refine⟨v,_,r,Z,I2,rv,⟨E3.sub,?_,λa ha=>?_,.cons ?_ E3.sl⟩,p⟩
   . rw[aI];have n1:=E2.nd;rw[aI]at n1;refine List.nodup_append.mpr ⟨(List.nodup_append.mp n1).1,E3.nd,λa ha b hb z=>?_⟩;subst z;obtain⟨vs',e1,_⟩:=E.at_own hb;rw[(fr a ha).1]at e1;cases e1
   .
    rw[aI]at ha;rcases List.mem_append.mp ha with z|z
    .
     cases q:Pr a with
     |none=>rfl
     |some o=>have:=E.sub a o q;rw[(fr a z).1]at this;cases this
    . exact E3.off a z
   .
    have sl:=E2.sl
    cases sl with
    | cons q t =>
     exact q.pres (λb o _ e=>eK e) r λa ha=>by obtain⟨_,vs',e1,_⟩:=fr a ha;rw[eK e1,e1]
  |next=>exact False.elim hq
  |brk=>exact False.elim hq
  |cont=>exact False.elim hq
structure XT (K:Frag) (mg:Str->Option Value) (c:Str) (C fI:Addr) (fd:FuncData) (ps:List Str) (ns:List Str):Prop where
 m:mg c=some (.ref C)
 s:km K c C=true
 mkx:P9 K C fI
 b:oX K fd ps []
 kp:PySem.W.keepIn K (.ref C)=true
 fn:∀f∈ns,findIn K (.ref C) f=some none
end
def Qj(p4:L->Prop):Fl->Ev->Prop:=λf _=>match f with
 |.rt r=>p4 r
 |.nx=>p4 (.d .non)
 |_=>False
theorem KH{P:Program}{w:World}{K:Frag}{mg:Str->Option Value}{base:Heap}{x qual:Str}{st:Stmt}{f:Addr}{fd:FuncData}{N ps:List Str}{k:Nat}{fs:Qh}(F:O6 K x qual st f fd)(S:aG N ps (ao st))(t:(Xc->Prop)->W Fl)
  (hbody:∀(cdv:Value)(A:Around)(outer:List Env)(s:Shared)(H:Hp)(E:XK)(xp:Xc->Prop),k9 k (A.deeper (envOfC qual (ao st) s.heap.objs.size f cdv))->(∀cls dx H' y,Do K H' cls dx y->xp y->E cls dx H') ->
   Pa (Dz (Qe P w) P w K mg base N qual (ao st) f cdv A outer s H E) (eR st) (t xp))
  (h:∀ds p4 xp,ds.length=ps.length->fs ds p4 xp->t xp (ds.map .d++List.replicate (N.length-ps.length) .un) (Qj p4)):FnOk P w K mg base (Qe P w) (k+1) f fd ps (Qi K ps.length fs):=by
 obtain⟨oc,od,kV,doc,pm,an,cdv,ct,osl,rfl,lk,hcd⟩:=F.ex;refine JN lk hcd S (λvs H Q E q=>q.1) λA outer s H vs Q E hr q=>?_;obtain⟨hl,ds,p4,xp,rs,hf,q1,q2⟩:=q;have E0:aA K H H (vs.map some) (ds.map .d):=⟨λ_ _ e=>e,by rw[Bi];exact List.nodup_nil,λa ha=>(by rw[Bi]at ha;simp at ha),aA.ds rs⟩;refine⟨_,(hbody cdv A outer s H E xp hr q2).pss,H,ds.map .d++List.replicate (N.length-ps.length) .un,Qj p4,?_,h ds p4 xp (by rw[<- rs.length];exact hl) hf,λσ' H' Z' E' p=>?_,λ_ _ _ _ p=>p.elim,λ_ _ _ _ p=>p.elim,λv τ H' r Z' E' p=>?_⟩
 . unfold oY;rw[hl];exact E0.uns _
 . exact q1 .non H' (.d .non) ((⟨E'.sub,List.nodup_nil,λa ha=>(by simp[owns]at ha),.nil⟩:aA K H H' [] []).cons_d .non) p
 . exact q1 v H' r (aA.left (τ:=[some v]) (lam:=[r]) E' rfl) p
noncomputable def Qk(c y:Str):Bool:=c == y ||c == ("LoadError" : Str)
structure XH (K:Frag) (mg:Str->Option Value) (c:Str) (C:Addr):Prop where
 m:mg c=some (.ref C)
 ns:nsIn K mainGlobals c=some (some (.ref C))
 cls:∃cd,clsIn K C=some cd/\cd.name=c
 ty:typeIn K (.ref C)=some (.type "type")
 base:mroIn K C (.type "BaseException")=some true
section
variable{K:Frag}{mg:Str->Option Value}{c y:Str}{C D:Addr}
theorem XH.sub(T:XH K mg c C)(hs:km K y D=true):mroIn K D (.ref C)=some (Qk c y):=by
 obtain⟨L,cd,S⟩:=i7 hs;obtain⟨cdC,hC,hn⟩:=T.cls;obtain⟨kL,hL,hnL⟩:=S.lname;rw[S.mroIn,DG]
 congr 1
 unfold Qk
 have e1:(C == D)=(c == y):=by
  by_cases h:c=y
  . subst h;have z:=T.ns.symm.trans S.own;cases z;simp
  . rw[beq_eq_false_iff_ne.mpr h,beq_eq_false_iff_ne];intro z;subst z;rw[S.cls]at hC;cases hC;exact h (hn.symm.trans S.name)
 have e2:(C == L)=(c == ("LoadError" : Str)):=by
  by_cases h:c=("LoadError" : Str)
  . subst h;have z:=T.ns.symm.trans S.load;cases z;simp
  . rw[beq_eq_false_iff_ne.mpr h,beq_eq_false_iff_ne];intro z;subst z;rw[hL]at hC;cases hC;exact h (hn.symm.trans hnL)
 rw[e1,e2]
theorem KI{M:Model}{A:Around}{E:Value->Shared->Prop}{s:Shared}{a:Addr}{ox:Obj}{Q:Bool->Shared->Prop}(T:XH K mg c C)(hs:km K y D=true)(hA:Qk c y=true)(X:K.In s.heap)(he:s.heap.get? a=some ox)(hc:ox.cls=.ref D)(hq:Q true s) :
  wpAny M A (excMatches (.ref a) (.ref C)) Q E s:=by
 obtain⟨hp,g,d,tk,os⟩:=s;have he:hp.get? a=some ox:=he;obtain⟨cd,hcd,_⟩:=T.cls;obtain⟨oc,odc,slc,hK⟩:=pR hcd;have hC:hp.get? C=some ⟨oc,odc,.cls cd,slc⟩:=X _ _ hK;have L1:Looks M hp (typeOf (.ref C)) (.type "type"):=looks_typeIn X T.ty;have L2:Looks M hp (isSubtype (.ref C) (.type "BaseException")) true:=looks_mroIn X T.base;have L3:Looks M hp (isSubtype (.ref D) (.ref C)) true:=looks_mroIn X (by rw[T.sub hs,hA]);have f:=tc_notTuple;have L4:Looks M hp (isInstance (.ref C) (.type "tuple")) false:=L1.andThen (Looks.of_pure f);have L5:Looks M hp (typeOf (.ref a)) (.ref D):=hc ▸ (Looks.ld he).andThen .now;unfold excMatches;refine kS (L4.at ?_);dsimp only;rw[if_neg (by decide)]
 repeat (first|with_reducible refine L2.at ?_|with_reducible refine L3.at ?_|with_reducible refine L5.at ?_|with_reducible refine wpAny_loadPart_at hC ?_|wp_step)
 exact hq
end
noncomputable abbrev Cx.tr(X:Cx)(gV:List (Addr×Obj))(E:Value->Shared->Prop):Cx:={X with pn:=X.pn++gV,xe:=E}
noncomputable abbrev Cx.han(X:Cx)(a:Addr):Cx:={X with A:=X.A.mark (some (.ref a)),calm:=false,xe:=λ_ _=>False}
section
variable{X:Cx}{gV pins0:List (Addr×Obj)}{σ:St}{H:Hp}{s:Shared}{E:Value->Shared->Prop}{a:Addr}
theorem Cx.Ok.tr(ok:X.Ok):(X.tr gV E).Ok:=⟨ok.mod,ok.kind,ok.glob,ok.blt,ok.above,ok.inj,ok.has,ok.cab,ok.hd,ok.frames,ok.stk,ok.exf,ok.bs,ok.bsz,ok.noex,ok.exfs,ok.funs,ok.frf,ok.tbs⟩
theorem Cx.Ok.untr(ok:(X.tr gV E).Ok):X.Ok:=⟨ok.mod,ok.kind,ok.glob,ok.blt,ok.above,ok.inj,ok.has,ok.cab,ok.hd,ok.frames,ok.stk,ok.exf,ok.bs,ok.bsz,ok.noex,ok.exfs,ok.funs,ok.frf,ok.tbs⟩
theorem Oq.tr(I:Oq X gV σ H s):Oq (X.tr gV E) [] σ H s:=⟨I.ok.tr,I.os,I.bare,I.base,I.loc,I.cell,I.free,I.freeC,λp hp=>I.pin p (by simpa using hp),I.hok,I.len⟩
theorem Oq.untr(I:Oq (X.tr pins0 E) gV σ H s):Oq X pins0 σ H s:=⟨I.ok.untr,I.os,I.bare,I.base,I.loc,I.cell,I.free,I.freeC,λp hp=>I.pin p (List.mem_append_left _ hp),I.hok,I.len⟩
theorem Oq.han(I:Oq X gV σ H s)(a:Addr):Oq (X.han a) gV σ H s :=
 ⟨⟨I.ok.mod,I.ok.kind,I.ok.glob,I.ok.blt,I.ok.above,I.ok.inj,I.ok.has,I.ok.cab,(λz=>nomatch z),I.ok.frames,I.ok.stk,I.ok.exf,I.ok.bs,I.ok.bsz,I.ok.noex,I.ok.exfs,I.ok.funs,I.ok.frf,I.ok.tbs⟩,I.os,I.bare,I.base,I.loc,I.cell,I.free,I.freeC,I.pin,I.hok,I.len⟩
theorem Oq.unhan(I:Oq (X.han a) gV σ H s)(ok:X.Ok):Oq X gV σ H s:=⟨ok,I.os,I.bare,I.base,I.loc,I.cell,I.free,I.freeC,I.pin,I.hok,I.len⟩
theorem SM.unhan{Pr:Hp}{p4:Fl->Ev->Prop}{f:Flow}{s':Shared}(ok:X.Ok)(h:SM (X.han a) gV Pr p4 f s'):SM X gV Pr p4 f s':=by
 cases f with
 |next=>obtain⟨σ',H',Z',I,r⟩:=h;exact⟨σ',H',Z',I.unhan ok,r⟩
 |brk=>obtain⟨σ',H',Z',I,r⟩:=h;exact⟨σ',H',Z',I.unhan ok,r⟩
 |cont=>obtain⟨σ',H',Z',I,r⟩:=h;exact⟨σ',H',Z',I.unhan ok,r⟩
 |ret u=>obtain⟨v,σ',H',r',Z',τ,I,r⟩:=h;exact⟨v,σ',H',r',Z',τ,I.unhan ok,r⟩
theorem SM.untr{Pr:Hp}{p4:Fl->Ev->Prop}{f:Flow}{s':Shared}(h:SM (X.tr pins0 E) gV Pr p4 f s'):SM X pins0 Pr p4 f s':=by
 cases f with
 |next=>obtain⟨σ',H',Z',I,r⟩:=h;exact⟨σ',H',Z',I.untr,r⟩
 |brk=>obtain⟨σ',H',Z',I,r⟩:=h;exact⟨σ',H',Z',I.untr,r⟩
 |cont=>obtain⟨σ',H',Z',I,r⟩:=h;exact⟨σ',H',Z',I.untr,r⟩
 |ret u=>obtain⟨v,σ',H',r',Z',τ,I,r⟩:=h;exact⟨v,σ',H',r',Z',τ,I.untr,r⟩
end
def Ql(X:Cx)(gV:List (Addr×Obj))(Pr:Hp)(xp:Xc->Ev->Prop):Value->Shared->Prop:=λe s'=>∃σ' H' Z' a cls dx T x,e=.ref a/\Oq X gV σ' H' s'/\aA X.K Pr H' σ' Z'/\yS X gV H' s' a cls dx T/\Do X.K H' cls dx x/\xp x Z'
noncomputable abbrev Cx.tb(X:Cx)(gV:List (Addr×Obj))(Pr:Hp)(xp:Xc->Ev->Prop):Cx:=X.tr gV (Ql X gV Pr xp)
def Le(P Q:Hp):Prop:=∀b o,P b=some o->Q b=some o
theorem aA.le{K:Frag}{P Q H:Hp}{σ:St}{Z:Ev}(E:aA K Q H σ Z)(h:Le P Q):aA K P H σ Z:=⟨λb o e=>E.sub b o (h b o e),E.nd,λa ha=>(by
  have z:=E.off a ha
  cases q:P a with
  |none=>rfl
  |some o=>rw[h a o q]at z;cases z),E.sl⟩
def Qm(X:Cx)(pins0:List (Addr×Obj))(Pr0:Hp)(xp:Xc->Ev->Prop)(e:Expr)(t:W L):Prop :=
 ∀(gV:List (Addr×Obj))(s:Shared)(σ:St)(H Pr:Hp)(Z:Ev)(p4:L->Ev->Prop),Le Pr0 Pr->Oq (X.tb pins0 Pr0 xp) gV σ H s->aA X.K Pr H σ Z->t Z p4->wpAny (model X.prog X.w) X.A (eval e X.env) (EL (X.tb pins0 Pr0 xp) gV σ Pr p4) (Ql X pins0 Pr0 xp) s
def Qn(X:Cx)(pins0:List (Addr×Obj))(Pr0:Hp)(xp:Xc->Ev->Prop)(st:Stmt)(t:W Fl):Prop :=
 ∀(gV:List (Addr×Obj))(s:Shared)(σ:St)(H Pr:Hp)(Z:Ev)(p4:Fl->Ev->Prop),Le Pr0 Pr->Oq (X.tb pins0 Pr0 xp) gV σ H s->aA X.K Pr H σ Z->t Z p4->wpAny (model X.prog X.w) X.A (exec st X.env) (SM (X.tb pins0 Pr0 xp) gV Pr p4) (Ql X pins0 Pr0 xp) s
def Nj(X:Cx)(pins0:List (Addr×Obj))(Pr0:Hp)(xp:Xc->Ev->Prop)(sts:List Stmt)(t:W Fl):Prop :=
 ∀(gV:List (Addr×Obj))(s:Shared)(σ:St)(H Pr:Hp)(Z:Ev)(p4:Fl->Ev->Prop),Le Pr0 Pr->Oq (X.tb pins0 Pr0 xp) gV σ H s->aA X.K Pr H σ Z->t Z p4->wpAny (model X.prog X.w) X.A (execs sts X.env) (SM (X.tb pins0 Pr0 xp) gV Pr p4) (Ql X pins0 Pr0 xp) s
def yT(fs:Qh)(xp:Xc->Ev->Prop)(t:W (List L)):W L:=λZ p4=>t Z λls Z1=>DS ls λds=>fs ds (λr=>p4 r Z1) (λy=>xp y Z1)
section
variable{X:Cx}{pins0:List (Addr×Obj)}{Pr0:Hp}{xp:Xc->Ev->Prop}{k n:Nat}{f:Addr}{fd:FuncData}{ps:List Str}{fs:Qh}{x:Str}{p pos:Pos}{e:Expr}{es:List Expr}{bs:List (Option Nat)}{t:W (List L)}{te:W L}{tm:W Fl}{st:Stmt}
theorem En(F:FnOk X.prog X.w X.K X.mg X.base (Qe X.prog X.w) k f fd ps (Qi X.K n fs))(hr:k9 k X.A)(hg:Gl X x)(hm:X.mg x=some (.ref f))(hk:PySem.W.keepIn X.K (.ref f)=true)(hb:oX X.K fd ps [])
  (ha:O9 (X.tb pins0 Pr0 xp) (e::es) bs t) (hn:bs.length=n) (hdb:(x == ("__debug__" : Str))=false:=by decide) (he:starEach (e::es) X.env=(false,eval e X.env)::starEach es X.env:=by rfl) (hpl:(backTo pos (starEach es X.env)).any (·.1)=false:=by rfl) :
  Qm X pins0 Pr0 xp (.Call (.Name x p) (e::es) [] pos) (yT fs xp t):=by
 intro gV s σ H Pr Z p4 le I E0 h;refine wpAny_Call_Name_kw (k8 (X:=X.tb pins0 Pr0 xp) I hg hm ?_ hdb);refine PySem.W.callWith_K (h₀:=X.base) I.ok.mod.kin hk (Ot (ha pos gV s σ H Pr Z _ I E0 h) λus s1 ⟨vs,H1,ls,Z1,I1,r,hl,hbl,E1,hv,q⟩=>⟨I1.kIn,?_⟩) he hpl;obtain⟨ds,rfl,q1⟩:=i9 q;have kz:vs.length=ds.length:=by simpa using hl
 refine MD (X:=X.tb pins0 Pr0 xp) (p4:=p4) F hr hb (hbl.trans hn) I1 (E1.drop (by simp[kz])) r (lg kz E1) q1 λs' H' a cls dx T y I2 E2 R z1 z2=>?_;exact⟨σ,H',Z1,a,cls,dx,T,y,rfl,I2.untr,E2.le le,⟨R.fly,R.na,R.nt,⟨R.wa.s0,R.wa.loc,R.wa.cel,λp hp=>R.wa.pin p (List.mem_append_left _ hp)⟩,λt et=>⟨(R.wt t et).s0,(R.wt t et).loc,(R.wt t et).cel,λp hp=>(R.wt t et).pin p (List.mem_append_left _ hp)⟩⟩,z1,z2⟩
theorem Eo(he:Qm X pins0 Pr0 xp e te)(hs:swapsWith e none pos.line X.env=pure false:=by rfl):Qn X pins0 Pr0 xp (.Expr e pos) (nJ te):=by intro gV s σ H Pr Z p4 le I E h;exact wpAny_Expr_any (Ot (he gV s σ H Pr Z _ le I E h) λv s1 ⟨x,H1,r,Z1,I1,r1,E1,q1⟩=>⟨σ,H1,Z1,I1,E1.tail,q1⟩) I.quiet hs
theorem Ep(h1:Qn X pins0 Pr0 xp st tm):Nj X pins0 Pr0 xp [st] tm:=by
 intro gV s σ H Pr Z p4 le I E h;refine wpAny_execs_cons (Ot (h1 gV s σ H Pr Z p4 le I E h) λf s1 q=>?_)
 cases f with
 |next=>exact wpAny_execs_nil q
 |brk=>exact q
 |cont=>exact q
 |ret u=>exact q
end
def ME(tb:(Xc->Ev->Prop)->W Fl)(c:Str)(ts:W Fl):W Fl:=λZ p4=>tb (λx Z1=>Qk c x.c=true/\ts Z1 p4) Z p4
section
variable{X:Cx}{gV:List (Addr×Obj)}{σ:St}{H:Hp}{s:Shared}
theorem Oq.landed{Pr:Hp}{Z:Ev}{a:Addr}{cls:Value}{dx T:Option Addr}{h1:Heap}(I:Oq X gV σ H s)(R:yS X gV H s a cls dx T)(hstk:X.stack=X.env::X.outer)
  (k1:∀b o,b≠a->some b≠T->b∉Om (X.env::X.outer)->s.heap.get? b=some o->h1.get? b=some o) (k2:∀b o,b≠a->some b≠T->s.heap.get? b=some o->∃sl,h1.get? b=some {o with slots:=sl}):Oq X gV σ H {s with heap:=h1}:=by
 have nch:∀b,b∉a::T.toList->b≠a/\some b≠T:=λb hb=>⟨λz=>hb (by simp[z]),λz=>hb (by simp[<- z])⟩;have tra:∀b o,H b=some o->b≠a/\some b≠T/\b∉Om (X.env::X.outer):=λb o e=>by refine⟨λz=>(by subst z;rw[R.na]at e;cases e),λz=>(by rw[R.nt b z.symm]at e;cases e),λz=>?_⟩;have:=I.stkFree b (by rw[hstk];exact z);rw[e]at this;cases this
 refine I.call (g':=s.gens) (t':=s.toks) (d':=s.drawn) (ch:=a::T.toList) ⟨λb o e n hf hx=>?_,λb o e n hf hx=>?_,λb o e n hx=>n,λb o e hx=>?_,λ_ _ e=>e,λ_ _ _ e=>e,λ_ _ e=>e⟩ (λb o e=>?_) I.bare λb hb=>?_
 . exact k1 b o (nch b hx).1 (nch b hx).2 (by rw[<- hstk];exact hf) e
 . exact k2 b o (nch b hx).1 (nch b hx).2 e
 . obtain⟨sl,q⟩:=k2 b o (nch b hx).1 (nch b hx).2 e;exact⟨_,q⟩
 .
  refine(I.hok b o e).stay (λc v hc z=>?_) (λ_ z=>z) (λ_ _ z=>z) λ_ _ _ _ z=>z
  have ht:∃o',H c=some o':=by
   rcases hc with rfl|hc
   . exact⟨o,e⟩
   . exact⟨_,hc⟩
  obtain⟨o',ho'⟩:=ht;obtain⟨t1,t2,t3⟩:=tra c o' ho';exact k1 c v t1 t2 t3 z
 .
  have w:Qf X gV b:=by
   rcases SK.mp hb with rfl|hb
   . exact R.wa
   . exact R.wt b (by cases T with|none=>simp at hb|some t=>simp at hb;rw[hb])
  exact⟨.inr w.s0,w.loc,w.cel,w.pin⟩
end
section
variable{X:Cx}{body suite:List Stmt}{b0:Stmt}{c:Str}{C:Addr}{p hp pos:Pos}{tb:(Xc->Ev->Prop)->W Fl}{ts:W Fl}
theorem HP(hstk:X.stack=X.env::X.outer)(hf:X.env.frame=some X.env.locals)(TC:XH X.K X.mg c C)(hg:Gl X c)(hb:∀ gV Pr xp,Nj X gV Pr xp body (tb xp))(hs:∀ a,Pa (X.han a) (b0::suite) ts) (hdb:(c == ("__debug__" : Str))=false:=by decide) :
  PM X (.Try body [.ExceptHandler (some (.Name c p)) none (b0::suite) hp] [] [] pos) (ME tb c ts):=by
 intro gV s σ H Pr Z p4 I E h;refine wpAny_Try_except (wpAny_mono (hb gV Pr (λx Z1=>Qk c x.c=true/\ts Z1 p4) [] s σ H Pr Z p4 (λ_ _ z=>z) I.tr E h) (λf s1 q=>?_) λe s1 q=>?_)
 .
  have q':=SM.untr q
  cases f with
  |next=>exact wpAny_execs_nil q'
  |brk=>exact q'
  |cont=>exact q'
  |ret u=>exact q'
 . obtain⟨σ',H',Z',a,cls,dx,T,x,rfl,I1,E1,R,F,hA,hts⟩:=q;refine KD (hstk ▸ I1.ok.frames) (hstk ▸ I1.stack) hf R.fly λh1 T1 fl hT1 k1 k2=>?_;have I2:=I1.landed (Pr:=Pr) (Z:=Z') R hstk k1 k2;have w1:=I1.newer hT1;obtain⟨D0,vs,rfl,hstd,hfq,hxf,rs⟩:=F;refine wpAny_handleBy_cons (codeAny_handlers_test (k8 (I2.han a) hg TC.m ?_ hdb)) (by intro q;cases q);obtain⟨vv,sl,he,_⟩:=id fl;refine KI TC hstd hA I2.kIn he rfl ?_;refine codeAny_handlers_suite (Mz fl λh2 fl2 k3=>?_);have I3:=I2.turned (it:=T1) (t':=s1.toks) (λb o hb e=>k3 b o hb e) (I1.hok.fresh hT1) w1.loc (.inr w1.s0) w1.cel w1.pin;exact wpAny_mono (hs a gV _ σ' H' Pr Z' p4 (I3.han a) E1 hts) (λf s4 q=>SM.unhan I.ok q) λ_ _ z=>z.elim
end
section
variable{X:Cx}{k k' n:Nat}{f:Addr}{fd:FuncData}{ps:List Str}{fs:Qh}{g:Str}{st:Stmt}{e:Expr}{es:List Expr}{bs:List (Option Nat)}{t:W (List L)}{p pos:Pos}{c:Str}{C fI:Addr}{ns:List Str}
theorem KJ{pins0:List (Addr×Obj)}{Pr0:Hp}{xt:Xc->Ev->Prop}(F:FnOk X.prog X.w X.K X.mg X.base (Qe X.prog X.w) k f fd ps (Qi X.K n fs))(T:FX X.K X.mg g st f fd ps)(hr:k9 k' X.A)(ha:O9 (X.tb pins0 Pr0 xt) (e::es) bs t)(hk:k<=k':=by decide)(hg:Gl X g:=by rfl)(hn:bs.length=n:=by rfl) (hdb:(g == ("__debug__" : Str))=false:=by decide) (he:starEach (e::es) X.env=(false,eval e X.env)::starEach es X.env:=by rfl) (hpl:(backTo pos (starEach es X.env)).any (·.1)=false:=by rfl) :
  Qm X pins0 Pr0 xt (.Call (.Name g p) (e::es) [] pos) (yT fs xt t):=En F (hr.mono hk) hg T.m T.f.kp T.b ha hn hdb he hpl
noncomputable abbrev Qo(g q:Str)(st:Stmt)(md:Value)(c:Nat):FuncData:=PySem.W.fnOf g q (i6 st) (eR st) (ao st) .none .none .none md none (.ref c) .none
theorem BV.mk'{K:Frag}{mg:Str->Option Value}{h:Heap}(X:K.In h)(G:h.Ns mainGlobals mg){L fL:Addr}{st:Stmt}{md:Value}{c:Nat} (e1:nsIn K mainGlobals "LoadError"=some (some (.ref L))) (e2:readsIn K L (.type "type")=true) (e3:specialIn K (.ref L) "__getattribute__"=some (some (.builtin "type.__getattribute__")))
  (e4:findCls K (.ref L) (.type "type") "__init__"=some (.val (.ref fL))) (e5:K.lookup fL=some ⟨.type "function",none,.func (Qo "__init__" "LoadError.__init__" st md c),#[]⟩) (e6:codeIn K (.ref c) "LoadError.__init__"=true) (e7:keepIn K (.ref fL)=true)
  (e8:∀(kV doc pm:Value)(an:Option Addr)(cdv ct:Value)(us:List Value),us.length=2->bindArgs (PySem.W.fnOf "__init__" "LoadError.__init__" (i6 st) (eR st) (ao st) .none kV doc pm an cdv ct) ⟨us,[]⟩=pure ((["self","text"]:List Str).zip us)):BV K mg L fL (Qo "__init__" "LoadError.__init__" st md c) st :=
 ⟨mg_of X G e1,e2,e3,e4,sG e5 e6 e7,(sG e5 e6 e7).binds e8⟩
theorem XT.mk'{K:Frag}{mg:Str->Option Value}{h:Heap}(X:K.In h)(G:h.Ns mainGlobals mg){c:Str}{C fI:Addr}{fd:FuncData}{ps ns:List Str}(e1:nsIn K mainGlobals c=some (some (.ref C)))(e2:km K c C=true)(e3:HI K C fI=true)(b:oX K fd ps [])(e4:keepIn K (.ref C)=true)(e5:(ns.all λf=>findIn K (.ref C) f == some none)=true):XT K mg c C fI fd ps ns :=
 ⟨mg_of X G e1,e2,KB e3,b,e4,λf hf=>beq_iff_eq.mp (List.all_eq_true.mp e5 f hf)⟩
theorem XH.mk'{K:Frag}{mg:Str->Option Value}{h:Heap}(X:K.In h)(G:h.Ns mainGlobals mg){c:Str}{C:Addr}(e1:nsIn K mainGlobals c=some (some (.ref C)))(e2:((clsIn K C).any λcd=>cd.name == c)=true) (e3:typeIn K (.ref C)=some (.type "type")) (e4:mroIn K C (.type "BaseException")=some true):XH K mg c C :=
 ⟨mg_of X G e1,e1,(let ⟨cd,h1,h2⟩:=any_some e2;⟨cd,h1,beq_iff_eq.mp h2⟩),e3,e4⟩
theorem Er{K:Frag}:∀vs H Q E,LP K vs H Q E->vs.length=2:=λ_ _ _ _ ⟨_,_,_,_,_,_,e,_⟩=>by rw[e];rfl
end
end L2
namespace L2
open PySem PySem.Spec PyProof.Rows
section
variable{κ:Type}[DecidableEq κ]
noncomputable def Gd(kvs:List (κ×V))(k:κ):Option V:=(kvs.find? λkv=>decide (kv.1=k)).map (·.2)
noncomputable def Ge(kvs:List (κ×V))(k:κ)(v:V):List (κ×V) :=
 if(kvs.any λkv=>decide (kv.1=k))=true then kvs.map (λkv=>if kv.1=k then(kv.1,v)else kv)else kvs++[(k,v)]
theorem yU{p:κ×V}{r:List (κ×V)}{k:κ}(e:p.1=k):Gd (p::r) k=some p.2:=by simp[Gd,List.find?_cons,e]
theorem yV{p:κ×V}{r:List (κ×V)}{k:κ}(e:¬p.1=k):Gd (p::r) k=Gd r k:=by simp[Gd,List.find?_cons,e]
theorem xm(kvs:List (κ×V))(k:κ)(v:V):(Ge kvs k v).length<=kvs.length+1:=by
 unfold Ge;split
 . rw[SH];omega
 . rw[List.length_append,List.length_cons,List.length_nil];omega
theorem wM.isSome_eq{o:Option V}{u:Option Value}(r:wM o u):o.isSome=u.isSome:=by
 cases o with
 | none=>cases u with
  |none=>rfl
  |some _=>exact(show False from r).elim
 | some _=>cases u with
  |none=>exact(show False from r).elim
  |some _=>rfl
theorem KV.val{kvs:List (κ×V)}{vs:List (κ×Value)}(r:KV kvs vs)(k:κ):wM (Gd kvs k) (valueAt vs k):=by
 unfold KV at r
 induction r with
 |nil=>exact True.intro
 | @cons p q ps qs h t ih =>
  obtain⟨h1,h2⟩:=h;by_cases e:p.1=k
  .
   have e':q.1=k:=h1.symm.trans e;have b:valueAt (q::qs) k=some q.2:=by simp[valueAt,List.find?_cons,e']
   rw[yU e,b];exact h2
  .
   have e':¬q.1=k:=λz=>e (h1.trans z);have b:valueAt (q::qs) k=valueAt qs k:=by simp[valueAt,List.find?_cons,e']
   rw[yV e,b];exact ih
theorem KV.any{kvs:List (κ×V)}{vs:List (κ×Value)}(r:KV kvs vs)(k:κ):(kvs.any λkv=>decide (kv.1=k))=vs.any λkv=>decide (kv.1=k):=by
 unfold KV at r
 induction r with
 |nil=>rfl
 |cons h t ih=>rw[List.any_cons,List.any_cons,ih,h.1]
theorem KV.repl{kvs:List (κ×V)}{vs:List (κ×Value)}(r:KV kvs vs)(k:κ){y:V}{u:Value}(ry:bU y u) :
  KV (kvs.map λkv=>if kv.1=k then(kv.1,y)else kv) (vs.map λkv=>if kv.1=k then(kv.1,u)else kv):=by
 unfold KV at r ⊢
 induction r with
 |nil=>exact .nil
 | @cons p q ps qs h t ih =>
  rw[List.map_cons,List.map_cons];refine .cons ?_ ih;obtain⟨h1,h2⟩:=h;by_cases e:p.1=k
  . rw[if_pos e,if_pos (h1.symm.trans e)];exact⟨h1,ry⟩
  . rw[if_neg e,if_neg (λz=>e (h1.trans z))];exact⟨h1,h2⟩
theorem KV.put{kvs:List (κ×V)}{vs:List (κ×Value)}(r:KV kvs vs)(k:κ){y:V}{u:Value}(ry:bU y u):KV (Ge kvs k y) (stored vs k u):=by
 unfold Ge stored;rw[r.any k];by_cases e:(vs.any λkv=>decide (kv.1=k))=true
 . rw[if_pos e,if_pos e];exact r.repl k ry
 . rw[if_neg e,if_neg e];exact Paired.snoc r ⟨rfl,ry⟩
theorem KV.length{kvs:List (κ×V)}{vs:List (κ×Value)}(r:KV kvs vs):kvs.length=vs.length:=Paired.length r
end
theorem Ac{P:Program}{w:World}{k:Of}{u:Value}(r:bU (kV k) u):(da P w).is k u=true:=by
 cases k with
 |inl i=>obtain⟨t,e⟩:=(show ∃t,u=Value.int i t from r);subst e;exact wN P w i t
 |inr x=>obtain⟨t,e⟩:=(show ∃t,u=Value.str x t from r);subst e;exact wO P w x t
def MF(i:Expr):Prop:=∀ov iv,subscripted i false ov iv=operate [ov,iv] (getItem ov iv)
theorem BW{prog:Program}{w:World}{A:Around}{E:Value->Shared->Prop}{s:Shared}{env:Env}{value slice:Expr}{pos:Pos}{T id:String}{Q:Value->Shared->Prop}
  (hl:typeLookup (.type T) "__getitem__"=pure (some (.builtin id))) (hs:MF slice)
  (h:wpAny (model prog w) A (eval value env) (λo s₁=>wpAny (model prog w) A (eval slice env) (λi s₂=>s₂.TypeIs o T/\wpAny (model prog w) A (getItem o i) Q E s₂) E s₁) E s) :
  wpAny (model prog w) A (eval (.Subscript value slice pos) env) Q E s:=by
 refine Subscript_ (wpAny_mono h (λo s₁ h₁=>wpAny_mono h₁ (λi s₂ h₂=>?_) λ_ _ x=>x) λ_ _ x=>x);obtain⟨hT,h₂⟩:=h₂;unfold subscriptTail;refine kS ?_;rw[getitemInPython_of_ne hT.not_modules];refine kS (wpAny_specialOf hT hl ?_);have Ov:wpAny (model prog w) A (subscripted slice false o i) (λr s₃=>wpAny (model prog w) A (letTemporaryGo value o r >>= λ_=>pure r) Q E s₃) E s₂:=by rw[hs o i];exact wpAny_operating (wpAny_mono h₂ (λr s₃ h₃=>kS (wpAny_letTemporaryGo (SG h₃))) λ_ _ x=>x)
 first
  |exact SG (kS Ov)
  |exact kS (SG (kS Ov))
  |exact kS Ov
abbrev DR(K:PySem.W.Frag)(H:Hp):List (Of×V)->List (Of×D)->Prop:=Paired λ(p:Of×V) (q:Of×D)=>p.1=q.1/\O8 K H p.2 q.2
noncomputable def vM(kvs:List (Of×D))(k:Of):Option D:=match kvs with
 |[]=>none
 |p::r=>if p.1=k then some p.2 else vM r k
noncomputable def HQ(kvs:List (Of×D))(k:Of)(d:D):List (Of×D):=if(kvs.any λp=>decide (p.1=k))=true then kvs.map (λp=>if p.1=k then(p.1,d)else p)else kvs++[(k,d)]
theorem DR.val{K:PySem.W.Frag}{H:Hp}{k:Of}:∀{vs:List (Of×V)}{kvs:List (Of×D)},DR K H vs kvs->(vM kvs k=none/\Gd vs k=none)∨∃d v,vM kvs k=some d/\Gd vs k=some v/\O8 K H v d
 |_,_,.nil=>.inl ⟨rfl,rfl⟩
 | p::vs,q::kvs,.cons h t=>by
  by_cases e:p.1=k
  . refine .inr ⟨q.2,p.2,?_,yU e,h.2⟩;unfold vM;rw[if_pos (h.1.symm.trans e)]
  . have e':¬q.1=k:=λz=>e (h.1.trans z);rw[yV e];unfold vM;rw[if_neg e'];exact DR.val t
theorem DR.any{K:PySem.W.Frag}{H:Hp}{k:Of}:∀{vs:List (Of×V)}{kvs:List (Of×D)},DR K H vs kvs->(vs.any λp=>decide (p.1=k))=kvs.any λp=>decide (p.1=k)
 |_,_,.nil=>rfl
 |p::vs,q::kvs,.cons h t=>by rw[List.any_cons,List.any_cons,DR.any t,h.1]
theorem DR.repl{K:PySem.W.Frag}{H:Hp}{k:Of}{v:V}{d:D}(r:O8 K H v d):∀{vs:List (Of×V)}{kvs:List (Of×D)},DR K H vs kvs->DR K H (vs.map λp=>if p.1=k then(p.1,v)else p) (kvs.map λp=>if p.1=k then(p.1,d)else p)
 |_,_,.nil=>.nil
 | p::vs,q::kvs,.cons h t=>by
  rw[List.map_cons,List.map_cons];refine .cons ?_ (DR.repl r t);by_cases e:p.1=k
  . rw[if_pos e,if_pos (h.1.symm.trans e)];exact⟨h.1,r⟩
  . rw[if_neg e,if_neg λz=>e (h.1.trans z)];exact h
theorem DR.put{K:PySem.W.Frag}{H:Hp}{k:Of}{v:V}{d:D}{vs:List (Of×V)}{kvs:List (Of×D)}(h:DR K H vs kvs)(r:O8 K H v d):DR K H (Ge vs k v) (HQ kvs k d):=by
 unfold Ge HQ;rw[h.any];split
 . exact h.repl r
 . exact Paired.app h (.cons ⟨rfl,r⟩ .nil)
theorem DR.pres{K:PySem.W.Frag}{H H':Hp}(p:sH H H'){vs:List (Of×V)}{kvs:List (Of×D)}(h:DR K H vs kvs):DR K H' vs kvs:=Paired.mapP h λ_ _ z=>⟨z.1,z.2.pres p⟩
def lr(d:D)(k:Of->Prop):Prop:=match d with
 |.int i=>k (.inl i)
 |.str x=>k (.inr x)
 |_=>False
theorem mv{K:PySem.W.Frag}{H:Hp}{v:V}{d:D}{u:Value}{k:Of->Prop}(h:lr d k)(r:O8 K H v d)(rv:bU v u):∃key,v=kV key/\bU (kV key) u/\k key:=by
 cases r with
 |int i=>exact⟨.inl i,rfl,rv,h⟩
 |str x=>exact⟨.inr x,rfl,rv,h⟩
 |_=>exact h.elim
def AJ(i:Nat)(Z:Ev)(k:Addr->List (Of×D)->Prop):Prop:=match Z[i]? with
 |some (.dic a kvs)=>k a kvs
 |_=>False
theorem qc{i:Nat}{Z:Ev}{k:Addr->List (Of×D)->Prop}(h:AJ i Z k):∃a kvs,Z[i]?=some (.dic a kvs)/\k a kvs:=by
 unfold AJ at h
 cases q:Z[i]? with
 |none=>rw[q]at h;exact h.elim
 | some l =>
  rw[q]at h
  cases l with
  |dic a kvs=>exact⟨a,kvs,rfl,h⟩
  |_=>exact h.elim
section
variable{K:PySem.W.Frag}{Pr H:Hp}{σ:St}{Z:Ev}{a:Addr}{kvs ks:List (Of×D)}
theorem aA.dicAt{i:Nat}(E:aA K Pr H σ Z)(q:Z[i]?=some (.dic a kvs)):σ[i]?=some (some (.ref a))/\∃vs,H a=some (.dK vs)/\DR K H vs kvs:=by obtain⟨sv,hs,sl⟩:=E.slot q;unfold bI at sl;obtain⟨rfl,r⟩:=sl;exact⟨hs,r⟩
theorem bK:owns (.dic a kvs::Z)=a::owns Z:=rfl
theorem aA.cons_dic(E:aA K Pr H σ Z){vs:List (Of×V)}(h:H a=none)(r:DR K H vs kvs):aA K Pr (Og H a (.dK vs)) (some (.ref a)::σ) (.dic a kvs::Z):=by
 have E':=E.new (o:=.dK vs) h;refine⟨E'.sub,?_,λb hb=>?_,.cons ?_ E'.sl⟩
 . rw[bK];refine List.nodup_cons.mpr ⟨λhm=>?_,E.nd⟩;obtain⟨us,e,_⟩:=E.at_own hm;rw[h]at e;cases e
 .
  rw[bK]at hb;rcases SK.mp hb with rfl|hb
  .
   cases q:Pr b with
   |none=>rfl
   |some u=>rw[E.sub b u q]at h;cases h
  . exact E.off b hb
 . unfold bI;exact⟨rfl,vs,aY,r.pres λb u _ e=>by rw[aD (bq e h)];exact e⟩
theorem aA.writeD(E:aA K Pr H σ (.dic a kvs::Z)){vs:List (Of×V)}(r:DR K H vs ks):aA K Pr (Og H a (.dK vs)) σ (.dic a ks::Z):=by
 have pa:Pr a=none:=E.off a (by rw[bK];exact SE);have nd:=E.nd;rw[bK]at nd;obtain⟨hn,nd'⟩:=List.nodup_cons.mp nd;obtain⟨us,ha,mu⟩:=E.at_own (a:=a) (by rw[bK];exact SE);have p:sH H (Og H a (.dK vs)):=λb u pu e=>by rw[aD];exact e;rintro rfl;rw[ha]at e;cases e;exact mu.no pu
 refine⟨λb u e=>?_,nd,λb hb=>E.off b hb,?_⟩
 . rw[aD];exact E.sub b u e;rintro rfl;rw[pa]at e;cases e
 .
  have sl:=E.sl
  cases sl with
  | cons q t =>
   unfold bI at q;obtain⟨e,_⟩:=q;refine .cons ?_ (Paired.impMem t λl hl s z=>z.pres p l λb hbm=>?_)
   . unfold bI;exact⟨e,vs,aY,r.pres p⟩
   . rw[aD];rintro rfl;exact hn (dN.mpr ⟨l,hl,hbm⟩)
theorem aA.updDic{i:Nat}(E:aA K Pr H σ Z)(q:Z[i]?=some (.dic a kvs)){vs:List (Of×V)}(r:DR K H vs ks):aA K Pr (Og H a (.dK vs)) σ (Z.set i (.dic a ks)):=by have hs:=(E.dicAt q).1;have hi:i<Z.length:=(SB.mp q).1;have E1:=(E.outL q hs).writeD r;have E2:=E1.back (i:=i) (by simp[hi]) hs;rw[List.set_set]at E2;exact E2
end
section
variable{X:Cx}{b e:Expr}{pos p:Pos}{tb te:W L}{x:Str}
theorem Oq.dicOk{gV:List (Addr×Obj)}{σ:St}{H:Hp}{s:Shared}{a:Addr}{vs:List (Of×V)}(I:Oq X gV σ H s)(h:H a=some (.dK vs)):vs.length<=sizeLine/\(a == sysModules)=false/\∃us,KV vs us/\s.heap.DictOf (da X.prog X.w) a us:=I.hok a _ h
def KL(i:Nat)(tb:W L):W L:=λZ p4=>AJ i Z λ_ _=>tb Z λr Z1=>Pb r λkd=>lr kd λkey=>AJ i Z1 λ_ kvs=>∃y,vM kvs key=some y/\p4 (.d y) Z1
theorem MG(i:Nat)(hb:PL X b tb)(hs:MF b)(hN:X.N[i]?=some x:=by rfl)(hv:On X.env.scope x:=by first | exact Or.inl rfl | exact Or.inr (Or.inl rfl) | exact Or.inr (Or.inr rfl)) (hd:(x == ("__debug__" : Str))=false:=by decide)
  (hcd:(x == ("__classdict__" : Str))=false:=by decide):PL X (.Subscript (.Name x p) b pos) (KL i tb):=by
 intro gV s σ H Pr Z p4 I E h;obtain⟨a,kvs0,q0,h⟩:=qc h;have hσ:=(E.dicAt q0).1;refine BW PySem.F.slot_dict_getitem.lookup hs (Ot (cR hN hv hd hcd gV s σ H (λv H'=>v=.ref a/\H=H') I ⟨_,hσ,rfl,rfl⟩) λu s1 jqz=>?_);obtain⟨y,H1,I1,rx,e1,e2⟩:=jqz;subst e1 e2;cases rx;refine Ot (hb gV s1 σ H Pr Z _ I1 E h) λu2 s2 q=>?_;obtain⟨v,H2,kd,Z2,I2,r2,E2,q2⟩:=EL.frz (p4:=λkd Z1=>lr kd λkey=>AJ i Z1 λ_ kvs=>∃y,vM kvs key=some y/\p4 (.d y) Z1) q;obtain⟨_,e1,p1⟩:=E2.head_d;cases e1;obtain⟨key,rfl,r3,q3⟩:=mv q2 p1 r2;obtain⟨a',kvs,qd,y,hy,q4⟩:=qc q3;obtain⟨hσ',vs,hl,r⟩:=E2.tail.dicAt qd;rw[hσ]at hσ';cases hσ';obtain⟨_,_,us,rel,dd⟩:=I2.dicOk hl;rcases r.val (k:=key)with⟨z,_⟩|⟨d,w,z1,z2,z3⟩
 . rw[hy]at z;cases z
 . rw[hy]at z1;cases z1;obtain⟨w',hw,rw'⟩:=wM.some_of (v:=w) (o:=valueAt us key) (by rw[<- z2];exact rel.val key);exact⟨dd.typeIs,wpAny_getItem_of (Ac r3) dd.mapOf hw ⟨w,H2,_,Z2,I2.tok _,rw',E2.tail.cons_d z3,q4⟩⟩
def Es(i:Nat)(tb te:W L):W Fl:=λZ p4=>te Z λr Z1=>Pb r λy=>AJ i Z1 λ_ _=>tb Z1 λr Z2=>Pb r λkd=>lr kd λkey=>AJ i Z2 λa kvs=>kvs.length<sizeLine/\p4 .nx (Z2.set i (.dic a (HQ kvs key y)))
theorem BX(i:Nat){ps:Pos}(hb:PL X b tb)(he:PL X e te)(hN:X.N[i]?=some x:=by rfl)(hv:On X.env.scope x:=by first | exact Or.inl rfl | exact Or.inr (Or.inl rfl) | exact Or.inr (Or.inr rfl)) (hd:(x == ("__debug__" : Str))=false:=by decide)
  (hcd:(x == ("__classdict__" : Str))=false:=by decide) (hs:swapsWith e (some (.Subscript (.Name x p) b ps)) pos.line X.env=pure false:=by rfl):PM X (.Assign [.Subscript (.Name x p) b ps] e pos) (Es i tb te):=by
 intro gV s σ H Pr Z p4 I E h;refine wpAny_Assign_Subscript (Ot (he gV s σ H Pr Z _ I E h) λr s1 q=>?_) hs;obtain⟨v,H1,y,Z1,I1,rv,E1,q1⟩:=EL.frz (p4:=λy Z1=>AJ i Z1 λ_ _=>tb Z1 λr Z2=>Pb r λkd=>lr kd λkey=>AJ i Z2 λa kvs=>kvs.length<sizeLine/\p4 .nx (Z2.set i (.dic a (HQ kvs key y)))) q;obtain⟨a,kvs0,q0,q1⟩:=qc q1;have hσ:=(E1.tail.dicAt q0).1;refine Ot (cR hN hv hd hcd gV s1 σ H1 (λv H'=>v=.ref a/\H1=H') I1 ⟨_,hσ,rfl,rfl⟩) λu2 s2 jqz=>?_;obtain⟨z,H2,I2,rx,e1,e2⟩:=jqz;subst e1 e2;cases rx;refine Ot (hb gV s2 σ H1 _ Z1 _ I2 E1.tail.wide q1) λu3 s3 q=>?_;obtain⟨kv,H3,kd,Z3,I3,r3,E3,q3⟩:=EL.frz (p4:=λkd Z2=>lr kd λkey=>AJ i Z2 λa kvs=>kvs.length<sizeLine/\p4 .nx (Z2.set i (.dic a (HQ kvs key y)))) q;obtain⟨_,e1,p1⟩:=E3.head_d;cases e1;obtain⟨key,rfl,r4,q4⟩:=mv q3 p1 r3;obtain⟨a',kvs,qd,kz,q5⟩:=qc q4;have E4:aA X.K Pr H3 (some (kV key)::some v::σ) (.d kd::.d y::Z3):=aA.step (τ:=[some v]) (lam:=[.d y]) (w:=[some (kV key)]) (μ:=[.d kd]) E1 rfl E3 rfl;obtain⟨hσ',vs,hl,r⟩:=E4.tail.tail.dicAt qd;rw[hσ]at hσ';cases hσ';obtain⟨_,e2,p2⟩:=E4.tail.head_d;cases e2;obtain⟨z,hS,us,rel,dd⟩:=I3.dicOk hl;have hz:us.length<=sizeLine:=by rw[<- rel.length];exact z
 have hk:vs.length=kvs.length:=Paired.length r;have hl':(Ge vs key v).length<=sizeLine:=by have:=xm vs key v;omega
 refine wpAny_setItem_pairs (hsz:=hz) (Ac r4) dd λh' dd' hsb=>?_
 have he':∃q,h'.get? a=some q:=let ⟨q,_,_,hq,_⟩:=dd';⟨q,hq⟩
 exact⟨σ,_,_,I3.write (x:=a) (e:=a) (t':=_) (by rw[hl];exact True.intro) (.inl rfl) (λb q hb z=>(hsb.2 b hb).trans z) he' (show dB X.prog X.w _ _ _ (.dK (Ge vs key v))from⟨hl',hS,_,rel.put key rv,dd'⟩),E4.tail.tail.updDic qd (r.put p2),q5⟩
noncomputable def KM:D->Bool
 |.int _=>true
 |.str _=>true
 |.bl _=>true
 |.non=>true
 |_=>false
inductive Qp (X:Cx):List (Option Expr)->List Expr->List (Of×D)->Prop where
 |nil:Qp X [] [] []
 |int {k v:Expr} {ks:List (Option Expr)} {vs:List Expr} {i:Int} {d:D} {kvs:List (Of×D)} (hk:PL X k (wC (.int i))) (hv:PL X v (wC d)) (hf:KM d=true) (t:Qp X ks vs kvs):Qp X (some k::ks) (v::vs) ((.inl i,d)::kvs)
 |str {k v:Expr} {ks:List (Option Expr)} {vs:List Expr} {y:Str} {d:D} {kvs:List (Of×D)} (hk:PL X k (wC (.str y))) (hv:PL X v (wC d)) (hf:KM d=true) (t:Qp X ks vs kvs):Qp X (some k::ks) (v::vs) ((.inr y,d)::kvs)
theorem Qp.len:∀{ks:List (Option Expr)}{vs:List Expr}{kvs:List (Of×D)},Qp X ks vs kvs->ks.all (·.isSome)=true/\ks.length=vs.length/\ks.length=kvs.length
 |_,_,_,.nil=>⟨rfl,rfl,rfl⟩
 | _,_,_,.int _ _ _ t=>by obtain⟨h1,h2,h3⟩:=t.len;simp[h1,h2,<- h3]
 | _,_,_,.str _ _ _ t=>by obtain⟨h1,h2,h3⟩:=t.len;simp[h1,h2,<- h3]
end
end L2
namespace L2
open PySem PySem.Spec PyProof.Rows PySem.SeqAt
mutual
noncomputable def BY:Nat->D->Bool
 |_,.non=>true
 |_,.bl _=>true
 |_,.int _=>true
 |_,.str _=>true
 |n+1,.tup xs=>xn n xs
 |n+1,.lst xs=>xn n xs
 |n+1,.dct m=>m == 0
 |_,_=>false
noncomputable def xn:Nat->List D->Bool
 |_,[]=>true
 |n,x::xs=>BY n x && xn n xs
end
mutual
noncomputable def AK:D->Nat
 |.int _=>602
 |.str x=>10*x.length+2
 |.tup xs=>Ad xs+3
 |.lst xs=>Ad xs+3
 |_=>6
noncomputable def Ad:List D->Nat
 |[]=>0
 |x::xs=>AK x+2+Ad xs
end
mutual
theorem BZ:∀d:D,(Po d).leavesShort 601=true->(Po d).shown.length<=AK d
 |.non,_=>by decide
 |.bl b,_=>by cases b<;>decide
 | .int i,h=>by
  have e:(PyData.shown (.int i)).length<=601:=by simpa only[Po,PyData.leavesShort,decide_eq_true_eq]using h
  exact Nat.le_succ_of_le e
 | .str x,h=>by
  have hx:∀c∈x.cps.toList,c<16^8:=by simpa only[Po,PyData.leavesShort,List.all_eq_true,decide_eq_true_eq]using h
  have e:=PySem.StrLaws.reprText_len x hx
  simp only[Po,PyData.shown,AK]
  omega
 | .tup xs,h=>by
  have h1:=xq xs (by simpa only[Po,PyData.leavesShort]using h)
  have h2:=tupleText_len_le (PyData.shownAll (gK xs))
  have h3:=PyData.shownAll_length (gK xs)
  simp only[Po,PyData.shown,AK]
  omega
 | .lst xs,h=>by
  have h1:=xq xs (by simpa only[Po,PyData.leavesShort]using h)
  have h2:=listText_len_le (PyData.shownAll (gK xs))
  have h3:=PyData.shownAll_length (gK xs)
  simp only[Po,PyData.shown,AK]
  omega
 |.dct _,_=>by simp only[Po,AK];decide
 |.exc _ _ _,_=>by simp only[Po,AK];decide
 |.fn _ _,_=>by simp only[Po,AK];decide
 |.dk _ _,_=>by simp only[Po,AK];decide
 |.gf _,_=>by simp only[Po,AK];decide
theorem xq:∀ds:List D,PyData.leavesShortAll 601 (gK ds)=true->((PyData.shownAll (gK ds)).map (·.length)).sum+2*(gK ds).length<=Ad ds
 |[],_=>by simp only[gK,PyData.shownAll,List.map_nil,List.sum_nil,List.length_nil,Ad];omega
 | d::ds,h=>by
  have h':(Po d).leavesShort 601=true/\PyData.leavesShortAll 601 (gK ds)=true:=by simpa only[gK,PyData.leavesShortAll,Bool.and_eq_true]using h
  have h1:=BZ d h'.1
  have h2:=xq ds h'.2
  simp only[gK,PyData.shownAll,List.map_cons,List.sum_cons,List.length_cons,Ad]
  omega
end
structure MH (d:D):Prop where
 ok:PJ 40 d=true
 sh:iQ d=true
 ln:(Po d).shown.length<=sizeLine
theorem yM.l{d:D}(h:yM d):MH d:=⟨h.ok,h.sh,h.len⟩
end L2
namespace L2
open PySem PySem.Spec PyProof.Rows
end L2
namespace L2
open PySem PySem.Spec PyProof.Rows PySem.W
end L2
namespace L2
open PySem PySem.Spec PyProof.Rows
end L2
namespace L2
open PySem PySem.Spec PyProof.Rows PySem.SeqAt
mutual
noncomputable def Qq:D->Bool
 |.dct n=>n == 0
 |.exc _ _ _=>false
 |.fn _ _=>false
 |.dk _ _=>false
 |.gf _=>false
 |.tup xs=>KN xs
 |.lst xs=>KN xs
 |.str x=>PyData.strOk x
 |_=>true
noncomputable def KN:List D->Bool
 |[]=>true
 |x::xs=>Qq x && KN xs
end
mutual
theorem qe:∀d:D,Qq d=true->iQ d=true->(Po d).leavesShort 601=true
 |.non,_,_=>rfl
 |.bl _,_,_=>rfl
 |.dct _,_,_=>rfl
 |.exc _ _ _,h,_=>by simp[Qq]at h
 |.fn _ _,h,_=>by simp[Qq]at h
 |.dk _ _,h,_=>by simp[Qq]at h
 |.gf _,h,_=>by simp[Qq]at h
 | .int i,_,h=>by
  have:=(pw (.int i) h).1
  simpa only[Po,PyData.leavesShort,PyData.intsShort]using this
 |.str x,h,hs=>PyData.leavesShort_of_canLay0 601 (.str x) (by simpa only[Qq,PyData.canLay0]using h) (pw (.str x) hs).1
 | .tup xs,h,hs=>by
  have:=nQ xs (by simpa only[Qq]using h) (by simpa only[iQ]using hs)
  simpa only[Po,PyData.leavesShort]using this
 | .lst xs,h,hs=>by
  have:=nQ xs (by simpa only[Qq]using h) (by simpa only[iQ]using hs)
  simpa only[Po,PyData.leavesShort]using this
theorem nQ:∀ds:List D,KN ds=true->lq ds=true->PyData.leavesShortAll 601 (gK ds)=true
 |[],_,_=>rfl
 | d::ds,h,hs=>by
  simp only[KN,Bool.and_eq_true]at h
  simp only[lq,Bool.and_eq_true]at hs
  simp only[gK,PyData.leavesShortAll,qe d h.1 hs.1,nQ ds h.2 hs.2,Bool.and_self]
end
structure Nk (d:D):Prop where
 ok:Qq d=true
 sh:iQ d=true
 dp:(Po d).depth<=40
 sg:AK d<=16777216
 ni:∀i,d≠.int i
theorem Nk.len{d:D}(h:Nk d):(Po d).shown.length<=sizeLine:=by
 have e:sizeLine=16777216:=by decide
 rw[e];exact SJ (BZ d (qe d h.ok h.sh)) h.sg
end L2
namespace L2
open PySem PySem.Spec PyProof.Rows
section
def KO(o:Option L)(i k:Nat)(Z:Ev)(p4:L->Ev->Prop):Prop:=match o with
 |some (.bx none ls)=>∃l,ls[k]?=some l/\p4 l (Z.set i (.bx none (ls.set k .un)))
 |some (.d (.tup ds))=>∃d,ds[k]?=some d/\p4 (.d d) Z
 |_=>False
theorem Et(ls:List L)(i k:Nat)(Z:Ev)(p4:L->Ev->Prop):KO (some (.bx none ls)) i k Z p4=∃l,ls[k]?=some l/\p4 l (Z.set i (.bx none (ls.set k .un))):=(rfl)
theorem HR(ds:List D)(i k:Nat)(Z:Ev)(p4:L->Ev->Prop):KO (some (.d (.tup ds))) i k Z p4=∃d,ds[k]?=some d/\p4 (.d d) Z:=(rfl)
end
section
def MI(r:L)(Z:Ev)(p4:L->Ev->Prop):Prop:=match r with
 |.bx (some _) ls=>p4 (.bx none ls) Z
 |_=>False
theorem Eu(a:Addr)(ls:List L)(Z:Ev)(p4:L->Ev->Prop):MI (.bx (some a) ls) Z p4=p4 (.bx none ls) Z:=(rfl)
end
end L2
namespace L2
open PySem PySem.Spec PyProof.Rows PySem.W
theorem Un.one{P:Program}{w:World}{fs:List Addr}{H H':Hp}{h h':Heap}{c:Addr}{oc:Obj}(hc:H c=none)(gc:h.get? c=some oc)(cc:∀q,¬u4 oc q)(u:Un fs [] (Og H c (.frz oc (.own c))) H' h h')(ok:Oh P w H' h') :
  Un fs [] H (Qa H' c) h h'/\Oh P w (Qa H' c) h':=by
 have zc:H' c=some (.frz oc (.own c)):=u.frzs c oc _ aY;have gc':h'.get? c=some oc:=(ok c _ zc).1;have nz:∀b o,H' b=some o->o≠.frz oc (.own c)->b≠c:=λb o e n z=>by subst z;rw[zc]at e;cases e;exact n rfl
 refine⟨⟨λb o e n hb hx=>?_,λb o e n hb hx=>?_,λb o e n hx=>?_,λb o e hx=>u.there b o e hx,λb xs e=>?_,λb o v e=>?_,λb t e=>?_⟩,λb o e=>?_⟩
 .
  by_cases z:b=c
  . subst z;rw[gc]at e;cases e;exact gc'
  . exact u.keep b o e (by rw[aD z];exact n) hb hx
 .
  by_cases z:b=c
  . subst z;rw[gc]at e;cases e;exact⟨oc.slots,gc'⟩
  . exact u.slot b o e (by rw[aD z];exact n) hb hx
 .
  by_cases z:b=c
  . subst z;exact pA
  . rw[di z];exact u.free b o e (by rw[aD z];exact n) hx
 . have z:=bq e hc;rw[di z];exact u.tups b xs (by rw[aD z];exact e)
 . have z:=bq e hc;rw[di z];exact u.frzs b o v (by rw[aD z];exact e)
 . have z:=bq e hc;rw[di z];exact u.tbls b t (by rw[aD z];exact e)
 .
  have hb:b≠c:=λz=>by subst z;rw[pA]at e;cases e
  rw[di hb]at e;refine(ok b o e).stay (λ_ _ _ z=>z) (λd z=>?_) (λd xs z=>?_) λd od q co z=>?_
  . rw[di (nz d _ z λy=>nomatch y)];exact z
  . rw[di (nz d _ z λy=>nomatch y)];exact z
  . rw[di (nz d _ z λy=>by cases y;exact cc q co)];exact z
end L2
namespace L2
open PySem PySem.W
end L2
namespace L2
open PySem PySem.Spec PyProof.Rows PySem.SeqAt
structure Nl (d:D):Prop where
 ok:Qq d=true
 sh:iQ d=true
 dp:(Po d).depth<=40
 sg:AK d<=16777216
theorem Nl.len{d:D}(h:Nl d):(Po d).shown.length<=sizeLine:=by
 have e:sizeLine=16777216:=by decide
 rw[e];exact SJ (BZ d (qe d h.ok h.sh)) h.sg
end L2
namespace L2
open PySem PySem.Spec PyProof.Rows
def Qr(o q:Option L)(i j:Nat)(t:W L)(Z:Ev)(p4:L->Ev->Prop):Prop:=match o,q with
 |some (.own _ xs),some (.own b _)=>i≠j/\eY i Z=true/\t (Z.set i (.d (.lst xs))) λr Z'=>p9 r=true/\∃zs,vE zs=true/\Z'=(Z.set i (.d (.lst xs))).set j (.own b zs)/\p4 r (Z.set j (.own b zs))
 |_,_=>False
theorem HS(a b:Addr)(xs ys:List D)(i j:Nat)(t:W L)(Z:Ev)(p4:L->Ev->Prop):Qr (some (.own a xs)) (some (.own b ys)) i j t Z p4=(i≠j/\eY i Z=true/\t (Z.set i (.d (.lst xs))) λr Z'=>p9 r=true/\∃zs,vE zs=true/\Z'=(Z.set i (.d (.lst xs))).set j (.own b zs)/\p4 r (Z.set j (.own b zs))):=(rfl)
def NW(o:Option L)(Z:Ev)(p4:Bool->Ev->Prop):Prop:=match o with
 |some (.d (.lst xs))=>p4 (!xs.isEmpty) Z
 |_=>False
theorem Ew(xs:List D)(Z:Ev)(p4:Bool->Ev->Prop):NW (some (.d (.lst xs))) Z p4=p4 (!xs.isEmpty) Z:=(rfl)
end L2
namespace HT
open PySem PySem.Spec PyProof.Rows
end HT
namespace L2
open PySem PySem.Spec PyProof.Rows
end L2
namespace L2
open PySem PySem.Spec PyProof.Rows PySem.W
end L2
namespace L2
open PySem PySem.Spec PyProof.Rows PySem.SeqAt
end L2
namespace PySem
open PySem.Spec
namespace F
end F
end PySem
namespace L2
open PySem PySem.Spec PyProof.Rows PySem.W
section
variable{key:Nat->Int}{n:Nat}{I:Shared->Prop}{cmp:Nat->Nat->(Bool->Shared->Prop)->Shared->Prop}
def LQ(I:Shared->Prop)(cmp:Nat->Nat->(Bool->Shared->Prop)->Shared->Prop){α:Type}(t:KasT α)(P:α->Prop):Prop:=∀(Q:α->Shared->Prop)(s:Shared),I s->(∀a s',I s'->P a->Q a s')->t.kasWp cmp Q s
def NX(key:Nat->Int)(n:Nat)(I:Shared->Prop)(cmp:Nat->Nat->(Bool->Shared->Prop)->Shared->Prop):Prop:=∀(i j:Nat)(C:Bool->Shared->Prop)(s:Shared),i<n->j<n->i≠j->I s->(∀s',I s'->C (decide (key i<key j)) s')->cmp i j C s
noncomputable def kk(key:Nat->Int)(p:Array Nat)(i:Nat):Int:=key (p.getD i 0)
structure KP (n:Nat) (p:Array Nat):Prop where
 sz:p.size=n
 pm:p.toList.Perm (List.range n)
theorem KP.lt{p:Array Nat}(g:KP n p){i:Nat}(h:i<n):p.getD i 0<n:=by
 have hs:i<p.size:=by rw[g.sz];exact h
 have e:p.getD i 0=p[i]:=by simp[Array.getD,hs]
 rw[e];exact List.mem_range.mp (g.pm.mem_iff.mp (by rw[<- Array.getElem_toList];exact List.getElem_mem _))
theorem LQ.ask{α:Type}{i j:Nat}{k:Bool->KasT α}{P:α->Prop}(hc:NX key n I cmp)(hi:i<n)(hj:j<n)(hn:i≠j)(h1:key i<key j->LQ I cmp (k true) P)(h2:¬key i<key j->LQ I cmp (k false) P):LQ I cmp (.ask i j k) P:=λQ s hI hq=>by
 refine hc i j _ s hi hj hn hI λs' hI'=>?_;by_cases c:key i<key j
 . rw[decide_eq_true c];exact h1 c Q s' hI' hq
 . rw[decide_eq_false c];exact h2 c Q s' hI' hq
end
def Qs(t:TE):TE:=λσ H Q=>t σ H λv H1=>∃l xs,v=.ref l/\H1 l=some (.lst xs)/\∀o,Q v (Og H1 l (.frz o (.lst xs)))
theorem MJ{X:Cx}{e:Expr}{t:TE}(h:PE X e t):PE X e (Qs t):=λgV s σ H Q I ht=>Ot (h gV s σ H _ I ht) λu s1 ⟨v,H1,I1,rv,l,xs,ev,hl,q⟩=>by obtain⟨o,I2⟩:=I1.freezeL hl;exact⟨v,_,I2,rv,q o⟩
noncomputable def Jm(K:Frag)(f:Str):Sp:=λvs H Q _=>∃e p ys c C L cd,vs=[.ref e,.ref p]/\H e=some (XO e (.ref C) none)/\rF K c C L cd/\findIn K (.ref C) f=some none/\(Ow K H p ys∨Ox K H p ys) /\
 ∀l o d,H l=none->Og H l (.frz o (.lst ys)) d=none->d≠e->Q .non (Og (Og (Og H l (.frz o (.lst ys))) d (XD d [(f,.ref l)])) e (XO e (.ref C) (some d)))
theorem Ey{K:Frag}{f:Str}:∀vs H Q E,Jm K f vs H Q E->vs.length=2:=λ_ _ _ _ ⟨_,_,_,_,_,_,_,e,_⟩=>by rw[e];rfl
theorem B0{H:Hp}{a:Addr}{x y:HO}:Og (Og H a x) a y=Og H a y:=by
 funext b
 unfold Og;split<;>rfl
def Qt(K:Frag)(x:V)(f:Str):TS:=M8 (GG (yR K (zE (GD 0) (zE (tC x) Lz)))) (KG K (GD 0) (Qs (OR (λxs H Q=>∃p ys,xs=[.ref p]/\(Ow K H p ys∨Ox K H p ys)/\∀l,H l=none->Q (.ref l) (Og H l (.lst ys))) (zE (GD 1) Lz))) f)
theorem HU{K:Frag}{vs:List V}{H:Hp}{Q:VK}{E:XK}{a b f:Str}{x:V}(h:Jm K f vs H Q E):Qt K x f {nx:=λ_ H'=>Q .non H',rt:=Q} (oY [a,b] vs) H:=by
 obtain⟨e,p,ys,c,C,L,cd,rfl,he,S,hf,hs,q⟩:=h;refine⟨_,rfl,e,x,c,C,L,cd,rfl,he,S,_,rfl,p,ys,rfl,hs,λl hl=>⟨l,ys,rfl,aY,λo=>?_⟩⟩;have ne:e≠l:=λz=>by rw[z,hl]at he;cases he
 rw[B0];refine⟨_,rfl,e,c,C,L,cd,rfl,S,hf,.inl ⟨by rw[aD ne];exact he,λd hd hde=>q l o d hl hd hde⟩⟩
section
variable{X:Cx}{k:Nat}{fd:FuncData}{ps:List Str}{e:Expr}{c f:Str}{C fI:Addr}
theorem Ae{gV:List (Addr×Obj)}{σ:St}{H:Hp}{s:Shared}{us:List Value}{pv:Addr}{ys:List V}{Q:Value->Shared->Prop}(T:XT X.K X.mg c C fI fd ps [f])(F:FnOk X.prog X.w X.K X.mg X.base CX0 k fI fd ps (Jm X.K f))(hr:k9 (k+1) X.A)(hz:us.length<=sizeLine)
  (I:Oq X gV σ H s) (r:bZ [V.ref pv] us) (hs:∀e o,H e=none->Ow X.K (Og H e o) pv ys)
  (hq:∀(s':Shared)(H':Hp)(e:Addr)(dx:Option Addr)(l:Addr)(o:Obj),Oq X gV σ H' s'->(∀b o,H b=some o->H' b=some o)->H' e=none->s.heap.objs.size<=e->Qb s'.heap e (.ref C) dx none->H' l=some (.frz o (.lst ys))->(∃d od,dx=some d/\H' d=some (.frz od (.xd [(f,.ref l)])))->Q (.ref e) s') :
  wpAny (model X.prog X.w) X.A (call (.ref C) us) Q X.xe s:=by
 obtain⟨hh,g,d0,tk,os⟩:=s;obtain⟨L,cd,S⟩:=i7 T.s;refine Mx I.kIn T.mkx hz λh' e hm hsz=>?_;obtain⟨tt,he,_,_⟩:=hm.there;have hn:H e=none:=I.hok.fresh hsz;have I1:Oq X gV σ (Og H e (XO e (.ref C) none)) ⟨h',g,d0,tk,os⟩:=I.laid (t':=tk) hm.keeps hsz (XO.ok ⟨_,_,he,v6,rfl⟩)
 have hsp:Jm X.K f [.ref e,.ref pv] (Og H e (XO e (.ref C) none)) (λv H2=>v=.non/\∃l o d,Og H e (XO e (.ref C) none) l=none/\Og (Og H e (XO e (.ref C) none)) l (.frz o (.lst ys)) d=none/\d≠e/\H2=Og (Og (Og (Og H e (XO e (.ref C) none)) l (.frz o (.lst ys))) d (XD d [(f,.ref l)])) e (XO e (.ref C) (some d))) E0 :=
  ⟨e,pv,ys,c,C,L,cd,rfl,aY,S,T.fn f v6,.inl (hs e _ hn),λl o d h1 h2 h3=>⟨rfl,l,o,d,h1,h2,h3,rfl⟩⟩
 have r2:bZ [V.ref e,V.ref pv] (Value.ref e::us):=.cons rfl r;have hl:(Value.ref e::us).length=ps.length:=by rw[<- r2.length];exact F.len _ _ _ _ hsp
 have bt:=T.b _ (Value.ref e::us) I1.kIn (by rw[List.append_nil];exact hl);rw[List.append_nil]at bt;refine wpAny_call (codeAny_mono (F.run _ X.stack _ _ ⟨Value.ref e::us,[]⟩ (Value.ref e::us) _ _ E0 (hr.make C us []) (I1.env0.make C us []) bt r2 hsp) λres s' hq'=>?_)
 cases res with
 |error x=>exact hq'.elim
 | ok fl =>
  cases fl with
  | ret u =>
   obtain⟨v,H2,I2,rv,ev,l,o,d,h1,h2,h3,rfl⟩:=I1.after hq';subst ev;refine⟨rv,?_⟩;have le:l≠e:=λz=>by rw[z,aY]at h1;cases h1
   have ld:d≠l:=λz=>by rw[z,aY]at h2;cases h2
   have hl0:H l=none:=by rw[aD le]at h1;exact h1
   have hd0:H d=none:=by rw[aD ld,aD h3]at h2;exact h2
   have e2:Og (Og (Og (Og H e (XO e (.ref C) none)) l (.frz o (.lst ys))) d (XD d [(f,.ref l)])) e (XO e (.ref C) (some d)) e=some (XO e (.ref C) (some d)):=aY;have fl:=I2.xo e2;have I3:=I2.forget e2;have hd3:Qa (Og (Og (Og (Og H e (XO e (.ref C) none)) l (.frz o (.lst ys))) d (XD d [(f,.ref l)])) e (XO e (.ref C) (some d))) e d=some (XD d [(f,.ref l)]):=by rw[di h3,aD h3,aY]
   have hl3:Qa (Og (Og (Og (Og H e (XO e (.ref C) none)) l (.frz o (.lst ys))) d (XD d [(f,.ref l)])) e (XO e (.ref C) (some d))) e l=some (.frz o (.lst ys)):=by rw[di le,aD le,aD (Ne.symm ld),aY]
   obtain⟨mA,nA,rA,_⟩:=I3.xd hd3;obtain⟨od,es,ep,hod,r1⟩:=id nA;have I4:=I3.reword (w:=.frz od (.xd [(f,.ref l)])) hd3 (λq=>q) (λ_ q=>nomatch q) ⟨hod,mA,nA,rA⟩ (λ_ _ _ q=>nomatch q);refine hq s' _ e (some d) l o I4 (λb ob q=>?_) (by rw[aD (Ne.symm h3)];exact pA) hsz fl (by rw[aD (Ne.symm ld)];exact hl3) ⟨d,od,rfl,aY⟩;have be:b≠e:=λz=>by rw[z,hn]at q;cases q
   have bl:b≠l:=λz=>by rw[z,hl0]at q;cases q
   have bd:b≠d:=λz=>by rw[z,hd0]at q;cases q
   rw[aD bd,di be,aD be,aD bd,aD bl,aD be];exact q
  |next=>exact False.elim hq'
  |brk=>exact False.elim hq'
  |cont=>exact False.elim hq'
end
end L2
namespace L2
open PySem PySem.Spec PyProof.Rows
noncomputable def LR:Of->D
 |.inl i=>.int i
 |.inr x=>.str x
theorem Ez{K:PySem.W.Frag}{H:Hp}:∀k:Of,O8 K H (kV k) (LR k)
 |.inl i=>.int i
 |.inr x=>.str x
theorem DR.of_reps{K:PySem.W.Frag}{H:Hp}:∀{vs:List (Of×V)}{ds:List D},bM K H (vs.map (·.2)) ds->DR K H vs ((vs.map (·.1)).zip ds)
 |[],_,.nil=>.nil
 |p::vs,_,.cons h t=>.cons ⟨rfl,h⟩ (DR.of_reps t)
theorem DR.reps{K:PySem.W.Frag}{H:Hp}:∀{vs:List (Of×V)}{kvs:List (Of×D)},DR K H vs kvs->vs.map (·.1)=kvs.map (·.1)/\bM K H (vs.map (·.2)) (kvs.map (·.2))
 |_,_,.nil=>⟨rfl,.nil⟩
 | p::vs,q::kvs,.cons h t=>by obtain⟨e,r⟩:=DR.reps t;exact⟨by rw[List.map_cons,List.map_cons,e,h.1],.cons h.2 r⟩
section
variable{K:PySem.W.Frag}{H:Hp}
theorem O8.dkOf{v:V}{ks:List Of}{ds:List D}(r:O8 K H v (.dk ks ds)):∃a o vs,v=.ref a/\H a=some (.frz o (.dK vs))/\vs.map (·.1)=ks/\DR K H vs (ks.zip ds):=by
 cases r with
 |dk h r=>exact⟨_,_,_,rfl,h,rfl,DR.of_reps r⟩
end
def Qu(i:Nat)(Z:Ev)(k:List (Of×D)->Prop):Prop:=match Z[i]? with
 |some (.d (.dk ks ds))=>k (ks.zip ds)
 |_=>False
theorem sQ{i:Nat}{Z:Ev}{k:List (Of×D)->Prop}(h:Qu i Z k):∃ks ds,Z[i]?=some (.d (.dk ks ds))/\k (ks.zip ds):=by
 unfold Qu at h;split at h
 . rename_i ks ds q;exact⟨ks,ds,q,h⟩
 . exact h.elim
section
variable{X:Cx}{a b e:Expr}{pos p:Pos}{tb:W L}{x:Str}
theorem aA.dkAt{Pr H:Hp}{σ:St}{Z:Ev}{i:Nat}{ks:List Of}{ds:List D}(E:aA X.K Pr H σ Z)(q:Z[i]?=some (.d (.dk ks ds))):∃a o vs,σ[i]?=some (some (.ref a))/\H a=some (.frz o (.dK vs))/\DR X.K H vs (ks.zip ds):=by obtain⟨sv,hs,v,rfl,r⟩:=E.slot q;obtain⟨a,o,vs,rfl,h,_,d⟩:=r.dkOf;exact⟨a,o,vs,hs,h,d⟩
theorem Oq.dkOk{gV:List (Addr×Obj)}{σ:St}{H:Hp}{s:Shared}{a:Addr}{o:Obj}{vs:List (Of×V)}(I:Oq X gV σ H s)(h:H a=some (.frz o (.dK vs))):vs.length<=sizeLine/\(a == sysModules)=false/\∃us,KV vs us/\s.heap.DictOf (da X.prog X.w) a us :=
 (show s.heap.get? a=some o/\_ from I.hok a _ h).2
def LS:W L:=λZ p4=>p4 (.d (.dk [] [])) Z
theorem Gf:PL X (.Dict [] [] pos) LS:=by intro gV s σ H Pr Z p4 I E hq;have hf:H s.heap.objs.size=none:=I.hok.fresh (SN _);have I1:=I.laid (a:=s.heap.objs.size) (o:=.dK []) (h':=s.heap.push {cls:=.type "dict",data:=.dict #[] }) (t':=s.toks) (λ_ _ q=>tu _ q) (SN _) ⟨Nat.zero_le _,I.past,[],.nil,Heap.DictOf.new s.heap⟩;obtain⟨o,I2⟩:=I1.freezeD aY;rw[Gz]at I2;exact wpAny_Dict_empty ⟨.ref s.heap.objs.size,_,.d (.dk [] []),Z,I2,rfl,(E.new hf).cons_d (.dk (kvs:=[]) aY .nil),hq⟩
def Jn(neg:Bool)(i:Nat)(tb:W L):W L:=λZ p4=>tb Z λr Z1=>Pb r λkd=>lr kd λkey=>Qu i Z1 λkvs=>p4 (.d (.bl (if neg then !(vM kvs key).isSome else(vM kvs key).isSome))) Z1
theorem B1{gV:List (Addr×Obj)}{σ:St}{H Pr:Hp}{s:Shared}{Z:Ev}{i:Nat}{α:Type}{Q:α->Shared->Prop}{f:Value->Value->Sem α}{R:Bool->Ev->Prop}(hb:PL X b tb)(hN:X.N[i]?=some x)(hv:On X.env.scope x) (hd:(x == ("__debug__" : Str))=false) (hcd:(x == ("__classdict__" : Str))=false) (I:Oq X gV σ H s) (E:aA X.K Pr H σ Z)
  (h:tb Z λr Z1=>Pb r λkd=>lr kd λkey=>Qu i Z1 λkvs=>R (vM kvs key).isSome Z1)
  (hf:∀(u:Value)(a:Addr)(key:Of)(s2:Shared)(H2:Hp)(Z2:Ev)(us:List (Of×Value))(c:Bool),Oq X gV σ H2 s2->aA X.K Pr H2 σ Z2->bU (kV key) u->(a == sysModules)=false->s2.heap.DictOf (da X.prog X.w) a us->(valueAt us key).isSome=c->R c Z2->wpAny (model X.prog X.w) X.A (f u (.ref a)) Q X.xe s2) :
  wpAny (model X.prog X.w) X.A (eval b X.env) (λv s₁=>wpAny (model X.prog X.w) X.A (eval (.Name x p) X.env) (λu s₂=>wpAny (model X.prog X.w) X.A (f v u) Q X.xe s₂) X.xe s₁) X.xe s:=by
 refine Ot (hb gV s σ H Pr Z _ I E h) λu s1 q=>?_;obtain⟨v,H2,kd,Z2,I2,r2,E2,q2⟩:=EL.frz (p4:=λkd Z1=>lr kd λkey=>Qu i Z1 λkvs=>R (vM kvs key).isSome Z1) q;obtain⟨_,e1,p1⟩:=E2.head_d;cases e1;obtain⟨key,rfl,r3,q3⟩:=mv q2 p1 r2;obtain⟨ks,ds,qd,q4⟩:=sQ q3;obtain⟨a,o,vs,hσ,hl,r⟩:=E2.tail.dkAt qd;refine Ot (cR hN hv hd hcd gV s1 σ H2 (λv H'=>v=.ref a/\H2=H') I2 ⟨_,hσ,rfl,rfl⟩) λu2 s2 jqz=>?_;obtain⟨y,H3,I3,rx,e1,e2⟩:=jqz;subst e1 e2;cases rx;obtain⟨_,hS,us,rel,dd⟩:=I3.dkOk hl;refine hf u a key s2 H2 Z2 us _ I3 E2.tail r3 hS dd ?_ q4;rw[<- (rel.val key).isSome_eq];rcases r.val (k:=key)with⟨z,z'⟩|⟨d,w,z1,z2,z3⟩
 . rw[z,z'];rfl
 . rw[z1,z2];rfl
theorem KQ(i:Nat)(hb:PL X b tb)(hm:behindInMarks .In (.Name x p)=false)(hN:X.N[i]?=some x:=by rfl)(hv:On X.env.scope x:=by first | exact Or.inl rfl | exact Or.inr (Or.inl rfl) | exact Or.inr (Or.inr rfl)) (hd:(x == ("__debug__" : Str))=false:=by decide)
  (hcd:(x == ("__classdict__" : Str))=false:=by decide):PB X (.Compare b [.In] [.Name x p] pos) (aZ (Jn false i tb)):=λgV s σ H Pr Z p4 I E h =>
 wpAny_isTrue_Compare1 (B1 (R:=λc Z1=>p4 c Z1) hb hN hv hd hcd I E h λu a key s2 H2 Z2 us c I2 E2 r3 hS dd e q=>wpAny_in_of (Ac r3) hS dd.mapOf (by rw[e];exact wpAny_truthy_bool ⟨H2,Z2,I2.tok _,E2,q⟩)) hm
theorem B2(i:Nat)(hb:PL X b tb)(hm:behindInMarks .NotIn (.Name x p)=false)(hN:X.N[i]?=some x:=by rfl)(hv:On X.env.scope x:=by first | exact Or.inl rfl | exact Or.inr (Or.inl rfl) | exact Or.inr (Or.inr rfl)) (hd:(x == ("__debug__" : Str))=false:=by decide)
  (hcd:(x == ("__classdict__" : Str))=false:=by decide):PB X (.Compare b [.NotIn] [.Name x p] pos) (aZ (Jn true i tb)):=λgV s σ H Pr Z p4 I E h =>
 wpAny_isTrue_Compare1 (B1 (R:=λc Z1=>p4 (!c) Z1) hb hN hv hd hcd I E h λu a key s2 H2 Z2 us c I2 E2 r3 hS dd e q=>wpAny_notIn_of (Ac r3) hS dd.mapOf (by rw[e];exact wpAny_truthy_bool ⟨H2,Z2,I2.tok _,E2,q⟩)) hm
def HV(i:Nat)(tb:W L):W L:=λZ p4=>Qu i Z λ_=>tb Z λr Z1=>Pb r λkd=>lr kd λkey=>Qu i Z1 λkvs=>∃y,vM kvs key=some y/\p4 (.d y) Z1
theorem HW(i:Nat)(hb:PL X b tb)(hs:MF b)(hN:X.N[i]?=some x:=by rfl)(hv:On X.env.scope x:=by first | exact Or.inl rfl | exact Or.inr (Or.inl rfl) | exact Or.inr (Or.inr rfl)) (hd:(x == ("__debug__" : Str))=false:=by decide)
  (hcd:(x == ("__classdict__" : Str))=false:=by decide):PL X (.Subscript (.Name x p) b pos) (HV i tb):=by
 intro gV s σ H Pr Z p4 I E h;obtain⟨ks0,ds0,q0,h⟩:=sQ h;obtain⟨a,o0,vs0,hσ,_,_⟩:=E.dkAt q0;refine BW PySem.F.slot_dict_getitem.lookup hs (Ot (cR hN hv hd hcd gV s σ H (λv H'=>v=.ref a/\H=H') I ⟨_,hσ,rfl,rfl⟩) λu s1 jqz=>?_);obtain⟨y,H1,I1,rx,e1,e2⟩:=jqz;subst e1 e2;cases rx;refine Ot (hb gV s1 σ H Pr Z _ I1 E h) λu2 s2 q=>?_;obtain⟨v,H2,kd,Z2,I2,r2,E2,q2⟩:=EL.frz (p4:=λkd Z1=>lr kd λkey=>Qu i Z1 λkvs=>∃y,vM kvs key=some y/\p4 (.d y) Z1) q;obtain⟨_,e1,p1⟩:=E2.head_d;cases e1;obtain⟨key,rfl,r3,q3⟩:=mv q2 p1 r2;obtain⟨ks,ds,qd,y,hy,q4⟩:=sQ q3;obtain⟨a',o,vs,hσ',hl,r⟩:=E2.tail.dkAt qd;rw[hσ]at hσ';cases hσ';obtain⟨_,_,us,rel,dd⟩:=I2.dkOk hl;rcases r.val (k:=key)with⟨z,_⟩|⟨d,w,z1,z2,z3⟩
 . rw[hy]at z;cases z
 . rw[hy]at z1;cases z1;obtain⟨w',hw,rw'⟩:=wM.some_of (v:=w) (o:=valueAt us key) (by rw[<- z2];exact rel.val key);exact⟨dd.typeIs,wpAny_getItem_of (Ac r3) dd.mapOf hw ⟨w,H2,_,Z2,I2.tok _,rw',E2.tail.cons_d z3,q4⟩⟩
def LU(i:Nat):W L:=λZ p4=>AJ i Z λ_ kvs=>p4 (.d (.dk (kvs.map (·.1)) (kvs.map (·.2)))) (Z.set i (.d (.dk (kvs.map (·.1)) (kvs.map (·.2)))))
theorem aA.freezeDic{K:PySem.W.Frag}{Pr H:Hp}{σ:St}{Z:Ev}{a:Addr}{kvs:List (Of×D)}(E:aA K Pr H σ (.dic a kvs::Z)){vs:List (Of×V)}(h:H a=some (.dK vs))(o:Obj):aA K Pr (Og H a (.frz o (.dK vs))) σ (.d (.dk (kvs.map (·.1)) (kvs.map (·.2)))::Z):=by
 have pa:Pr a=none:=E.off a (by rw[bK];exact SE);have nd:=E.nd;rw[bK]at nd;obtain⟨hn,nd⟩:=List.nodup_cons.mp nd;have p:sH H (Og H a (.frz o (.dK vs))):=λb u pu e=>by rw[aD];exact e;rintro rfl;rw[h]at e;cases e;exact pu
 refine⟨λb u e=>?_,nd,λb hb=>E.off b (by rw[bK];exact SC _ hb),?_⟩
 . rw[aD];exact E.sub b u e;rintro rfl;rw[pa]at e;cases e
 .
  have sl:=E.sl
  cases sl with
  | cons q t =>
   unfold bI at q;obtain⟨e,us,e2,r⟩:=q;rw[h]at e2;cases e2;obtain⟨ek,rv⟩:=DR.reps r;refine .cons ⟨.ref a,e,by rw[<- ek];exact .dk aY (rv.pres p)⟩ (Paired.impMem t λl hl s z=>z.pres p l λb hbm=>?_);rw[aD];rintro rfl;exact hn (dN.mpr ⟨l,hl,hbm⟩)
theorem Gg(i:Nat)(hN:X.N[i]?=some x:=by rfl)(hv:On X.env.scope x:=by first | exact Or.inl rfl | exact Or.inr (Or.inl rfl) | exact Or.inr (Or.inr rfl)) (hd:(x == ("__debug__" : Str))=false:=by decide)
  (hcd:(x == ("__classdict__" : Str))=false:=by decide):PL X (.Name x p) (LU i):=by
 intro gV s σ H Pr Z p4 I E h;obtain⟨a,kvs,q,h⟩:=qc h;obtain⟨hs,vs,ha,r⟩:=E.dicAt q;refine Ot (cR hN hv hd hcd gV s σ H (λw H'=>w=.ref a/\H'=H) I ⟨.ref a,hs,rfl,rfl⟩) λu s1 jqz=>?_;obtain⟨w,H1,I1,r1,e1,e2⟩:=jqz;subst e1 e2;obtain⟨o,I2⟩:=I1.freezeD ha;have E2:=(E.outL q hs).freezeDic ha o;have hi:i<Z.length:=(SB.mp q).1;have E3:=E2.back (i:=i) (by simp[hi]) hs;rw[List.set_set]at E3;obtain⟨_,e,p⟩:=E2.head_d;cases e;exact⟨_,_,_,_,I2,r1,E3.cons_d p,h⟩
def LV(i:Nat):W L:=λZ p4=>Qu i Z λkvs=>∀a,p4 (.dic a kvs) Z
theorem Gh{pn:Pos}(i:Nat) (hg:Gl X "dict") (hm:X.mg "dict"=none) (hN:X.N[i]?=some x:=by rfl) (hv:On X.env.scope x:=by first | exact Or.inl rfl | exact Or.inr (Or.inl rfl) | exact Or.inr (Or.inr rfl)) (hd:(x == ("__debug__" : Str))=false:=by decide)
  (hcd:(x == ("__classdict__" : Str))=false:=by decide) (hs:starEach [.Name x p] X.env=[(false,eval (.Name x p) X.env)]:=by rfl):PL X (.Call (.Name "dict" pn) [.Name x p] [] pos) (LV i):=by
 intro gV s σ H Pr Z p4 I E h;obtain⟨ks,ds,q,h⟩:=sQ h;obtain⟨a,o,vs,hσ,hl,r⟩:=E.dkAt q;refine Call_ (iJ I hg hm (show bootBuiltins "dict"=some (.type "dict") by decide +kernel) (PyProof.Rows.callWith_type1 (Ot (cM (cR hN hv hd hcd) iZ hs pos gV s σ H (λvs H1=>vs=[V.ref a]/\H1=H) I ⟨.ref a,hσ,rfl,rfl⟩) λus s1 ⟨vs',H1,I1,r1,q1⟩=>?_) hs rfl));obtain⟨e1,e2⟩:=q1;subst e1 e2;obtain⟨u,rfl,ru⟩:=r1.one;cases ru;obtain⟨z,hS,us,rel,dd⟩:=I1.dkOk hl;refine kt_call_dict hS dd (by rw[<- rel.length];exact z) λh' dd' sb=>?_;have hf:H1 s1.heap.objs.size=none:=I1.hok.fresh (SN _);have I2:=I1.laid (a:=s1.heap.objs.size) (o:=.dK vs) (h':=h') (t':=s1.toks) (λb u q=>(sb.2 b (Nat.ne_of_lt (SI q))).trans (tu _ q)) (SN _) ⟨z,I1.past,us,rel,dd'⟩;exact⟨.ref s1.heap.objs.size,_,_,Z,I2,rfl,E.cons_dic hf r,h _⟩
def get2(ds:List D)(i:Nat)(Z1:Ev)(p4:L->Ev->Prop):Prop:=match ds with
 |[kd,y]=>lr kd λkey=>Qu i Z1 λkvs=>p4 (.d ((vM kvs key).getD y)) Z1
 |_=>False
theorem HX{ds:List D}{i:Nat}{Z1:Ev}{p4:L->Ev->Prop}(h:get2 ds i Z1 p4):∃kd y,ds=[kd,y]/\lr kd λkey=>Qu i Z1 λkvs=>p4 (.d ((vM kvs key).getD y)) Z1:=by
 unfold get2 at h;split at h
 . exact⟨_,_,rfl,h⟩
 . exact h.elim
def B3(i:Nat)(t:W (List L)):W L:=λZ p4=>Qu i Z λ_=>t Z λls Z1=>DS ls λds=>get2 ds i Z1 p4
theorem EC{bs:List (Option Nat)}{t:W (List L)}{es:List Expr}{apos cpos:Pos}(i:Nat)(ha:O9 X (e::es) bs t)(hN:X.N[i]?=some x:=by rfl)(hv:On X.env.scope x:=by first | exact Or.inl rfl | exact Or.inr (Or.inl rfl) | exact Or.inr (Or.inr rfl)) (hd:(x == ("__debug__" : Str))=false:=by decide)
  (hcd:(x == ("__classdict__" : Str))=false:=by decide) (hbase:attributeBase (.Name x p) "get" X.env (eval (.Name x p) X.env)=eval (.Name x p) X.env:=by rfl)
  (hfew:((backTo cpos (starEach (e::es) X.env)).all (λx=>!x.1) && (backToKw cpos (keywordEach [] X.env)).all (λx=>x.1.isSome)
   && decide ((e::es).length+([]:List Keyword).length+(if([]:List Keyword).isEmpty then 0 else 1)<30))=true:=by rfl)
  (hline:(apos.endLine == cpos.line)=true:=by rfl) (hs:starEach (e::es) X.env=(false,eval e X.env)::starEach es X.env:=by rfl) (hplain:(backTo cpos (starEach es X.env)).any (·.1)=false:=by rfl) :
  PL X (.Call (.Attribute (.Name x p) "get" apos) (e::es) [] cpos) (B3 i t):=by
 intro gV s σ H Pr Z p4 I E h;obtain⟨ks0,ds0,q0,h⟩:=sQ h;obtain⟨a,o0,vs0,hσ,hl0,_⟩:=E.dkAt q0;refine wpAny_Call_method_late hbase hfew hline rfl (Ot (cR hN hv hd hcd gV s σ H (λv H'=>v=.ref a/\H'=H) I ⟨_,hσ,rfl,rfl⟩) λu s1 jqz=>?_);obtain⟨y,H1,I1,rx,e1,e2⟩:=jqz;subst e1 e2;cases rx;obtain⟨_,hS0,us0,_,dd0⟩:=I1.dkOk hl0;refine⟨"dict","dict.get",F.plainAttrs_dict,F.slot_dict_get,F.type_dict_get,dd0.typeIs,dd0.mapOf.noDict,?_⟩;have hA:=ha cpos gV s1 σ H1 Pr Z _ I1 E h;rw[hs]at hA ⊢;refine Calls.callWith_builtin (by show(false ||(backTo cpos (starEach es X.env)).any (·.1))=false;rw[hplain]<;>rfl) (Calls.evalArgs_plain ?_);refine Ot hA λus s2 jqz=>?_;obtain⟨vs,H2,ls,Z2,I2,r2,hl,hbl,E2,hv2,q⟩:=jqz;obtain⟨ds,hls,q1⟩:=i9 q;clear q;subst hls;obtain⟨kd,y,hds,q⟩:=HX q1;clear q1;subst hds
 obtain⟨v1,v2,rfl⟩:∃v1 v2,vs=[v1,v2]:=by
  match vs,hl with
  |[v1,v2],_=>exact⟨v1,v2,rfl⟩
 obtain⟨u1,r3,rr⟩:∃u1,bU v1 u1/\∃u2,bU v2 u2/\us=[u1,u2]:=by
  cases r2 with
  | cons h1 t1=>cases t1 with
   |cons h2 t2=>cases t2;exact⟨_,h1,_,h2,rfl⟩
 obtain⟨u2,r4,rfl⟩:=rr;have E2:aA X.K Pr H2 (some v1::some v2::σ) (.d kd::.d y::Z2):=E2;obtain⟨_,e1,p1⟩:=E2.head_d;cases e1;obtain⟨_,e2,p2⟩:=E2.tail.head_d;cases e2;obtain⟨key,rfl,r5,q3⟩:=mv q p1 r3;obtain⟨ks,ds,qd,q4⟩:=sQ q3;obtain⟨a',o,vs,hσ',hl',r⟩:=E2.tail.tail.dkAt qd;rw[hσ]at hσ';cases hσ';obtain⟨_,hS,us,rel,dd⟩:=I2.dkOk hl';refine call_meetsIn F.slot_dict_get dd.typeIs F.entry_dict_get (F.args_dict_get_3 _ _ _) (meets_dict_get_default (da X.prog X.w) a (Ac r5) hS u2) ⟨_,dd.mapOf,?_⟩;rcases r.val (k:=key)with⟨z,z'⟩|⟨d,w,z1,z2,z3⟩
 .
  have:valueAt us key=none:=by
   have h3:=rel.val key;rw[z']at h3
   cases h4:valueAt us key with
   |none=>rfl
   |some _=>rw[h4]at h3;exact h3.elim
  rw[z]at q4;rw[this];exact⟨v2,H2,.d y,Z2,I2.tok _,r4,E2.tail.tail.cons_d p2,q4⟩
 . obtain⟨w',hw,rw'⟩:=wM.some_of (v:=w) (o:=valueAt us key) (by rw[<- z2];exact rel.val key);rw[z1]at q4;rw[hw];exact⟨w,H2,.d d,Z2,I2.tok _,rw',E2.tail.tail.cons_d z3,q4⟩
def B4(d:D)(k:List D->Prop):Prop:=match d with
 |.dk ks _=>k (ks.map LR)
 |_=>False
def HY(t:W L):W (List D):=λZ p4=>t Z λr Z1=>Pb r λx=>B4 x λxs=>p4 xs Z1
noncomputable def Qv(a:Addr)(o:Obj)(vs:List (Of×V)):It:=⟨λi H=>i<vs.length/\H a=some (.frz o (.dK vs)),λi H v H'=>(∃k,vs[i]?=some k/\v=kV k.1)/\H'=H,λi H=>vs.length<=i/\H a=some (.frz o (.dK vs))⟩
theorem MK{P:Program}{w:World}{k:Of}{u:Value}(h:(da P w).is k u=true):bU (kV k) u:=by
 cases k with
 |inl i=>cases u<;>simp_all [da,uZ,Value.isInt,kV,bU]
 |inr i=>cases u<;>simp_all [da,uZ,Value.isStrOf,kV,bU]
theorem Oq.dkAt2{gV:List (Addr×Obj)}{σ:St}{H:Hp}{s:Shared}{a:Addr}{o:Obj}{vs:List (Of×V)}{es:Array DictEntry}{ep:Nat}(I:Oq X gV σ H s)(h:H a=some (.frz o (.dK vs)))(ho:o.data=.dict es ep):∃us,KV vs us/\s.heap.DictAt (da X.prog X.w) a us ep:=by
 obtain⟨_,_,us,rel,o',es',ep',e1,c1,d1,r⟩:=I.dkOk h;have e2:=(show s.heap.get? a=some o/\_ from I.hok a _ h).1;have eo:o'=o:=by rw[e1]at e2;exact Option.some.inj e2
 rw[eo]at d1 c1 e1;have ed:=d1.symm.trans ho;have eep:ep'=ep:=by injection ed
 subst eep;exact⟨us,rel,o,es',e1,c1,d1,r⟩
theorem KR:∀{vs:List (Of×V)}{us:List (Of×Value)}{i:Nat}{k:Of×V},KV vs us->vs[i]?=some k->∃u,us[i]?=some u/\k.1=u.1
 |_,_,0,_,.cons h _,e=>by cases e;exact⟨_,rfl,h.1⟩
 | _,_,i+1,k,.cons _ t,e=>by obtain⟨u,h1,h2⟩:=KR (i:=i) (k:=k) t (by simpa using e);exact⟨u,by simpa using h1,h2⟩
theorem B5{P:Program}{w:World}{K:PySem.W.Frag}{tg:Expr}(it a:Addr)(o:Obj)(vs:List (Of×V))(es:Array DictEntry)(ep:Nat)(ho:o.data=.dict es ep):GH P w K tg (Qv a o vs) [it] it (λi h=>h.IsKeyIter it a i vs.length ep) where
 mem:=by simp
 obj:=λi h st b hb=>by
  have e:b=it:=by simpa using hb
  subst e;obtain⟨o,e,c,d⟩:=st;exact⟨o,e,λv z=>by rw[d]at z;cases z⟩
 keep:=λi h h' st k=>by obtain⟨o,e,c,d⟩:=st;exact⟨o,k it v6 o e,c,d⟩
 item:=by intro X hP hw hK hc i gV s σ H E I hf st hg;subst hP hw hK;obtain⟨hg,ha⟩:=hg;obtain⟨f0,f1,f2,f3,f4,f5⟩:=hf it v6;obtain⟨us,rel,dd⟩:=I.dkAt2 ha ho;have hl:=rel.length;obtain⟨k,hk⟩:∃k,vs[i]?=some k:=⟨_,so hg⟩;obtain⟨u,hu,e1⟩:=KR rel hk;rw[hl]at st;refine wpAny_pyNext_dict_item (k:=u.1) (v:=u.2) st dd hu λkey h' hkey st' sb=>?_;have I1:Oq X gV σ H {s with heap:=h' }:=I.turned (t':=s.toks) (λb o hb e=>(sb.2 b hb).trans e) f0 f1 f3 f4 f5;rw[<- hl]at st';obtain⟨o2,e,c,d⟩:=id st';exact⟨_,rfl,Du (s:={s with heap:=h' }) e c d x_ ⟨kV k.1,H,I1,by rw[e1];exact MK hkey,⟨⟨k,hk,rfl⟩,rfl⟩,st',λb hb=>(hf b hb).1⟩⟩
 done:=by intro X hP hw hK hc i gV s σ H E I hf st hg;subst hP hw hK;obtain⟨hg,ha⟩:=hg;obtain⟨f0,f1,f2,f3,f4,f5⟩:=hf it v6;obtain⟨us,rel,dd⟩:=I.dkAt2 ha ho;have hl:=rel.length;rw[hl]at st;exact wpAny_pyNext_dict_end (I.ok.hd hc) st dd (List.getElem?_eq_none xL) λh' eb=>⟨rfl,I.turned (t':=s.toks) (λb o hb e=>eb b o hb e) f0 f1 f3 f4 f5⟩
 self:=λ_ _ _ _ _ st h=>wpAny_pyIter_keyiter st h
theorem Af{K:PySem.W.Frag}{H:Hp}{a:Addr}{o:Obj}{vs:List (Of×V)}(h:H a=some (.frz o (.dK vs))):zN K H (Qv a o vs) ((vs.map (·.1)).map LR):=λH' p=>by
 have h':=p a (.frz o (.dK vs)) True.intro h;refine⟨λi y e=>?_,?_⟩
 .
  rw[List.map_map,List.getElem?_map]at e
  cases hc:vs[i]? with
  |none=>rw[hc]at e;cases e
  | some c =>
   rw[hc]at e;cases e;refine⟨⟨(SB.mp hc).1,h'⟩,λv H2 ⟨⟨k,e1,e2⟩,e3⟩=>?_⟩;rw[hc]at e1;cases e1;subst e2 e3;exact⟨.inl rfl,Ez _⟩
 . exact⟨v6,h'⟩
theorem ED{tg:Expr}{t:W L}(h:PL X e t):Pn X tg e (HY t):=by
 intro gV s σ H Pr Z p4 I E ht;refine Ot (h gV s σ H Pr Z _ I E ht) λu s1 q=>?_;obtain⟨v,H1,x,Z1,I1,r1,E1,q2⟩:=EL.frz (p4:=λx Z1=>B4 x λxs=>p4 xs Z1) q;obtain⟨_,e1,p⟩:=E1.head_d;cases e1
 cases p with
 | @dk a o vs ds hz rs =>
  cases r1;have q3:p4 ((vs.map (·.1)).map LR) Z1:=q2;obtain⟨_,hS,us,rel,o',es,ep,e1,c1,d1,r⟩:=I1.dkOk hz;have e2:=(show s1.heap.get? a=some o/\_ from I1.hok a _ hz).1;have eo:o'=o:=by rw[e1]at e2;exact Option.some.inj e2
  subst eo;refine wpAny_pyIter_dict hS ⟨o',es,e1,c1,d1,r⟩ ?_;refine⟨s1.heap.objs.size,[s1.heap.objs.size],_,_,H1,_,Z1,rfl,I1.kept (t':=s1.toks) λb o e=>tu _ e,B5 _ a o' vs es ep d1,⟨_,Heap.get?_push_size _ rfl,rfl,by rw[rel.length];rfl⟩,λb hb=>?_,E1.tail,Af hz,q3⟩;have e:b=s1.heap.objs.size:=by simpa using hb
  subst e;exact I1.fpOk (SN _) (I1.hok.fresh (SN _))
 |_=>exact q2.elim
end
end L2
namespace L2
open PySem PySem.Spec PyProof.Rows PySem.W
section
variable{X:Cx}{k':Nat}{fd:FuncData}{ps:List Str}{p pos cpos:Pos}{e:Expr}{bs:List (Option Nat)}{t:W (List L)}{c f:Str}{C fI:Addr}{xp:Xc->Prop}
def xr(c f:Str)(xp:Xc->Prop)(t:W (List L)):W Fl:=λZ _=>t Z λls _=>DS ls λds=>∃xs,ds=[.lst xs]/\xp ⟨c,[f],[.lst xs]⟩
theorem B6(T:XT X.K X.mg c C fI fd ps [f])(F:FnOk X.prog X.w X.K X.mg X.base CX0 2 fI fd ps (Jm X.K f))(hr:k9 k' X.A)(hx:Qg X xp)(ha:O9 X [e] bs t)(hk:3<=k':=by decide)(hg:Gl X c:=by rfl)(hn:bs.length=1:=by rfl)
  (hdb:(c == ("__debug__" : Str))=false:=by decide) (he:starEach [e] X.env=(false,eval e X.env)::starEach [] X.env:=by rfl) (hpl:(backTo cpos (starEach [] X.env)).any (·.1)=false:=by rfl) :
  PM X (.Raise (some (.Call (.Name c p) [e] [] cpos)) none pos) (xr c f xp t):=by
 intro gV s σ H Pr Z p4 I E0 h;obtain⟨LL,cd,S⟩:=i7 T.s;rw[arm_exec_Raise];refine kS (wpAny_standAt ?_);refine KC S hr.hd (kS (wpAny_mono (wpAny_Call_Name_kw (k8 I hg T.m ?_ hdb)) (λv s3 h3=>kS (wpAny_standAt (SG h3))) λ_ _ z=>z));refine PySem.W.callWith_K (h₀:=X.base) I.ok.mod.kin T.kp (Ot (ha cpos gV s σ H Pr Z _ I E0 h) λus s1 ⟨vs,H1,ls,Z1,I1,r,hl,hbl,E1,hv,q⟩=>⟨I1.kIn,?_⟩) he hpl;obtain⟨ds,rfl,xs,eds,q2⟩:=i9 q;subst eds;have kz:vs.length=1:=by simpa using hl
 have rs:=lg (show vs.length=[D.lst xs].length from kz) E1;obtain⟨v,rfl,rv⟩:=pX rs
 cases rv with
 | @lst pa ys _ hz rr =>
  refine Ae T F (hr.mono hk) (by show us.length<=sizeLine;rw[<- r.length,kz];decide) I1 r (λe o hn=>(hz.pres λb ob _ q=>by rw[aD (bq q hn)];exact q).l) λs' H' a dx l o I2 up na hsz fl hl' ⟨d,od,z1,z2⟩=>⟨a,dx,rfl,I2.kIn,fl,?_⟩;refine hx gV σ H' s' a _ dx none ⟨c,[f],[.lst xs]⟩ I2 ⟨fl,na,(λ_ z=>nomatch z),I1.newer hsz,(λ_ z=>nomatch z)⟩ ?_ q2;exact⟨C,[.ref l],rfl,T.s,T.fn,.inr ⟨d,od,z1,z2,rfl⟩,.cons (.lst (.inl ⟨o,hl'⟩) (rr.pres λb ob _ q=>up b ob q)) .nil⟩
end
end L2
namespace L2
open PySem
theorem mw{g:Tg}{b:W Fl}{p4:Fl->Ev->Prop}:∀(xs:List D)(I:Nat->Ev->Prop)(Z:Ev),I 0 Z ->
  (∀j x Z,xs[j]?=some x->I j Z->∀Q:Fl->Ev->Prop,(∀Z',I (j+1) Z'->Q .nx Z')->(∀Z',I (j+1) Z'->Q .ct Z')->(∀Z',p4 .nx Z'->Q .bk Z')->(∀r Z',p4 (.rt r) Z'->Q (.rt r) Z')->g x Z λZ1=>b Z1 Q) ->
  (∀Z,I xs.length Z->p4 .nx Z)->mh g b xs Z p4
 |[],I,Z,h0,_,Ov=>Ov Z h0
 | x::xs,I,Z,h0,step,Ov=>by
  unfold mh;refine step 0 x Z rfl h0 _ (λZ' h=>?_) (λZ' h=>?_) (λZ' h=>h) (λr Z' h=>h)
  . exact mw xs (λj=>I (j+1)) Z' h (λj y Z e hi=>step (j+1) y Z e hi) Ov
  . exact mw xs (λj=>I (j+1)) Z' h (λj y Z e hi=>step (j+1) y Z e hi) Ov
theorem j4{α:Type}{enc:α->D}{g:Tg}{b:W Fl}{p4:Fl->Ev->Prop}(as:List α)(I:List α->Ev->Prop)(Z:Ev)(h0:I [] Z)
  (step:∀pre a suf Z,as=pre++a::suf->I pre Z->∀Q:Fl->Ev->Prop,(∀Z',I (pre++[a]) Z'->Q .nx Z')->(∀Z',I (pre++[a]) Z'->Q .ct Z')->(∀Z',p4 .nx Z'->Q .bk Z')->(∀r Z',p4 (.rt r) Z'->Q (.rt r) Z')->g (enc a) Z λZ1=>b Z1 Q)
  (Ov:∀Z,I as Z->p4 .nx Z):mh g b (as.map enc) Z p4:=by
 refine mw _ (λj Z=>I (as.take j) Z) Z h0 (λj x Z e hi Q h1 h2 h3 h4=>?_) λZ h=>Ov Z (by simpa using h);rw[List.getElem?_map]at e
 cases ea:as[j]? with
 |none=>rw[ea]at e;cases e
 | some a =>
  rw[ea]at e;cases e;obtain⟨hj,ea'⟩:=SB.mp ea;have es:as.take (j+1)=as.take j++[a]:=by rw[List.take_succ,ea];rfl
  have ed:as=as.take j++a::as.drop (j+1):=by have:=(List.take_append_drop j as).symm;rw[List.drop_eq_getElem_cons hj,ea']at this;exact this
  rw[es]at h1 h2;exact step _ a _ Z ed hi Q h1 h2 h3 h4
theorem t9{g:Tg}{ti:W Bool}{te:W L}{k:List D->Ev->Prop}:∀(xs:List D)(I:Nat->Ev->List D->Prop)(Z:Ev)(acc:List D),I 0 Z acc ->
  (∀j x Z acc,xs[j]?=some x->I j Z acc->∀Q:Ev->List D->Prop,(∀Z' acc',I (j+1) Z' acc'->Q Z' acc')->g x Z λZ1=>ti Z1 λb Z2=>if b=true then te Z2 λr Z3=>Pb r λy=>Q Z3 (acc++[y])else Q Z2 acc) ->
  (∀Z acc,I xs.length Z acc->k acc Z)->eI g ti te xs Z acc k
 |[],I,Z,acc,h0,_,Ov=>Ov Z acc h0
 | x::xs,I,Z,acc,h0,step,Ov=>by unfold eI;exact step 0 x Z acc rfl h0 (λZ acc=>eI g ti te xs Z acc k) λZ' acc' h=>t9 xs (λj=>I (j+1)) Z' acc' h (λj y Z acc e hi=>step (j+1) y Z acc e hi) Ov
theorem d7{α:Type}{enc:α->D}{h:α->Option D}{caps:Ev}{ti:W Bool}{te:W L}{k:List D->Ev->Prop}:∀(as:List α)(acc:List D)(l:L),
  (∀a∈as,∀Q:Ev->Option D->Prop,Q (.d (enc a)::caps) (h a)->ti (.d (enc a)::caps) λb Z2=>if b=true then te Z2 λr Z3=>Pb r λy=>Q Z3 (some y)else Q Z2 none) ->
  (∀l',k (acc++as.filterMap h) (l'::caps))->eI (aW 0) ti te (as.map enc) (l::caps) acc k
 |[],acc,l,_,Ov=>by have:=Ov l;simpa[eI]using this
 | a::as,acc,l,step,Ov=>by
  show eI (aW 0) ti te (enc a::as.map enc) (l::caps) acc k;unfold eI;show ti (.d (enc a)::caps) _
  refine step a SE (λZ o=>match o with|some y=>eI (aW 0) ti te (as.map enc) Z (acc++[y]) k|none=>eI (aW 0) ti te (as.map enc) Z acc k) ?_
  cases e:h a with
  |none=>exact d7 as acc _ (λb hb=>step b (SC _ hb)) (by simpa[List.filterMap_cons,e]using Ov)
  |some y=>exact d7 as (acc++[y]) _ (λb hb=>step b (SC _ hb)) (by simpa[List.filterMap_cons,e]using Ov)
theorem cD{α:Type}{enc:α->D}{h:α->D}{caps:Ev}{te:W L}{k:List D->Ev->Prop}(as:List α)(acc:List D)(l:L)
  (step:∀a∈as,∀Q:Ev->D->Prop,Q (.d (enc a)::caps) (h a)->te (.d (enc a)::caps) λr Z3=>Pb r λy=>Q Z3 y)
  (Ov:∀l',k (acc++as.map h) (l'::caps)):eI (aW 0) eX te (as.map enc) (l::caps) acc k:=by
 refine d7 (h:=λa=>some (h a)) as acc l (λa ha Q q=>?_) (by simpa using Ov);simp only[eX,if_true];exact step a ha (λZ y=>Q Z (some y)) q
theorem j5{α:Type}{e1 e2:α->D}{h:α->Option D}{caps:Ev}{ti:W Bool}{te:W L}{k:List D->Ev->Prop}:∀(as:List α)(acc:List D)(l m:L),
  (∀a∈as,∀Q:Ev->Option D->Prop,Q (.d (e1 a)::.d (e2 a)::caps) (h a)->ti (.d (e1 a)::.d (e2 a)::caps) λb Z2=>if b=true then te Z2 λr Z3=>Pb r λy=>Q Z3 (some y)else Q Z2 none) ->
  (∀l' m',k (acc++as.filterMap h) (l'::m'::caps))->eI (kg [0,1]) ti te (as.map λa=>D.tup [e1 a,e2 a]) (l::m::caps) acc k
 |[],acc,l,m,_,Ov=>by have:=Ov l m;simpa[eI]using this
 | a::as,acc,l,m,step,Ov=>by
  show eI (kg [0,1]) ti te (D.tup [e1 a,e2 a]::as.map λa=>D.tup [e1 a,e2 a]) (l::m::caps) acc k;unfold eI;show ti (.d (e1 a)::.d (e2 a)::caps) _
  refine step a SE (λZ o=>match o with|some y=>eI (kg [0,1]) ti te (as.map λa=>D.tup [e1 a,e2 a]) Z (acc++[y]) k|none=>eI (kg [0,1]) ti te (as.map λa=>D.tup [e1 a,e2 a]) Z acc k) ?_
  cases e:h a with
  |none=>exact j5 as acc _ _ (λb hb=>step b (SC _ hb)) (by simpa[List.filterMap_cons,e]using Ov)
  |some y=>exact j5 as (acc++[y]) _ _ (λb hb=>step b (SC _ hb)) (by simpa[List.filterMap_cons,e]using Ov)
theorem B7{α:Type}{e1 e2:α->D}{h:α->D}{caps:Ev}{te:W L}{k:List D->Ev->Prop}(as:List α)(acc:List D)(l m:L)
  (step:∀a∈as,∀Q:Ev->D->Prop,Q (.d (e1 a)::.d (e2 a)::caps) (h a)->te (.d (e1 a)::.d (e2 a)::caps) λr Z3=>Pb r λy=>Q Z3 y)
  (Ov:∀l' m',k (acc++as.map h) (l'::m'::caps)):eI (kg [0,1]) eX te (as.map λa=>D.tup [e1 a,e2 a]) (l::m::caps) acc k:=by
 refine j5 (h:=λa=>some (h a)) as acc l m (λa ha Q q=>?_) (by simpa using Ov);simp only[eX,if_true];exact step a ha (λZ y=>Q Z (some y)) q
theorem qf{α:Type}{x:α}{xs:List α}:OV (x::xs) 0=some x:=i4 (j:=0) rfl
theorem qg{α:Type}{x y:α}{xs:List α}:OV (x::y::xs) 1=some y:=i4 (j:=1) rfl
theorem EE{α:Type}{x y z:α}{xs:List α}:OV (x::y::z::xs) 2=some z:=i4 (j:=2) rfl
theorem H0{α:Type}{x y z w:α}{xs:List α}:OV (x::y::z::w::xs) 3=some w:=i4 (j:=3) rfl
theorem KS{α:Type}{x y z w v:α}{xs:List α}:OV (x::y::z::w::v::xs) 4=some v:=i4 (j:=4) rfl
theorem Gi{α:Type}{xs:List α}{i:Int}{x:α}(h0:0<=i)(h:xs[i.toNat]?=some x):OV xs i=some x:=by have:=i4 h;rwa [Int.toNat_of_nonneg h0]at this
theorem bN{α:Type}{f:α->D}{xs:List α}{k:Nat}(h:k<xs.length):OV (xs.map f) (k:Int)=some (f xs[k]):=i4 (by rw[List.getElem?_map,so h];rfl)
theorem NY:OU 3 0=some 0:=by decide
theorem NZ:OU 3 1=some 1:=by decide
theorem N0:OU 3 2=some 2:=by decide
theorem mx(n:Nat):rM 0 n=(List.range n).map λ(i:Nat)=>D.int (i:Int):=by unfold rM;simp
theorem ua{g:Tg}{b:W Fl}{p4:Fl->Ev->Prop}(lo:Int)(n:Nat)(I:Nat->Ev->Prop)(Z:Ev)(h0:I 0 Z)
  (step:∀j Z,j<n->I j Z->∀Q:Fl->Ev->Prop,(∀Z',I (j+1) Z'->Q .nx Z')->(∀Z',I (j+1) Z'->Q .ct Z')->(∀Z',p4 .nx Z'->Q .bk Z')->(∀r Z',p4 (.rt r) Z'->Q (.rt r) Z')->g (.int (lo+(j:Int))) Z λZ1=>b Z1 Q)
  (Ov:∀Z,I n Z->p4 .nx Z):mh g b (rM lo n) Z p4:=by
 have hl:(rM lo n).length=n:=by simp[rM]
 refine mw _ I Z h0 (λj x Z hj hi Q h1 h2 h3 h4=>?_) λZ h=>Ov Z (by rwa [hl]at h);have hj':j<n:=by rw[<- hl];exact(SB.mp hj).1
 have e:x=.int (lo+(j:Int)):=by unfold rM at hj;rw[List.getElem?_map,List.getElem?_range hj']at hj;exact(Option.some.inj hj).symm
 subst e;exact step j Z hj' hi Q h1 h2 h3 h4
theorem fb{g:Tg}{b:W Fl}{p4:Fl->Ev->Prop}(n:Nat)(I:Nat->Ev->Prop)(Z:Ev)(h0:I 0 Z)
  (step:∀j Z,j<n->I j Z->∀Q:Fl->Ev->Prop,(∀Z',I (j+1) Z'->Q .nx Z')->(∀Z',I (j+1) Z'->Q .ct Z')->(∀Z',p4 .nx Z'->Q .bk Z')->(∀r Z',p4 (.rt r) Z'->Q (.rt r) Z')->g (.int (j:Int)) Z λZ1=>b Z1 Q)
  (Ov:∀Z,I n Z->p4 .nx Z):mh g b (rM 0 n) Z p4 :=
 ua 0 n I Z h0 (λj Z hj hi Q h1 h2 h3 h4=>by rw[Int.zero_add];exact step j Z hj hi Q h1 h2 h3 h4) Ov
theorem bA{i:Int}(h:i.natAbs<2^200):cn i:=SD h (SL x_ x_)
theorem aF{i:Int}{n:Nat}(h:i.natAbs<2^n)(hn:n<=1000000):cn i:=SD h (SL x_ hn)
theorem fO(x:Int){m:Int}(h:0<m):0<=x.fmod m/\x.fmod m<m:=by rw[Int.fmod_eq_emod_of_nonneg _ xL];exact⟨Int.emod_nonneg _ xL,Int.emod_lt_of_pos _ h⟩
theorem xu{i:Int}{n:Nat}(h0:0<=i)(h:i<2^n)(hn:n<=1000000):cn i:=by
 have:i.natAbs<2^n:=by
  have e:((2^n:Nat):Int)=(2:Int)^n:=by simp
  omega
 exact SD this (SL x_ hn)
theorem ML:(10:Int)^60<2^200:=by decide
theorem vN{i:Int}(h0:0<=i)(h:i<=10^60):i.natAbs<2^9000:=by
 have:i.natAbs<2^200:=by
  have:=ML;have e:((2^200:Nat):Int)=(2:Int)^200:=by decide
  omega
 exact SD this (SL x_ x_)
theorem Gj(p q:Rat):Rat.divInt (p.num*q.num) ((p.den:Int)*(q.den:Int))=p*q:=by rw[<- Rat.divInt_mul_divInt,Rat.num_divInt_den,Rat.num_divInt_den]
theorem RB.of_divInt{t b:Int}{n:Nat}(h:b≠0)(ht:t.natAbs<2^n)(hb:b.natAbs<2^n):RB n (Rat.divInt t b):=⟨SO (Ga h) ht,SO (F8 h) hb⟩
theorem B8(p q:Rat):((p.den:Int)*(q.den:Int))≠0:=by have dp:=den_pos p;have dq:=den_pos q;exact Int.mul_ne_zero xL xL
theorem yW(p q:Rat):((p.den:Int)*(q.den:Int)).natAbs=p.den*q.den:=by rw[Int.natAbs_mul,Int.natAbs_natCast,Int.natAbs_natCast]
theorem RB.mul{m n:Nat}{p q:Rat}(hp:RB m p)(hq:RB n q):RB (m+n) (p*q):=by rw[<- Gj];exact RB.of_divInt (B8 p q) (by rw[Int.natAbs_mul];exact a8 hp.1 hq.1) (by rw[yW];exact a8 hp.2 hq.2)
theorem Gk{q:Rat}(h:q≠0):q.num≠0:=λz=>h (Rat.num_eq_zero.mp z)
theorem qh(q:Rat):(q.den:Int)≠0:=by have:=den_pos q;omega
structure Qw where
 nm:Str
 one:Nat
 other:Nat
 size:Rat
structure aV where
 rooms:List Rat
 asks:List Qw
noncomputable def aV.n(R:aV):Nat:=R.rooms.length
noncomputable def rG(a:Qw):D:=.tup [.str a.nm,.int a.one,.int a.other,PH a.size]
noncomputable def aE(R:aV):D:=.tup [.lst (R.rooms.map PH),.lst (R.asks.map rG)]
theorem qj(q:Rat):(q.num:Rat)=q*(q.den:Rat):=by
 have h:=Rat.num_divInt_den q;have hd:(q.den:Rat)≠0:=λw=>by have:=Rat.natCast_pos.mpr q.den_pos;rw[w]at this;exact absurd this x_
 rw[Rat.divInt_eq_div]at h;have e:(((q.den:Nat):Int):Rat)=(q.den:Rat):=rfl;rw[e]at h;have e2:q*(q.den:Rat)=(q.num:Rat) / (q.den:Rat)*(q.den:Rat):=by rw[h]
 rw[e2,Rat.div_mul_cancel hd]
theorem vO{q:Rat}{V:Nat}(h0:0<=q)(hv:q<(V:Rat)):q.num.natAbs<V*q.den:=by
 have hd:(0:Rat)<(q.den:Rat):=Rat.natCast_pos.mpr q.den_pos;have h1:q*(q.den:Rat)<(V:Rat)*(q.den:Rat):=Rat.mul_lt_mul_of_pos_right hv hd;rw[<- qj]at h1
 have h2:((q.num:Int):Rat)<(((V*q.den:Nat):Int):Rat):=by
  have e:(((V*q.den:Nat):Int):Rat)=(V:Rat)*(q.den:Rat):=by push_cast;rfl
  rw[e];exact h1
 have h3:q.num<((V*q.den:Nat):Int):=Rat.intCast_lt_intCast.mp h2;have h4:0<=q.num:=Rat.num_nonneg.mpr h0;omega
theorem RB.of_val{q:Rat}{d v:Nat}(h0:0<=q)(hd:q.den<2^d)(hv:q<((2^v:Nat):Rat)):RB (v+d) q:=by refine⟨SD (vO h0 hv) ?_,SD hd (SL x_ xL)⟩;rw[Nat.pow_add];exact Nat.mul_le_mul_left _ (Nat.le_of_lt hd)
structure rP (n:Nat) (a:Qw):Prop where
 one:a.one<n
 other:a.other<n
 ne:a.one≠a.other
 size:0<=a.size
 lt:a.size<((2^300:Nat):Rat)
 nm:PyData.strOk a.nm=true
structure aV.Ok (R:aV):Prop where
 lo:2<=R.n
 hi:R.n<=12
 few:R.asks.length<=20
 room:∀q∈R.rooms,0<q/\RB 60 q
 ask:∀a∈R.asks,rP R.n a
 cd:∃D:Nat,0<D/\D<2^1240/\∀a∈R.asks,a.size.den∣D
theorem aV.Ok.rb{R:aV}(h:R.Ok){a:Qw}(ha:a∈R.asks):RB 1540 a.size:=by obtain⟨D,d0,d1,hd⟩:=h.cd;exact RB.of_val (v:=300) (d:=1240) (h.ask a ha).size (SO (Nat.le_of_dvd d0 (hd a ha)) d1) (h.ask a ha).lt
theorem pF{α:Type}{n:Nat}{f:α->D}:∀xs:List α,(∀x∈xs,PJ n (f x)=true)->Dm n (xs.map f)=true
 |[],_=>rfl
 |x::xs,h=>by simp[Dm,h x SE,pF xs λy hy=>h y (SC _ hy)]
theorem Ag(ns:List Int):cq (.lst (ns.map .int)):=dh (n:=1) (by simp only[PJ];exact pF _ λ_ _=>rfl) x_
def c9(xs:List D):Prop:=∃(c sd:Int)(t:Bool),xs=[.int c,.int sd,.bl t]/\0<=sd/\sd<2147483647
theorem yX{t b g:Int}(h:b≠0)(e:g=cP t b):D.tup [.int (t.fdiv g),.int (b.fdiv g)]=PH (Rat.divInt t b):=by subst e;rw[BB h,Hi h];rfl
noncomputable def xv(qs:List Rat):Nat:=(qs.map (·.den)).foldr (·*·) 1
theorem pG:∀qs:List Rat,0<xv qs
 |[]=>Nat.one_pos
 |a::t=>Nat.mul_pos (den_pos a) (pG t)
noncomputable def yY(qs:List Rat):Rat:=qs.foldl (·+·) 0
theorem B9(qs:List Rat):∀acc:Rat,qs.foldl (·+·) acc=acc+yY qs:=by
 unfold yY
 induction qs with
 |nil=>intro acc;simp[Rat.add_zero]
 |cons q qs ih=>intro acc;rw[List.foldl_cons,List.foldl_cons,ih,ih (0+q),Rat.zero_add,Rat.add_assoc]
theorem jf(q:Rat)(qs:List Rat):yY (q::qs)=q+yY qs:=by show(q::qs).foldl (·+·) 0=_;rw[List.foldl_cons,B9,Rat.zero_add]
theorem EF(as bs:List Rat):yY (as++bs)=yY as+yY bs:=by
 induction as with
 |nil=>rw[List.nil_append];show _=(0:Rat)+_;rw[Rat.zero_add]
 |cons a as ih=>rw[List.cons_append,jf,jf,ih,Rat.add_assoc]
theorem EG{xs:List D}{i:Int}{k:L->Prop}:aM (.lst xs) (.int i) k=∃v,OV xs i=some v/\k (.d v):=rfl
theorem EH{xs:List D}{i:Int}{k:L->Prop}:aM (.tup xs) (.int i) k=∃v,OV xs i=some v/\k (.d v):=rfl
theorem EJ{z:Str}{i:Int}{k:L->Prop}:aM (.str z) (.int i) k=(z.length<=sizeLine/\∃c,OV z.cps.toList i=some c/\k (.d (.str ⟨#[c]⟩))):=rfl
theorem EK{R:aV}{k:L->Prop}:aM (aE R) (.int 0) k=k (.d (.lst (R.rooms.map PH))):=by show(∃v,OV _ _=some v/\_)=_;simp only[qf,Option.some.injEq,exists_eq_left']
theorem EM{R:aV}{k:L->Prop}:aM (aE R) (.int 1) k=k (.d (.lst (R.asks.map rG))):=by show(∃v,OV _ _=some v/\_)=_;simp only[qg,Option.some.injEq,exists_eq_left']
theorem Ib{a:Qw}{k:L->Prop}:aM (rG a) (.int 0) k=k (.d (.str a.nm)):=by show(∃v,OV _ _=some v/\_)=_;simp only[qf,Option.some.injEq,exists_eq_left']
theorem Ic{a:Qw}{k:L->Prop}:aM (rG a) (.int 1) k=k (.d (.int a.one)):=by show(∃v,OV _ _=some v/\_)=_;simp only[qg,Option.some.injEq,exists_eq_left']
theorem Ie{a:Qw}{k:L->Prop}:aM (rG a) (.int 2) k=k (.d (.int a.other)):=by show(∃v,OV _ _=some v/\_)=_;simp only[EE,Option.some.injEq,exists_eq_left']
theorem Ig{a:Qw}{k:L->Prop}:aM (rG a) (.int 3) k=k (.d (PH a.size)):=by show(∃v,OV _ _=some v/\_)=_;simp only[H0,Option.some.injEq,exists_eq_left']
theorem KU{q:Rat}{k:L->Prop}:aM (PH q) (.int 0) k=k (.d (.int q.num)):=by show(∃v,OV _ _=some v/\_)=_;simp only[qf,Option.some.injEq,exists_eq_left']
theorem KW{q:Rat}{k:L->Prop}:aM (PH q) (.int 1) k=k (.d (.int (q.den:Int))):=by show(∃v,OV _ _=some v/\_)=_;simp only[qg,Option.some.injEq,exists_eq_left']
theorem Gm(q:Rat):PP (PH q)=true:=by simp[PH,PP,vE]
theorem pH{α:Type}{f:α->D}:∀(xs:List α),(∀x∈xs,PP (f x)=true)->vE (xs.map f)=true
 |[],_=>rfl
 |x::xs,h=>by simp[vE,h x SE,pH xs λy hy=>h y (SC _ hy)]
theorem yZ(qs:List Rat):vE (qs.map PH)=true:=pH _ λq _=>Gm q
theorem Ca{α:Type}(f:α->Int)(xs:List α):vE (xs.map λx=>D.int (f x))=true:=pH _ λ_ _=>rfl
theorem Cb(R:aV):R.rooms.length=R.n:=rfl
noncomputable def d8(w:Bool):Str:=if w then "on" else "back"
theorem y6:cq (.str "on"):=dh (n:=0) y_ x_
theorem sR:cq (.str "back"):=dh (n:=0) y_ x_
theorem gN(w:Bool):cq (.str (d8 w)):=by
 cases w
 . exact sR
 . exact y6
theorem KY(w:Bool):(d8 w="on")=(w=true):=by cases w <;> simp[d8] <;> decide
theorem EN(w:Bool):(d8 w="back")=(w=false):=by cases w <;> simp[d8] <;> decide
theorem Cc{is:List Nat}{xs:List D}{Z:Ev}{k:Ev->Prop}:kg is (.tup xs) Z k=hG is xs Z k:=rfl
theorem Cd{is:List Nat}{a:Qw}{Z:Ev}{k:Ev->Prop}:kg is (rG a) Z k=hG is [.str a.nm,.int a.one,.int a.other,PH a.size] Z k:=rfl
theorem EO{is:List Nat}{q:Rat}{Z:Ev}{k:Ev->Prop}:kg is (PH q) Z k=hG is [.int q.num,.int (q.den:Int)] Z k:=rfl
theorem xx{xs:List D}{k:List D->Prop}:ja (.lst xs) k=k xs:=rfl
theorem xy{xs:List D}{k:List D->Prop}:ja (.tup xs) k=k xs:=rfl
theorem Ah{q:Rat}{k:List D->Prop}:ja (PH q) k=k [.int q.num,.int (q.den:Int)]:=rfl
theorem Ce{xs:List D}{k:L->Prop}:bJ [.lst xs] k=k (.d (.int xs.length)):=rfl
theorem Cf{xs:List D}{k:L->Prop}:bJ [.tup xs] k=k (.d (.int xs.length)):=rfl
theorem Cg{x:Str}{k:L->Prop}:bJ [.str x] k=(x.length<=sizeLine/\k (.d (.int x.length))):=rfl
theorem ER{q:Rat}{k:L->Prop}:bJ [PH q] k=k (.d (.int 2)):=rfl
theorem Ai{R:aV}{k:L->Prop}:bJ [aE R] k=k (.d (.int 2)):=rfl
theorem Ci{a:Qw}{k:L->Prop}:bJ [rG a] k=k (.d (.int 4)):=rfl
theorem xA(q:Rat):nM "tuple" (PH q)=true:=rfl
theorem xB(q:Rat):nM "list" (PH q)=false:=rfl
theorem xC(q:Rat):nM "int" (PH q)=false:=rfl
theorem vP(q:Rat):nM "bool" (PH q)=false:=rfl
theorem xD(q:Rat):nM "str" (PH q)=false:=rfl
theorem ud(R:aV):nM "tuple" (aE R)=true:=rfl
noncomputable def Qx(n:Nat)(f:Nat->Rat):List D:=(List.range n).map λ(t:Nat)=>PH (f t)
theorem Ih(n:Nat)(f:Nat->Rat):(Qx n f).length=n:=by simp[Qx]
theorem Ii(n:Nat)(f:Nat->Rat):Qx n f=((List.range n).map f).map PH:=by unfold Qx;rw[List.map_map];rfl
theorem ES(n:Nat)(f:Nat->Rat):vE (Qx n f)=true:=by rw[Ii];exact yZ _
noncomputable def iW(c:Nat×Nat):D:=.tup [.int (c.1:Int),.int (c.2:Int)]
theorem Ij{c:Nat×Nat}{k:L->Prop}:aM (iW c) (.int 0) k=k (.d (.int c.1)):=by show(∃v,OV _ _=some v/\_)=_;simp only[qf,Option.some.injEq,exists_eq_left']
theorem Ik{c:Nat×Nat}{k:L->Prop}:aM (iW c) (.int 1) k=k (.d (.int c.2)):=by show(∃v,OV _ _=some v/\_)=_;simp only[qg,Option.some.injEq,exists_eq_left']
theorem Cj(n:Nat)(c:Nat×Nat):PJ (n+1) (iW c)=true:=by cases n<;>simp[iW,PJ,Dm]
theorem Ck(c:Nat×Nat):PP (iW c)=true:=by simp[iW,PP,vE]
theorem Cm(c:Nat×Nat):cq (iW c):=dh (Cj 0 c) x_
theorem Il(c d:Nat×Nat):Pp (iW c) (iW d)=decide (c=d):=by
 unfold iW;rw[BD,mn,mn,yI,p6,p6,Bool.and_true,<- Bool.decide_and,decide_eq_decide];constructor
 . rintro⟨h1,h2⟩;exact Prod.ext xL xL
 . rintro rfl;exact⟨rfl,rfl⟩
noncomputable def gP(g:Rat×(Nat×Nat)):D:=.tup [PH g.1,iW g.2]
theorem MM{g:Rat×(Nat×Nat)}{k:L->Prop}:aM (gP g) (.int 0) k=k (.d (PH g.1)):=by show(∃v,OV _ _=some v/\_)=_;simp only[qf,Option.some.injEq,exists_eq_left']
theorem MN{g:Rat×(Nat×Nat)}{k:L->Prop}:aM (gP g) (.int 1) k=k (.d (iW g.2)):=by show(∃v,OV _ _=some v/\_)=_;simp only[qg,Option.some.injEq,exists_eq_left']
theorem ET(T:String):nM T .non=(T == "NoneType"):=rfl
theorem Im(T:String)(b:Bool):nM T (.bl b)=(T == "bool" ||T == "int"):=rfl
theorem EU(T:String)(i:Int):nM T (.int i)=(T == "int"):=rfl
theorem EV(T:String)(x:Str):nM T (.str x)=(T == "str"):=rfl
theorem EW(T:String)(xs:List D):nM T (.tup xs)=(T == "tuple"):=rfl
theorem EX(T:String)(xs:List D):nM T (.lst xs)=(T == "list"):=rfl
theorem Aj(g:Rat×(Nat×Nat)):nM "tuple" (gP g)=true:=rfl
theorem vQ(c:Nat×Nat):nM "tuple" (iW c)=true:=rfl
theorem vR(a:Qw):nM "tuple" (rG a)=true:=rfl
theorem Cn{c:Nat×Nat}{k:L->Prop}:bJ [iW c] k=k (.d (.int 2)):=rfl
theorem Io{c:Rat×(Nat×Nat)}{k:L->Prop}:bJ [gP c] k=k (.d (.int 2)):=rfl
theorem Co(cs:List (Nat×Nat)):vE (cs.map iW)=true:=pH _ λc _=>Ck c
end L2
namespace L2
open PySem PySem.Builtin.Str
theorem Ip{x y:Str}(h:x.cps.toList=y.cps.toList):x=y:=by cases x;cases y;exact congrArg Str.mk (Array.toList_inj.mp h)
theorem EY{x:Str}{j:Int}(h0:0<=j)(h2:j<=x.length):(Txt.slice x none (some j)).cps.toList=x.cps.toList.take j.toNat:=by have:=eq_of_beq (PyProof.Rows.slice_closes_toL h0 h2);rw[this];simp
theorem Ak{x:Str}{i:Int}(h0:0<=i)(h2:i<=x.length):(Txt.slice x (some i) none).cps.toList=x.cps.toList.drop i.toNat:=by
 rw[PyProof.Rows.slice_from_eq h0 h2 rfl];have e:x.cps.toList.length=x.length:=by simp[Str.length]
 rw[List.take_of_length_le];rw[List.length_drop,e];omega
theorem my(x y:Str):(x++y).cps.toList=x.cps.toList++y.cps.toList:=by show(x.cps++y.cps).toList=_;simp
theorem j6(x:Str):x.length=x.cps.toList.length:=by simp[Str.length]
def qk(c:Nat):Prop:=97<=c/\c<=122
structure Dp (z:Str):Prop where
 lo:1<=z.cps.toList.length
 hi:z.cps.toList.length<=8
 let_:∀c∈z.cps.toList,qk c
theorem Dp.ok{z:Str}(h:Dp z):PyData.strOk z=true:=by unfold PyData.strOk;rw[<- Array.all_toList,List.all_eq_true];intro c hc;have:=h.let_ c hc;unfold qk at this;simp;omega
noncomputable def ue:Str:="abcdefghijklmnopqrstuvwxyz"
theorem vS:ue.cps.toList=(List.range 26).map (·+97):=by decide
theorem sS{i:Int}(h0:0<=i)(h1:i<26):OV ue.cps.toList i=some (i.toNat+97):=by refine Gi h0 ?_;rw[vS,List.getElem?_map,List.getElem?_range xL];rfl
theorem sT:∀(zs:List Str),(Str.join "" zs).cps.toList=(zs.map λz=>z.cps.toList).flatten
 |[]=>rfl
 |[x]=>by simp[Str.join]
 | x::y::r=>by have ih:=sT (y::r);show(x++("" : Str)++Str.join "" (y::r)).cps.toList=_;rw[my,my,ih];show x.cps.toList++[]++_=_;simp
theorem Fb(zs:List Str):(Txt.join "" zs).cps.toList=(zs.map λz=>z.cps.toList).flatten:=by rw[eq_of_beq (PyProof.Rows.join_closes (sep:="") (sep':="") (ys:=zs) rfl),sT]
theorem vT:∀cs:List Nat,(cs.map λc=>[c]).flatten=cs
 |[]=>rfl
 |c::cs=>by rw[List.map_cons,List.flatten_cons,vT cs];rfl
theorem nR(cs:List Nat):(Txt.join "" (cs.map λc=>(⟨#[c]⟩:Str))).cps.toList=cs:=by rw[Fb,List.map_map];exact vT cs
theorem y7:∀cs:List Nat,((cs.map λc=>(⟨#[c]⟩:Str)).map (·.length)).sum=cs.length
 |[]=>rfl
 | c::cs=>by rw[List.map_cons,List.map_cons,List.sum_cons,y7 cs,List.length_cons];show 1+_=_;omega
noncomputable def nameAt(b:Str)(p t k:Nat):Str:=⟨(b.cps.toList.take p++[(t+k) % 26+97]++b.cps.toList.drop (p+1)).toArray⟩
theorem Cp{b:Str}{p t k:Nat}(h:Dp b)(hp:p<b.cps.toList.length):Dp (nameAt b p t k):=by
 have e:(nameAt b p t k).cps.toList=b.cps.toList.take p++[(t+k) % 26+97]++b.cps.toList.drop (p+1):=by simp[nameAt]
 have l:(b.cps.toList.take p++[(t+k) % 26+97]++b.cps.toList.drop (p+1)).length=b.cps.toList.length:=by rw[List.length_append,List.length_append,List.length_take,List.length_drop,List.length_singleton];omega
 refine⟨by rw[e,l];exact h.lo,by rw[e,l];exact h.hi,λc hc=>?_⟩;rw[e]at hc;rcases List.mem_append.mp hc with hc|hc
 .
  rcases List.mem_append.mp hc with hc|hc
  . exact h.let_ c (List.mem_of_mem_take hc)
  . rw[List.mem_singleton.mp hc];unfold qk;have:=Nat.mod_lt (t+k) (y:=26) x_;omega
 . exact h.let_ c (List.mem_of_mem_drop hc)
theorem Al{b:Str}{p t j k:Nat}(hp:p<b.cps.toList.length)(hj:j<26)(hk:k<26)(h:nameAt b p t j=nameAt b p t k):j=k:=by
 have e:b.cps.toList.take p++[(t+j) % 26+97]++b.cps.toList.drop (p+1)=b.cps.toList.take p++[(t+k) % 26+97]++b.cps.toList.drop (p+1):=by have:=congrArg (λz:Str=>z.cps.toList) h;simpa[nameAt]using this
 rw[List.append_assoc,List.append_assoc]at e;have e2:=List.append_cancel_left e;have e3:=(List.cons.inj e2).1;omega
theorem vU{α β:Type}{f:α->β}:∀{xs:List α},xs.Nodup->(∀x∈xs,∀y∈xs,f x=f y->x=y)->(xs.map f).Nodup
 |[],_,_=>List.nodup_nil
 | x::xs,hn,h=>by rw[List.map_cons,List.nodup_cons];obtain⟨h1,h2⟩:=List.nodup_cons.mp hn;refine⟨λhm=>?_,vU h2 λa ha b hb=>h a (SC _ ha) b (SC _ hb)⟩;obtain⟨y,hy,e⟩:=List.mem_map.mp hm;have:=h y (SC _ hy) x SE e;rw[this]at hy;exact h1 hy
theorem Fc{q:Rat}(h:RB 60 q):q<((2^300:Nat):Rat):=by
 have h1:=qj q;have hd:(1:Rat)<=(q.den:Rat):=by have:=q.den_pos;exact_mod_cast this
 have h2:(q.num:Rat)<((2^300:Nat):Rat):=by
  have h3:q.num<((2^300:Nat):Int):=by have:=SD h.1 (SL (show 0<2 by decide) (show 60<=300 by decide));omega
  exact Rat.intCast_lt_intCast.mpr h3
 have hV:(0:Rat)<((2^300:Nat):Rat):=Rat.natCast_pos.mpr (Nat.pow_pos x_);generalize ((2^300:Nat):Rat)=V at *;refine Rat.not_le.mp λhq=>?_;have h4:V*1<=q*(q.den:Rat):=Rat.le_trans (Rat.mul_le_mul_of_nonneg_left hd (Rat.le_of_lt hV)) (Rat.mul_le_mul_of_nonneg_right hq (by grind));rw[<- h1]at h4;grind
noncomputable def Jo:List Qw->Nat
 |[]=>1
 |a::as=>a.size.den*Jo as
theorem y9:∀as,0<Jo as
 |[]=>Nat.one_pos
 |a::as=>Nat.mul_pos a.size.den_pos (y9 as)
theorem Cq:∀{as:List Qw},(∀a∈as,RB 60 a.size)->Jo as<=2^(60*as.length)
 |[],_=>SN 1
 | a::as,h=>by have h1:=(h a SE).2;have h2:=Cq (as:=as) λp hp=>h p (SC _ hp);show a.size.den*Jo as<=2^(60*(as.length+1));rw[Nat.mul_add,Nat.mul_one,Nat.pow_add,Nat.mul_comm (2^_)];exact Nat.mul_le_mul (Nat.le_of_lt h1) h2
theorem zb:∀{as:List Qw}{a:Qw},a∈as->a.size.den∣Jo as
 | b::as,a,h=>by
  rcases SK.mp h with rfl|h
  . exact Nat.dvd_mul_right _ _
  . exact Nat.dvd_trans (zb h) (Nat.dvd_mul_left _ _)
theorem MO{as:List Qw}(h:∀a∈as,RB 60 a.size)(hl:as.length<=20):∃D:Nat,0<D/\D<2^1240/\∀a∈as,a.size.den∣D:=by refine⟨Jo as,y9 as,SO (Cq h) (Nat.pow_lt_pow_right x_ xL),λa ha=>zb ha⟩
end L2
namespace L2
open PySem
noncomputable def Qy(n i j:Nat):List Nat:=(List.range ((j+n-i) % n)).map λs=>(i+s) % n
noncomputable def Iq(n i j:Nat):List Nat:=(List.range ((i+n-j) % n)).map λs=>(i+n-1-s) % n
noncomputable def LW(n:Nat)(a:Qw)(w:Bool):List Nat:=if w then Qy n a.one a.other else Iq n a.one a.other
theorem Cr{n i j:Nat}(hi:i<n)(hj:j<n):(((j:Int)-i).fmod n)=(((j+n-i) % n:Nat):Int):=by
 rw[Int.fmod_eq_emod_of_nonneg _ xL];have e:((j:Int)-i) % n=((j:Int)-i+n) % n:=(Int.add_emod_right _ _).symm;rw[e];have:(j:Int)-i+n=((j+n-i:Nat):Int):=by omega
 rw[this];exact(Int.natCast_emod _ _).symm
theorem Fd{n i s:Nat}:(((i:Int)+s).fmod n)=(((i+s) % n:Nat):Int):=by rw[Int.fmod_eq_emod_of_nonneg _ xL,Int.natCast_emod,Int.natCast_add]
noncomputable def Qz(n i j:Nat):Nat:=(j+n-i) % n
theorem mz{x n:Nat}(h:x<2*n):x % n=if x<n then x else x-n:=by
 by_cases hx:x<n
 . rw[if_pos hx,Nat.mod_eq_of_lt hx]
 . rw[if_neg hx,Nat.mod_eq_sub_mod xL,Nat.mod_eq_of_lt xL]
theorem ql{n i j:Nat}(hi:i<n)(hj:j<n):Qz n i j=if i<=j then j-i else j+n-i:=by unfold Qz;rw[mz xL];split<;>split<;>omega
theorem KZ(n i j:Nat):(Qy n i j).length=Qz n i j:=by simp[Qy,Qz]
theorem Cs{n i j:Nat}(hn:0<n):Qz n i j<n:=Nat.mod_lt _ hn
theorem zd{n i s:Nat}(hi:i<n)(hs:s<n):Qz n i ((i+s) % n)=s:=by have h1:=Nat.mod_lt (i+s) (y:=n) xL;rw[ql hi h1,mz xL];split<;>split<;>omega
theorem ze{n i t:Nat}(hi:i<n)(ht:t<n):(i+Qz n i t) % n=t:=by have h1:=Cs (n:=n) (i:=i) (j:=t) xL;rw[mz xL,ql hi ht];split<;>split<;>omega
theorem Ir{n i j:Nat}(hi:i<n)(hj:j<n)(h:i≠j):Qz n i j+Qz n j i=n:=by rw[ql hi hj,ql hj hi];split<;>split<;>omega
theorem K0{n i j t:Nat}(hi:i<n):t∈Qy n i j↔t<n/\Qz n i t<Qz n i j:=by
 constructor
 . intro h;obtain⟨s,hs,rfl⟩:=List.mem_map.mp h;have hs:s<Qz n i j:=List.mem_range.mp hs;have:=Cs (n:=n) (i:=i) (j:=j) xL;exact⟨Nat.mod_lt _ xL,by rw[zd hi xL];exact hs⟩
 . rintro⟨ht,h⟩;exact List.mem_map.mpr ⟨Qz n i t,List.mem_range.mpr h,ze hi ht⟩
theorem Ct{n i s:Nat}(hi:i<n)(hs:s<n):(i+n-1-s) % n=(i+(n-1-s)) % n:=by
 congr 1
 omega
theorem Fe{n i j t:Nat}(hi:i<n)(hj:j<n)(hij:i≠j):t∈Iq n i j↔t<n/\¬Qz n i t<Qz n i j:=by
 have hsum:=Ir hi hj hij;constructor
 . intro h;obtain⟨s,hs,rfl⟩:=List.mem_map.mp h;have hs:s<Qz n j i:=List.mem_range.mp hs;refine⟨Nat.mod_lt _ xL,?_⟩;rw[Ct hi xL,zd hi xL];omega
 .
  rintro⟨ht,h⟩;have:=Cs (n:=n) (i:=i) (j:=t) xL;refine List.mem_map.mpr ⟨n-1-Qz n i t,List.mem_range.mpr (show _<Qz n j i by omega),?_⟩;rw[Ct hi xL];have e:n-1-(n-1-Qz n i t)=Qz n i t:=by omega
  rw[e,ze hi ht]
noncomputable def lu(n:Nat)(a:Qw)(t:Nat):Bool:=decide (Qz n a.one t<Qz n a.one a.other)
theorem Iu{n:Nat}{a:Qw}(h:rP n a)(w:Bool){t:Nat}(ht:t<n):t∈LW n a w↔(lu n a t == w)=true:=by
 have h1:=h.one;have h2:=h.other;cases w
 . show t∈Iq n a.one a.other↔_;rw[Fe h1 h2 h.ne];simp[lu,ht]
 . show t∈Qy n a.one a.other↔_;rw[K0 h1];simp[lu,ht]
theorem zg(t:Nat):∀(T:List Nat),O5 (.int (t:Int)) (T.map λ(s:Nat)=>D.int (s:Int))=decide (t∈T)
 |[]=>rfl
 | s::T=>by
  have ih:=zg t T;unfold O5 at ih ⊢;rw[List.map_cons,List.any_cons,ih];show(Pz (.int (s:Int)) (.int (t:Int)) ||_)=_;have e:Pz (.int (s:Int)) (.int (t:Int))=decide (t=s):=by show decide ((s:Int)=(t:Int))=_;rw[decide_eq_decide];omega
  rw[e];simp[Bool.decide_or]
theorem vV(T:List Nat):(T.map λ(s:Nat)=>D.int (s:Int)).all pZ=true:=by rw[List.all_eq_true];intro x hx;obtain⟨s,_,rfl⟩:=List.mem_map.mp hx;rfl
theorem Am(T:List Nat):cq (.lst (T.map λ(t:Nat)=>D.int (t:Int))):=by have:=Ag (T.map λ(t:Nat)=>(t:Int));rwa [List.map_map]at this
theorem RB.sum{b:Nat}:∀(qs:List Rat),(∀q∈qs,RB b q)->RB (1+(b+1)*qs.length) (yY qs)
 |[],_=>RB.mono (m:=1) ⟨x_,x_⟩ xL
 | q::qs,h=>by have ih:=RB.sum qs λz hz=>h z (SC _ hz);rw[jf];refine((h q SE).add ih).mono ?_;rw[List.length_cons,Nat.mul_succ];omega
theorem Cu{b:Nat}:∀(qs:List Rat),(∀q∈qs,RB b q)->xv qs<=2^(b*qs.length)
 |[],_=>SN 1
 | q::qs,h=>by have ih:=Cu qs λz hz=>h z (SC _ hz);show q.den*xv qs<=_;refine SJ (Nat.mul_le_mul (Nat.le_of_lt (h q SE).2) ih) ?_;rw[<- Nat.pow_add,List.length_cons,Nat.mul_succ];exact SL x_ xL
theorem uf:yY []=0:=rfl
theorem vW(qs:List Rat)(q:Rat):yY (qs++[q])=yY qs+q:=by rw[EF,jf,uf,Rat.add_zero]
noncomputable def Iv(n:Nat)(a:Qw)(p:Rat)(t:Nat):Rat:=if lu n a t then p else a.size-p
noncomputable def iU(n:Nat)(as:List Qw)(ps:List Rat)(t:Nat):Rat:=yY ((as.zip ps).map λx=>Iv n x.1 x.2 t)
theorem j7{α β:Type}(as:List α)(bs:List β)(k:Nat):(as.zip bs).take k=(as.take k).zip (bs.take k):=by unfold List.zip;exact List.take_zipWith
theorem Ff{α β:Type}{as:List α}{bs:List β}{k:Nat}(h1:k<as.length)(h2:k<bs.length):(as.take (k+1)).zip (bs.take (k+1))=(as.take k).zip (bs.take k)++[(as[k],bs[k])]:=by rw[<- j7,<- j7,List.take_succ,so (by rw[List.length_zip];omega),List.getElem_zip];rfl
theorem An{n:Nat}{as:List Qw}{ps:List Rat}{k:Nat}(h1:k<as.length)(h2:k<ps.length)(t:Nat):iU n (as.take (k+1)) (ps.take (k+1)) t=iU n (as.take k) (ps.take k) t+Iv n as[k] ps[k] t:=by unfold iU;rw[Ff h1 h2,List.map_append];exact vW _ _
noncomputable def iX(c:Nat×Nat)(p:Nat):Bool:=decide (c.1<p/\p<=c.2)
noncomputable def apart(c:Nat×Nat)(i j:Nat):Bool:=iX c i != iX c j
noncomputable def Iw(as:List Qw)(c:Nat×Nat):Rat:=yY ((as.filter λa=>apart c a.one a.other).map (·.size))
noncomputable def aV.room(R:aV)(t:Nat):Rat:=R.rooms.getD t 0
noncomputable def K1(R:aV)(c:Nat×Nat):Rat:=R.room c.1+R.room c.2
noncomputable def Nm(R:aV)(c:Nat×Nat):Rat:=Iw R.asks c / K1 R c
def lx(n:Nat)(c:Nat×Nat):Prop:=c.1<=c.2/\c.2<n
noncomputable def hX(n:Nat):List (Nat×Nat):=(List.range n).flatMap λg=>(List.range (n-g)).map λi=>(g,g+i)
theorem zh{n:Nat}{c:Nat×Nat}:c∈hX n↔lx n c:=by
 unfold hX lx;rw[List.mem_flatMap];constructor
 . rintro⟨g,hg,h⟩;obtain⟨i,hi,rfl⟩:=List.mem_map.mp h;have:=List.mem_range.mp hg;have:=List.mem_range.mp hi;exact⟨Nat.le_add_right _ _,by show g+i<n;omega⟩
 . rintro⟨h1,h2⟩;exact⟨c.1,List.mem_range.mpr xL,List.mem_map.mpr ⟨c.2-c.1,List.mem_range.mpr xL,by ext<;>simp;omega⟩⟩
theorem Ao(as:List (Nat×Nat)):cq (.lst (as.map iW)):=dh (n:=2) (by simp only[PJ];exact pF _ λq _=>Cj 0 q) x_
theorem ug{R:aV}{t:Nat}(h:t<R.n):OV (R.rooms.map PH) (t:Int)=some (PH (R.room t)):=by have h':t<R.rooms.length:=h;rw[bN h'];unfold aV.room;rw[SA,so h'];rfl
theorem ly{R:aV}(hR:R.Ok){t:Nat}(h:t<R.n):0<R.room t/\RB 60 (R.room t):=by have h':t<R.rooms.length:=h;unfold aV.room;rw[SA,so h'];exact hR.room _ (List.getElem_mem h')
def MP(qs:List Rat):Prop:=xv qs<2^9000∨∃D:Nat,0<D/\D<2^4400/\∀q∈qs,q.den∣D
noncomputable def lz(R:aV)(ps:List Rat)(t:Nat):Rat:=iU R.n R.asks ps t / R.room t
noncomputable def Iy(n:Nat)(f:Nat->Rat):Nat:=(List.range n).foldl (λb t=>if f b<f t then t else b) 0
theorem zk(f:Nat->Rat):∀(ts:List Nat)(b:Nat),(∀t∈ts,f t<=f (ts.foldl (λb t=>if f b<f t then t else b) b))/\f b<=f (ts.foldl (λb t=>if f b<f t then t else b) b)/\(ts.foldl (λb t=>if f b<f t then t else b) b=b∨ts.foldl (λb t=>if f b<f t then t else b) b∈ts)
 |[],b=>⟨λt ht=>by simp at ht,Rat.le_refl,.inl rfl⟩
 | s::ts,b=>by
  obtain⟨h1,h2,h3⟩:=zk f ts (if f b<f s then s else b)
  rw[List.foldl_cons]
  have g:f b<=f (if f b<f s then s else b)/\f s<=f (if f b<f s then s else b):=by
   split
   . rename_i h;exact⟨Rat.le_of_lt h,Rat.le_refl⟩
   . rename_i h;exact⟨Rat.le_refl,Rat.not_lt.mp h⟩
  refine⟨λt ht=>?_,Rat.le_trans g.1 h2,?_⟩
  .
   rcases SK.mp ht with rfl|ht
   . exact Rat.le_trans g.2 h2
   . exact h1 t ht
  .
   rcases h3 with h3|h3
   .
    rw[h3];split
    . exact .inr SE
    . exact .inl rfl
   . exact .inr (SC _ h3)
theorem Cv{n:Nat}(hn:0<n)(f:Nat->Rat):Iy n f<n/\∀t,t<n->f t<=f (Iy n f):=by
 obtain⟨h1,_,h3⟩:=zk f (List.range n) 0;refine⟨?_,λt ht=>h1 t (List.mem_range.mpr ht)⟩;rcases h3 with h3|h3
 . unfold Iy;rw[h3];exact hn
 . exact List.mem_range.mp h3
theorem uh{n : Nat}{a : Qw}(h : rP n a){t : Nat}(ht : t<n) : lu n a t = ((decide (a.one <= t) != decide (a.other <= t)) != decide (a.other<a.one)) := by
  have h1 := h.one;have h2 := h.other;have hne := h.ne;unfold lu;rw[ql h1 ht, ql h1 h2];by_cases a1 : a.one <= t<;>by_cases a2 : a.other <= t<;>by_cases a3 : a.other<a.one<;>by_cases a4 : a.one <= a.other
  all_goals
    simp only[a1, a2, a3, a4, if_true, if_false, decide_true, decide_false]
  all_goals first
    |omega
    | (first
        |(rw[decide_eq_true xL];rfl)
        |(rw[decide_eq_false xL];rfl))
theorem Cw{n:Nat}{a:Qw}(h:rP n a){c:Nat×Nat}(hc:lx n c):apart c a.one a.other=(lu n a c.1 != lu n a c.2):=by
 have h1:=hc.1;have h2:=hc.2;rw[uh h xL,uh h h2];unfold apart iX
 have e:∀p:Nat,decide (c.1<p/\p<=c.2)=(decide (p<=c.1) != decide (p<=c.2)):=λp=>by
  by_cases q1:p<=c.1<;>by_cases q2:p<=c.2
  . rw[decide_eq_false xL];simp[q1,q2]
  . omega
  . rw[decide_eq_true xL];simp[q1,q2]
  . rw[decide_eq_false xL];simp[q1,q2]
 rw[e,e];cases decide (a.one<=c.1)<;>cases decide (a.one<=c.2)<;>cases decide (a.other<=c.1)<;>cases decide (a.other<=c.2)<;>cases decide (a.other<a.one)<;>rfl
noncomputable def MQ:Option Nat->D
 |none=>.non
 |some k=>.int (k:Int)
noncomputable def mB(P:Nat->Bool)(n:Nat):Option Nat:=(List.range n).find? P
theorem Ap{P:Nat->Bool}{n:Nat}:mB P n=none↔∀k,k<n->P k=false:=by
 unfold mB;rw[List.find?_eq_none];constructor
 . intro h k hk;have:=h k (List.mem_range.mpr hk);simpa using this
 . intro h k hk;rw[h k (List.mem_range.mp hk)];exact Bool.false_ne_true
theorem Fg{P:Nat->Bool}{n k:Nat}(hk:k<n)(h1:P k=true)(h0:∀j,j<k->P j=false):mB P n=some k:=by
 have e:List.range n=List.range k++k::(List.range' (k+1) (n-k-1)):=by
  rw[List.range_eq_range',List.range_eq_range'];have:n=k+(1+(n-k-1)):=by omega
  conv=>lhs;rw[this]
  rw[<- List.range'_append_1,Nat.zero_add]
  congr 1
  rw[Nat.add_comm,List.range'_succ]
 unfold mB;rw[e,List.find?_append];have:(List.range k).find? P=none:=by rw[List.find?_eq_none];intro j hj;rw[h0 j (List.mem_range.mp hj)];exact Bool.false_ne_true
 rw[this,List.find?_cons,h1];rfl
noncomputable def aV.sz(R:aV)(k:Nat):Rat:=(R.asks.map (·.size)).getD k 0
theorem oF(t:Int){b:Int}(hb:0<b):∃m:Int,0<m/\t=(Rat.divInt t b).num*m/\b=((Rat.divInt t b).den:Int)*m:=by
 obtain⟨m,m0,e1,e2⟩:=Rat.divInt_num_den (d:=b) (n:=t) (n':=(Rat.divInt t b).num) (d':=(Rat.divInt t b).den) (z':=(Rat.divInt t b).den_nz) (c:=(Rat.divInt t b).reduced) xL rfl;refine⟨m,?_,e1,e2⟩;have hd:=den_pos (Rat.divInt t b);have h3:0<((Rat.divInt t b).den:Int)*m:=by rw[<- e2];exact hb
 exact Int.pos_of_mul_pos_right h3 xL
theorem mC{t b:Int}{l:Rat}(hb:0<b):Rat.divInt t b<l↔t*(l.den:Int)<l.num*b:=by
 obtain⟨m,hm,e1,e2⟩:=oF t hb;generalize Rat.divInt t b=p at e1 e2;rw[Rat.lt_iff,e1,e2];have q1:p.num*m*(l.den:Int)=p.num*(l.den:Int)*m:=by rw[Int.mul_assoc,Int.mul_comm m,<- Int.mul_assoc]
 have q2:l.num*((p.den:Int)*m)=l.num*(p.den:Int)*m:=by rw[Int.mul_assoc]
 rw[q1,q2];exact(Int.mul_lt_mul_right hm).symm
end L2
namespace My
open PySem L2
noncomputable def ck(R:aV)(j:Nat):Qw:=(R.asks[j]?).getD ⟨"",0,0,0⟩
noncomputable def QA(R:aV)(j t:Nat):Bool:=lu R.n (ck R j) t
noncomputable def dI(R:aV)(w:Nat->Int)(k g h:Nat):Int:=((List.range (R.asks.length-k)).map λi=>if QA R (k+i) g != QA R (k+i) h then w (k+i)else 0).sum
theorem mD{R:aV}(hR:R.Ok){j:Nat}(h:j<R.asks.length):rP R.n (ck R j):=by unfold ck;rw[so h];exact hR.ask _ (List.getElem_mem h)
theorem fP{R:aV}{j:Nat}(h:j<R.asks.length):ck R j=R.asks[j]:=by unfold ck;rw[so h];rfl
def N1(R:aV)(w f:Nat->Int)(k:Nat):Prop:=∀g h,g<R.n->h<R.n->dI R w k g h<=f g+f h/\(f g+f h-dI R w k g h) % 2=0
noncomputable def MR(R:aV)(w f:Nat->Int)(k:Nat)(p:Int)(t:Nat):Int:=f t-if QA R k t then p else w k-p
noncomputable def QB(i j:Int):Int:=if j<i then j else i
noncomputable def QC(R:aV)(k:Nat):List Nat:=(PySem.W.sortI ((LW R.n (ck R k) true).map λ(t:Nat)=>(t:Int))).map Int.toNat
noncomputable def N2(R:aV)(w f:Nat->Int)(k g h:Nat):Int:=f g+f h-dI R w (k+1) g h
noncomputable def K2(R:aV)(w f:Nat->Int)(k:Nat)(acc:Int)(g:Nat)(hs:List Nat):Int:=hs.foldl (λt h=>if decide (g<=h)then QB t (N2 R w f k g h)else t) acc
noncomputable def K3(R:aV)(w f:Nat->Int)(k:Nat)(gs:List Nat):Int:=gs.foldl (λt g=>K2 R w f k t g (QC R k)) (2*w k)
noncomputable def K4(R:aV)(w f:Nat->Int)(k:Nat):Int:=(K3 R w f k (QC R k)).fdiv 2
noncomputable def QD(R:aV)(w f:Nat->Int):Nat->Nat->Int
 |0=>f
 |k+1=>MR R w (QD R w f k) k (K4 R w (QD R w f k) k)
noncomputable def QE(R:aV)(w f:Nat->Int)(k:Nat):Int:=K4 R w (QD R w f k) k
theorem ID{t b:Int}(h:b≠0):(Rat.divInt t b).den∣b.natAbs:=by rw[Rat.den_divInt,if_neg h];exact Nat.div_dvd_of_dvd (by rw[Int.gcd];exact Nat.gcd_dvd_left _ _)
theorem xE(p q:Rat):(p*q).den∣p.den*q.den:=by
 have e:p*q=Rat.divInt (p.num*q.num) ((p.den:Int)*q.den):=by rw[<- Rat.divInt_mul_divInt,Rat.num_divInt_den,Rat.num_divInt_den]
 rw[e];have:=ID (t:=p.num*q.num) (b:=(p.den:Int)*q.den) (Int.mul_ne_zero (qh _) (qh _));rwa [Int.natAbs_mul,Int.natAbs_natCast,Int.natAbs_natCast]at this
theorem Fh(q:Rat):(q.num:Rat)=q*(q.den:Rat):=by
 have h:((q.den:Int):Rat)≠0:=λe=>qh q (by
  have:((q.den:Int):Rat)=((0:Int):Rat):=e
  exact Rat.intCast_inj.mp this)
 have e:q=(q.num:Rat) / ((q.den:Int):Rat):=by
  conv=>lhs;rw[<- Rat.num_divInt_den q,Rat.divInt_eq_div]
 have:=Rat.div_mul_cancel (a:=(q.num:Rat)) h;rw[<- e]at this;exact this.symm
noncomputable def QF(qs:List Rat):Nat:=qs.foldl (λb q=>Nat.lcm b q.den) 1
theorem xF:∀(qs:List Rat)(b:Nat),b∣qs.foldl (λb q=>Nat.lcm b q.den) b/\(∀q∈qs,q.den∣qs.foldl (λb q=>Nat.lcm b q.den) b)/\∀P,b∣P->(∀q∈qs,q.den∣P)->qs.foldl (λb q=>Nat.lcm b q.den) b∣P
 |[],b=>⟨Nat.dvd_refl _,λq hq=>by simp at hq,λP h _=>h⟩
 | q::qs,b=>by
  obtain⟨h1,h2,h3⟩:=xF qs (Nat.lcm b q.den);rw[List.foldl_cons];refine⟨Nat.dvd_trans (Nat.dvd_lcm_left _ _) h1,λp hp=>?_,λP hb hP=>h3 P (Nat.lcm_dvd hb (hP q SE)) λp hp=>hP p (SC _ hp)⟩;rcases SK.mp hp with rfl|hp
  . exact Nat.dvd_trans (Nat.dvd_lcm_right _ _) h1
  . exact h2 p hp
theorem vX{qs:List Rat}{q:Rat}(h:q∈qs):q.den∣QF qs:=(xF qs 1).2.1 q h
theorem Fi{qs:List Rat}{P:Nat}(h:∀q∈qs,q.den∣P):QF qs∣P:=(xF qs 1).2.2 P (Nat.one_dvd _) h
noncomputable def d9(u:Nat)(q:Rat):Int:=q.num*((u / q.den:Nat):Int)
theorem mE{u:Nat}{q:Rat}(h:q.den∣u):((d9 u q:Int):Rat)=q*(u:Rat):=by obtain⟨c,rfl⟩:=h;unfold d9;rw[Nat.mul_div_cancel_left _ (den_pos q),Rat.intCast_mul,Fh,Rat.intCast_natCast,Rat.natCast_mul,Rat.mul_assoc]
theorem xG{u:Nat}{q:Rat}(h:0<=q):0<=d9 u q:=Int.mul_nonneg (Rat.num_nonneg.mpr h) (Int.natCast_nonneg _)
noncomputable def kr(R:aV):List Rat:=R.asks.map (·.size)
noncomputable def rQ(R:aV)(q:Rat):List Rat:=R.rooms.map λr=>q*r
noncomputable def QG(R:aV)(q:Rat):Nat:=QF (kr R++rQ R q)
noncomputable def bH(R:aV)(q:Rat):Nat:=2*QG R q
noncomputable def wI(R:aV)(q:Rat)(j:Nat):Int:=d9 (bH R q) (ck R j).size
noncomputable def QH(R:aV)(q:Rat)(t:Nat):Int:=d9 (bH R q) (q*R.room t)
theorem Fj{R:aV}{j:Nat}(h:j<R.asks.length)(q:Rat):(ck R j).size.den∣QG R q:=by refine vX (List.mem_append_left _ (List.mem_map.mpr ⟨ck R j,?_,rfl⟩));rw[fP h];exact List.getElem_mem h
theorem Fk{R:aV}{t:Nat}(h:t<R.n):R.room t∈R.rooms:=by unfold aV.room;have h':t<R.rooms.length:=h;rw[SA,so h'];exact List.getElem_mem h'
theorem Fm{R:aV}{t:Nat}(h:t<R.n)(q:Rat):(q*R.room t).den∣QG R q :=
 vX (List.mem_append_right _ (List.mem_map.mpr ⟨R.room t,Fk h,rfl⟩))
theorem Cy{a b:Nat}(h:a∣b):a∣2*b:=Nat.dvd_trans h (Nat.dvd_mul_left _ _)
theorem Gn{R:aV}{q:Rat}{j:Nat}(h:j<R.asks.length):((wI R q j:Int):Rat)=(ck R j).size*(bH R q:Rat):=mE (Cy (Fj h q))
theorem Cz{R:aV}{q:Rat}{t:Nat}(h:t<R.n):((QH R q t:Int):Rat)=q*R.room t*(bH R q:Rat):=mE (Cy (Fm h q))
theorem Fn{R:aV}(hR:R.Ok)(q:Rat):∀j,j<R.asks.length->0<=wI R q j:=λj h=>xG (mD hR h).size
theorem ui:∀{qs:List Rat}{q:Rat},q∈qs->q.den∣xv qs
 | p::qs,q,h=>by
  show q.den∣p.den*xv qs;rcases SK.mp h with rfl|h
  . exact Nat.dvd_mul_right _ _
  . exact Nat.dvd_trans (ui h) (Nat.dvd_mul_left _ _)
theorem CA:∀{qs:List Rat},(∀q∈qs,RB 60 q)->xv qs<=2^(60*qs.length)
 |[],_=>SN 1
 | q::qs,h=>by have h1:=(h q SE).2;have h2:=CA λp hp=>h p (SC _ hp);show q.den*xv qs<=2^(60*(qs.length+1));rw[Nat.mul_add,Nat.mul_one,Nat.pow_add,Nat.mul_comm (2^_)];exact Nat.mul_le_mul (Nat.le_of_lt h1) h2
theorem zm(R:aV)(q:Rat):0<QG R q:=by have hd:QG R q∣xv (kr R++rQ R q):=Fi λp hp=>ui hp;exact Nat.pos_of_dvd_of_pos hd (pG _)
theorem zp{R:aV}(hR:R.Ok){q:Rat}(hq:RB 1750 q):0<bH R q/\bH R q<2^3750:=by
 obtain⟨D,d0,d1,hD⟩:=hR.cd
 have hd:QG R q∣D*(q.den*xv R.rooms):=by
  refine Fi λp hp=>?_;rcases List.mem_append.mp hp with hp|hp
  . obtain⟨a,ha,rfl⟩:=List.mem_map.mp hp;exact Nat.dvd_trans (hD a ha) (Nat.dvd_mul_right _ _)
  . obtain⟨r,hr,rfl⟩:=List.mem_map.mp hp;refine Nat.dvd_trans (xE q r) (Nat.dvd_trans (Nat.mul_dvd_mul_left _ (ui hr)) (Nat.dvd_mul_left _ _))
 have h1:D<=2^1240:=Nat.le_of_lt d1;have h2:xv R.rooms<=2^720:=by refine SJ (CA λp hp=>(hR.room p hp).2) (SL x_ ?_);have:R.rooms.length<=12:=hR.hi;omega
 have h3:q.den<=2^1750:=Nat.le_of_lt hq.2;have h4:QG R q<=D*(q.den*xv R.rooms):=Nat.le_of_dvd (Nat.mul_pos d0 (Nat.mul_pos (den_pos _) (pG _))) hd;have h5:D*(q.den*xv R.rooms)<=2^1240*(2^1750*2^720):=Nat.mul_le_mul h1 (Nat.mul_le_mul h3 h2);have h6:2^1240*(2^1750*2^720)=2^3710:=by rw[<- Nat.pow_add,<- Nat.pow_add]
 rw[h6]at h5;have h0:=zm R q;have h7:(2:Nat)^3711=2*2^3710:=by rw[Nat.pow_succ,Nat.mul_comm]
 have h8:(2:Nat)^3711<2^3750:=Nat.pow_lt_pow_right x_ x_;unfold bH;refine⟨xL,?_⟩;generalize (2:Nat)^3750=z at *;generalize (2:Nat)^3710=y at *;generalize (2:Nat)^3711=x at *;omega
theorem Aq(R:aV):R.asks=(List.range R.asks.length).map (ck R):=by refine List.ext_getElem v6 λj h1 h2=>?_;rw[List.getElem_map,List.getElem_range,fP h1]
noncomputable def pI(R:aV)(q:Rat)(k:Nat):Int:=QE R (wI R q) (QH R q) k
noncomputable def MS(R:aV)(q:Rat)(k:Nat):Rat:=Rat.divInt (pI R q k) (bH R q:Int)
noncomputable def N3(R:aV)(q:Rat):List Rat:=(List.range R.asks.length).map (MS R q)
theorem vJ{α β:Type}(f:Nat->α)(g:Nat->β)(m:Nat):((List.range m).map f).zip ((List.range m).map g)=(List.range m).map λk=>(f k,g k):=by rw[List.zip_map']
noncomputable def ff(n:Nat)(f:Nat->Int):List D:=(List.range n).map λ(t:Nat)=>D.int (f t)
theorem mF(n:Nat)(f:Nat->Int):(ff n f).length=n:=by simp[ff]
theorem qp{n:Nat}{f:Nat->Int}{t:Nat}(h:t<n):OV (ff n f) (t:Int)=some (.int (f t)):=by refine i4 ?_;unfold ff;rw[List.getElem?_map,List.getElem?_range h];rfl
theorem CB{a b:Nat}(h:0<b):((a:Int).fdiv (Int.gcd a b:Int))*(b:Int)=((Nat.lcm a b:Nat):Int):=by rw[Int.fdiv_eq_ediv_of_nonneg _ xL];show((a:Int) / ((Nat.gcd a b:Nat):Int))*(b:Int)=_;rw[<- Int.natCast_ediv,<- Int.natCast_mul,Nat.div_mul_right_comm (Nat.gcd_dvd_left a b)];rfl
theorem K5(R:aV)(q:Rat):(kr R).map (λp=>D.int (d9 (bH R q) p))=ff R.asks.length (wI R q):=by
 unfold kr ff
 conv=>lhs;rw[Aq R,List.map_map,List.map_map]
 rfl
theorem xH(R:aV):R.rooms=(List.range R.n).map R.room:=by refine List.ext_getElem (by simp[aV.n]) λj h1 h2=>?_;rw[List.getElem_map,List.getElem_range];unfold aV.room;rw[SA,so h1];rfl
theorem K6(R:aV)(q:Rat):(rQ R q).map (λp=>D.int (d9 (bH R q) p))=ff R.n (QH R q):=by
 unfold rQ ff
 conv=>lhs;rw[xH R,List.map_map,List.map_map]
 rfl
end My
set_option exponentiation.threshold 2000
namespace L2
open PySem
end L2
set_option exponentiation.threshold 5000
namespace My
open PySem L2
structure LB (R:aV) (ps:List Rat):Prop where
 p:∀p∈ps,RB 4100 p
 ld:∀k t,RB 4100 (iU R.n (R.asks.take k) (ps.take k) t)
 st:∀(k:Nat)(h1:k<R.asks.length)(h2:k<ps.length)(t:Nat),RB 4100 (Iv R.n R.asks[k] ps[k] t)
 sm:∀t,MP ((R.asks.zip ps).map λx=>Iv R.n x.1 x.2 t)
theorem LB.all{R:aV}{ps:List Rat}(h:LB R ps)(hl:ps.length=R.asks.length)(t:Nat):RB 4100 (iU R.n R.asks ps t):=by have:=h.ld R.asks.length t;rwa [List.take_of_length_le (SN _),List.take_of_length_le xL]at this
theorem MT{R:aV}(hR:R.Ok){q:Rat}(hq:RB 1750 q){j:Nat}(h:j<R.asks.length):(wI R q j).natAbs<2^4050:=by
 have h1:=(zp hR hq).2;have h2:=vO (V:=2^300) (mD hR h).size (mD hR h).lt;unfold wI d9;rw[Int.natAbs_mul,Int.natAbs_natCast];have h3:(ck R j).size.den*(bH R q / (ck R j).size.den)<=bH R q:=Nat.mul_div_le _ _;have e:(2:Nat)^4050=2^300*2^3750:=by rw[<- Nat.pow_add]
 have h4:(ck R j).size.num.natAbs*(bH R q / (ck R j).size.den)<=2^300*bH R q:=by refine SJ (Nat.mul_le_mul_right _ (Nat.le_of_lt h2)) ?_;rw[Nat.mul_assoc];exact Nat.mul_le_mul_left _ h3
 rw[e];exact SO h4 (Nat.mul_lt_mul_of_pos_left h1 (Nat.pow_pos x_))
noncomputable def zI(R:aV)(q:Rat)(t j:Nat):Int:=if lu R.n (ck R j) t then pI R q j else wI R q j-pI R q j
theorem uj(ys:List D):Pp (.lst ys) (.lst [])=ys.isEmpty:=by rw[Hj];cases ys<;>rfl
mutual
noncomputable def CC:D->Nat
 |.tup xs=>max xs.length (xI xs)
 |.lst xs=>max xs.length (xI xs)
 |_=>0
noncomputable def xI:List D->Nat
 |[]=>0
 |x::xs=>max (CC x) (xI xs)
end
theorem zq{n:Nat}:∀{xs:List D},(∀x∈xs,CC x<=n)->xI xs<=n
 |[],_=>Nat.zero_le _
 | y::ys,h=>by simp only[xI];have:=h y SE;have:=zq (xs:=ys) λx hx=>h x (SC _ hx);omega
theorem IE(q:Rat):CC (PH q)=2:=by simp[PH,CC,xI]
theorem Fo(a:Qw):CC (rG a)=4:=by have:=IE a.size;simp[rG,CC,xI,this]
theorem CD{as:List Qw}{n:Nat}(h:as.length<=n)(h2:4<=n):CC (.lst (as.map rG))<=n:=by
 simp only[CC,SH];have:=zq (n:=4) (xs:=as.map rG) λx hx=>by obtain⟨q,_,rfl⟩:=List.mem_map.mp hx;rw[Fo];exact SN _
 omega
structure QI (n:Nat) (d:D):Prop where
 dep:z7 d<n
 wid:CC d<=99
theorem IF(q:Rat):z7 (PH q)=1:=by simp[PH,z7,xj]
theorem Fp(a:Qw):z7 (rG a)=2:=by have:=IF a.size;simp[rG,z7,xj,this]
theorem Fq{xs:List D}{n:Nat}(h:∀x∈xs,z7 x<=n):z7 (.lst xs)<=n+1:=by simp only[z7];have:=yO h;omega
theorem CF(as:List Qw):z7 (.lst (as.map rG))<=3:=Fq λx hx=>by obtain⟨q,_,rfl⟩:=List.mem_map.mp hx;rw[Fp];exact SN _
theorem QI.asks{as:List Qw}(h:as.length<=99):QI 4 (.lst (as.map rG)):=⟨by have:=CF as;omega,CD h x_⟩
end My
set_option exponentiation.threshold 5000
namespace My
open PySem L2
noncomputable def oG:Option Bool->D
 |none=>.non
 |some w=>.str (d8 w)
structure j8 where
 top:Rat
 strict:Bool
 elder:List (Option Bool)
 most:Nat
noncomputable def QJ(el:List (Option Bool)):D:=.lst (el.map oG)
noncomputable def iV(ws:List Bool):D:=.lst (ws.map λw=>D.str (d8 w))
noncomputable def aP(w:j8):D:=.tup [PH w.top,.bl w.strict,QJ w.elder,.int (w.most:Int)]
noncomputable def dA(x:Option Bool×Option Bool):Bool:=match x.1 with
 |none=>false
 |some a=>x.2 == some (!a)
noncomputable def ef(el ws:List (Option Bool)):List Nat:=((el.zip ws).zipIdx.filter λx=>dA x.1).map (·.2)
theorem sU(o:Option Bool):cq (oG o):=by
 cases o with
 |none=>exact sM
 |some w=>exact gN w
theorem xJ(o:Option Bool)(b:Bool):Pp (oG o) (.str (d8 b))=(o == some b):=by
 cases o with
 |none=>rfl
 | some a =>
  show Pp (.str (d8 a)) (.str (d8 b))=_;rw[xc];cases a<;>cases b<;>rfl
noncomputable def dD(st:Bool)(load bound:Int):Bool:=decide (bound<load) ||(st && decide (load=bound))
noncomputable def o4(w:j8)(x:Rat):Bool:=decide (w.top<x) ||(w.strict && decide (x=w.top))
noncomputable def hZ(n:Nat)(as:List Qw)(zs:List Int)(ws:List Bool)(t:Nat):Int:=((as.zip (zs.zip ws)).map λx=>if lu n x.1 t == x.2.2 then x.2.1 else 0).sum
theorem CG{as:List Qw}{zs:List Int}{ws:List Bool}{k:Nat}(h1:k<as.length)(h2:k<zs.length)(h3:k<ws.length):(as.take (k+1)).zip ((zs.take (k+1)).zip (ws.take (k+1)))=(as.take k).zip ((zs.take k).zip (ws.take k))++[(as[k],zs[k],ws[k])]:=by
 have hz:k<(zs.zip ws).length:=by rw[List.length_zip];omega
 rw[<- j7,<- j7,<- j7,<- j7,List.take_succ,so (by rw[List.length_zip];omega),List.getElem_zip,List.getElem_zip];rfl
theorem CH{n:Nat}{as:List Qw}{zs:List Int}{ws:List Bool}{k:Nat}(h1:k<as.length)(h2:k<zs.length)(h3:k<ws.length)(t:Nat):hZ n (as.take (k+1)) (zs.take (k+1)) (ws.take (k+1)) t=hZ n (as.take k) (zs.take k) (ws.take k) t+if lu n as[k] t == ws[k]then zs[k]else 0:=by unfold hZ;rw[CG h1 h2 h3,List.map_append,List.sum_append];simp
noncomputable def sV(as:List Qw)(ws:List Bool):List Rat:=(as.zip ws).map λx=>if x.2 then x.1.size else 0
theorem vY(n u:Nat)(t:Nat):∀(as:List Qw)(ws:List Bool),ws.length=as.length->(∀a∈as,a.size.den∣u)->((hZ n as ((as.map (·.size)).map (d9 u)) ws t:Int):Rat)=iU n as (sV as ws) t*(u:Rat)
 |[],[],_,_=>by simp[hZ,iU,uf]
 | a::as,w::ws,h,hd=>by
  have ih:=vY n u t as ws (by simpa using h) λb hb=>hd b (SC _ hb)
  have e1:hZ n (a::as) (((a::as).map (·.size)).map (d9 u)) (w::ws) t=(if lu n a t == w then d9 u a.size else 0)+hZ n as ((as.map (·.size)).map (d9 u)) ws t:=rfl
  have e2:iU n (a::as) (sV (a::as) (w::ws)) t=Iv n a (if w then a.size else 0) t+iU n as (sV as ws) t:=by unfold iU;show yY (_::_)=_;rw[jf];rfl
  have uc:=mE (hd a SE);rw[e1,e2,Rat.intCast_add,ih,Rat.add_mul]
  congr 1
  unfold Iv;cases lu n a t<;>cases w<;>simp[uc]<;>grind
 |[],_::_,h,_=>by simp at h
 |_::_,[],h,_=>by simp at h
theorem Fs{n:Nat}{f:Nat->Int}{t:Nat}(v:Int):(ff n f).set t (.int v)=ff n λs=>if s=t then v else f s:=by
 refine List.ext_getElem (by simp[ff]) λj h1 h2=>?_;have e1:∀(g:Nat->Int)(h:j<(ff n g).length),(ff n g)[j]=.int (g j):=λg h=>by simp[ff]
 rw[List.getElem_set,e1 _ h2];by_cases hj:t=j
 . subst hj;simp
 . rw[if_neg hj,if_neg (Ne.symm hj)];exact e1 _ _
theorem CI{n:Nat}{f:Nat->Int}{t:Nat}(h:t<n):OU (ff n f).length (t:Int)=some t:=by rw[mF];unfold OU;rw[if_pos (by omega),if_pos (by omega),Int.toNat_natCast]
theorem nT{n:Nat}{f g:Nat->Int}(h:∀t,t<n->f t=g t):ff n f=ff n g:=by unfold ff;refine List.map_congr_left λt ht=>?_;rw[h t (List.mem_range.mp ht)]
theorem mG{qs:List Rat}(hl:qs.length<=20)(hb:∀q∈qs,RB 60 q):0<QF qs/\QF qs<=2^1200:=by
 have d:QF qs∣xv qs:=Fi λq hq=>by
  clear hl hb
  induction qs with
  |nil=>simp at hq
  | cons a t ih =>
   show q.den∣a.den*xv t;rcases SK.mp hq with rfl|hq
   . exact Nat.dvd_mul_right _ _
   . exact Nat.dvd_trans (ih hq) (Nat.dvd_mul_left _ _)
 have p:=pG qs;refine⟨Nat.pos_of_dvd_of_pos d p,SJ (Nat.le_of_dvd p d) (SJ (Cu qs hb) (SL x_ xL))⟩
theorem zr(n:Nat)(t:Nat){M:Nat}:∀(as:List Qw)(zs:List Int)(ws:List Bool),(∀z∈zs,z.natAbs<=M)->(hZ n as zs ws t).natAbs<=as.length*M
 |[],_,_,_=>by simp[hZ]
 |a::as,[],_,_=>by simp[hZ]
 |a::as,z::zs,[],_=>by simp[hZ]
 | a::as,z::zs,w::ws,h=>by
  have ih:=zr n t as zs ws λy hy=>h y (SC _ hy)
  have e1:hZ n (a::as) (z::zs) (w::ws) t=(if lu n a t == w then z else 0)+hZ n as zs ws t:=rfl
  have hz:=h z SE;rw[e1,List.length_cons,Nat.succ_mul];split<;>omega
theorem vZ{u:Nat}{q:Rat}(hq:RB 60 q)(hu:u<=2^1200):(d9 u q).natAbs<=2^1260:=by
 unfold d9;rw[Int.natAbs_mul,Int.natAbs_natCast];have h1:u / q.den<=2^1200:=SJ (Nat.div_le_self _ _) hu;have e:(2:Nat)^1260=2^60*2^1200:=by rw[<- Nat.pow_add]
 rw[e];exact Nat.mul_le_mul (Nat.le_of_lt hq.1) h1
theorem qq{R:aV}(hR:R.Ok)(hT:∀a∈R.asks,RB 60 a.size)(ws:List Bool)(t:Nat):(hZ R.n R.asks ((R.asks.map (·.size)).map (d9 (QF (R.asks.map (·.size))))) ws t).natAbs<2^1265:=by
 have few:=hR.few;have hb:∀q∈R.asks.map (·.size),RB 60 q:=λq hq=>by obtain⟨a,ha,rfl⟩:=List.mem_map.mp hq;exact hT a ha
 obtain⟨c0,c1⟩:=mG (qs:=R.asks.map (·.size)) (by rw[SH];exact few) hb;have:=zr R.n t (M:=2^1260) R.asks ((R.asks.map (·.size)).map (d9 (QF (R.asks.map (·.size))))) ws λz hz=>by obtain⟨q,hq,rfl⟩:=List.mem_map.mp hz;exact vZ (hb q hq) c1
 have e:(2:Nat)^1265=32*2^1260:=by rw[show(1265:Nat)=5+1260 by rfl,Nat.pow_add]
 rw[e];refine SO this ?_;have p:0<(2:Nat)^1260:=Nat.pow_pos x_;refine SO (Nat.mul_le_mul_right _ few) ?_;omega
theorem Ft{R:aV}(hR:R.Ok)(hT:∀a∈R.asks,RB 60 a.size){ws:List Bool}(hl:ws.length=R.asks.length)(t:Nat):lz R (sV R.asks ws) t=((hZ R.n R.asks ((R.asks.map (·.size)).map (d9 (QF (R.asks.map (·.size))))) ws t:Int):Rat) / ((QF (R.asks.map (·.size)):Nat):Rat) / R.room t:=by
 have hb:∀q∈R.asks.map (·.size),RB 60 q:=λq hq=>by obtain⟨a,ha,rfl⟩:=List.mem_map.mp hq;exact hT a ha
 obtain⟨c0,c1⟩:=mG (qs:=R.asks.map (·.size)) (by rw[SH];exact hR.few) hb;have w:=vY R.n (QF (R.asks.map (·.size))) t R.asks ws hl λa ha=>vX (List.mem_map.mpr ⟨a,ha,rfl⟩);have p:((QF (R.asks.map (·.size)):Nat):Rat)≠0:=λz=>by have:=Rat.natCast_pos.mpr c0;grind
 rw[w,Rat.mul_div_cancel p];rfl
end My
set_option exponentiation.threshold 5000
namespace My
open PySem L2
noncomputable def l7:Nat->(Nat->Int)->Int
 |0,_=>0
 |n+1,f=>l7 n f+f n
theorem IG{n:Nat}{f g:Nat->Int}(h:∀i,i<n->f i<=g i):l7 n f<=l7 n g:=by
 induction n with
 |zero=>exact Int.le_refl _
 | succ n ih =>
  have h1:=ih λi hi=>h i xL;have h2:=h n xL;rw[l7,l7];omega
theorem Fu(n:Nat)(f g:Nat->Int):l7 n (λi=>f i+g i)=l7 n f+l7 n g:=by
 induction n with
 |zero=>rfl
 |succ n ih=>rw[l7,l7,l7,ih];omega
noncomputable def QK(R:aV)(q:Rat)(ws:List Bool)(t:Nat):Int:=l7 ws.length λi=>if QA R i t == ws.getD i false then wI R q i else 0
theorem IH{R:aV}{q:Rat}{ws:List Bool}(hw:ws.length=R.asks.length)(t:Nat):((QK R q ws t:Int):Rat)=iU R.n R.asks (sV R.asks ws) t*(bH R q:Rat):=by
 have hp:(sV R.asks ws).length=R.asks.length:=by simp[sV,hw]
 have key:∀k,k<=R.asks.length->((l7 k (λi=>if QA R i t == ws.getD i false then wI R q i else 0):Int):Rat)=iU R.n (R.asks.take k) ((sV R.asks ws).take k) t*(bH R q:Rat):=by
  intro k
  induction k with
  |zero=>intro _;simp[l7,iU,uf]
  | succ k ih =>
   intro hk;have h1:k<R.asks.length:=by omega
   have h2:k<(sV R.asks ws).length:=by omega
   rw[An h1 h2,l7,Rat.intCast_add,ih xL,Rat.add_mul]
   congr 1
   have e1:(sV R.asks ws)[k]=if ws[k]'(by omega)then R.asks[k].size else 0:=by simp[sV]
   have e2:ws.getD k false=ws[k]'(by omega):=by rw[SA,so xL];rfl
   have wc:=Gn (R:=R) (q:=q) h1;rw[fP h1]at wc;unfold Iv QA;rw[e1,e2,fP h1];cases lu R.n R.asks[k] t<;>cases ws[k]'(by omega)<;>simp[wc]<;>grind
 have:=key R.asks.length (SN _);rw[List.take_of_length_le (SN _),List.take_of_length_le xL]at this;unfold QK;rw[hw];exact this
theorem nU{R:aV}(hR:R.Ok){w:j8}{ws:List Bool}(hw:ws.length=R.asks.length){t:Nat}(ht:t<R.n):dD w.strict (QK R w.top ws t) (QH R w.top t)=o4 w (lz R (sV R.asks ws) t):=by
 obtain⟨r1,r2⟩:=ly hR ht;have u0:0<bH R w.top:=by have:=zm R w.top;unfold bH;omega
 have uq:(0:Rat)<(bH R w.top:Rat):=Rat.natCast_pos.mpr u0;have e1:=IH (q:=w.top) hw t;have e2:=Cz (q:=w.top) ht;unfold dD o4 lz;have i1:QH R w.top t<QK R w.top ws t↔w.top<iU R.n R.asks (sV R.asks ws) t / R.room t:=by rw[<- Rat.intCast_lt_intCast,e1,e2,Rat.lt_div_iff r1];exact⟨λh=>(Rat.mul_lt_mul_right uq).mp h,λh=>(Rat.mul_lt_mul_right uq).mpr h⟩
 have i2:QK R w.top ws t=QH R w.top t↔iU R.n R.asks (sV R.asks ws) t / R.room t=w.top:=by
  rw[<- Rat.intCast_inj,e1,e2];have r0:R.room t≠0:=by grind
  have un:(bH R w.top:Rat)≠0:=by grind
  constructor
  .
   intro h;have:iU R.n R.asks (sV R.asks ws) t=w.top*R.room t:=by grind
   rw[this,Rat.mul_div_cancel r0]
  .
   intro h;have:iU R.n R.asks (sV R.asks ws) t=w.top*R.room t:=by rw[<- h,Rat.div_mul_cancel r0]
   rw[this]
 rw[decide_eq_decide.mpr i1,decide_eq_decide.mpr i2]
inductive Tr where
 |turned
 |cut (c:Nat×Nat)
 |split (k:Nat) (a b:Tr)
noncomputable def QL:Tr->D
 |.turned=>.tup [.str "turned"]
 |.cut c=>.tup [.str "cut",.int (c.1:Int),.int (c.2:Int)]
 |.split k a b=>.tup [.str "split",.int (k:Int),QL a,QL b]
noncomputable def QM(R:aV)(fixed:List (Option Bool))(c:Nat×Nat)(i:Nat):Int:=match fixed.getD i none with
 |none=>if apart c (ck R i).one (ck R i).other then 1 else 0
 |some b=>(if QA R i c.1 == b then 1 else 0)+if QA R i c.2 == b then 1 else 0
noncomputable def qr(R:aV)(q:Rat)(fixed:List (Option Bool))(c:Nat×Nat):Int:=l7 R.asks.length λi=>wI R q i*QM R fixed c i
def Tr.Ok(R:aV)(w:j8):List (Option Bool)->Tr->Prop
 |fixed,.turned=>w.most<(ef w.elder fixed).length
 |fixed,.cut c=>lx R.n c/\dD w.strict (qr R w.top fixed c) (QH R w.top c.1+QH R w.top c.2)=true
 |fixed,.split k a b=>k<fixed.length/\fixed.getD k none=none/\Tr.Ok R w (fixed.set k (some true)) a/\Tr.Ok R w (fixed.set k (some false)) b
def oH(R:aV)(w:j8)(ws:List Bool):Prop:=(∀t,t<R.n->o4 w (lz R (sV R.asks ws) t)=false)/\(ef w.elder (ws.map some)).length<=w.most
def Ar(fixed:List (Option Bool))(ws:List Bool):Prop:=ws.length=fixed.length/\∀i b,fixed.getD i none=some b->ws.getD i false=b
theorem CJ{el fixed:List (Option Bool)}{ws:List Bool}(h:Ar fixed ws):(ef el fixed).length<=(ef el (ws.map some)).length:=by
 unfold ef;rw[SH,SH];obtain⟨hl,hc⟩:=h
 have:∀(n:Nat)(el fixed:List (Option Bool))(ws:List Bool),ws.length=fixed.length->(∀i b,fixed.getD i none=some b->ws.getD i false=b)->((el.zip fixed).zipIdx n |>.filter λx=>dA x.1).length<=((el.zip (ws.map some)).zipIdx n |>.filter λx=>dA x.1).length:=by
  intro n el
  induction el generalizing n with
  |nil=>intro fixed ws _ _;simp
  | cons e el ih =>
   intro fixed ws hl hc
   match fixed,ws,hl with
   |[],[],_=>simp
   | f::fixed,b::ws,hl =>
    have i1:=ih (n+1) fixed ws (by simpa using hl) λi b' hb=>by have:=hc (i+1) b' (by simpa using hb);simpa using this
    rw[List.map_cons,List.zip_cons_cons,List.zip_cons_cons,List.zipIdx_cons,List.zipIdx_cons,List.filter_cons,List.filter_cons]
    have imp:dA (e,f)=true->dA (e,some b)=true:=λh=>by
     cases f with
     |none=>cases e<;>simp[dA]at h
     | some g =>
      have:=hc 0 g rfl;have:b=g:=by simpa using this
      subst this;exact h
    cases h1:dA (e,f)<;>cases h2:dA (e,some b)
    . simpa[h1,h2]using i1
    . simp[h1,h2];omega
    . rw[imp h1]at h2;cases h2
    . simpa[h1,h2]using i1
 exact this 0 el fixed ws hl hc
theorem II{R:aV}(hR:R.Ok){q:Rat}{fixed:List (Option Bool)}{ws:List Bool}(hf:fixed.length=R.asks.length)(h:Ar fixed ws){c:Nat×Nat}(hc:lx R.n c):qr R q fixed c<=QK R q ws c.1+QK R q ws c.2:=by
 unfold QK qr;rw[h.1,hf,<- Fu];refine IG λi hi=>?_;have ha:=mD hR hi;have hz:=Fn hR q i hi;have ap:=Cw ha hc;unfold QM
 cases e:fixed.getD i none with
 | none =>
  dsimp only;rw[ap];unfold QA;cases lu R.n (ck R i) c.1<;>cases lu R.n (ck R i) c.2<;>cases ws.getD i false<;>simp<;>omega
 | some b =>
  dsimp only;rw[h.2 i b e];unfold QA;cases lu R.n (ck R i) c.1<;>cases lu R.n (ck R i) c.2<;>cases b<;>simp<;>omega
theorem Fv{fixed:List (Option Bool)}{ws:List Bool}(h:Ar fixed ws){k:Nat}(hk:k<fixed.length):Ar (fixed.set k (some (ws.getD k false))) ws:=by
 refine⟨by simpa using h.1,λi b e=>?_⟩;rw[SA,List.getElem?_set]at e;split at e
 . rename_i hki;subst hki;simp[hk]at e;rw[<- e,SA]
 . exact h.2 i b (by rw[SA];exact e)
theorem Fw{st:Bool}{x y a b:Int}(h:dD st (x+y) (a+b)=true)(h1:dD st x a=false)(h2:dD st y b=false):False:=by
 unfold dD at h h1 h2;simp only[Bool.or_eq_false_iff,Bool.or_eq_true,decide_eq_false_iff_not,decide_eq_true_eq,Bool.and_eq_true,Bool.and_eq_false_iff]at h h1 h2;cases st
 . simp at h h1 h2;omega
 . simp at h h1 h2;omega
theorem IJ{st:Bool}{x y a:Int}(h:dD st x a=true)(hl:x<=y):dD st y a=true:=by
 unfold dD at h ⊢;simp only[Bool.or_eq_true,decide_eq_true_eq,Bool.and_eq_true]at h ⊢;rcases h with h|⟨h1,h2⟩
 . left;omega
 .
  by_cases e:a<y
  . exact .inl e
  . exact .inr ⟨h1,xL⟩
theorem mH{R:aV}(hR:R.Ok){w:j8}:∀(T:Tr)(fixed:List (Option Bool))(ws:List Bool),fixed.length=R.asks.length->T.Ok R w fixed->Ar fixed ws->¬oH R w ws
 | .turned,fixed,ws,hf,ht,hc,hk=>by have:=CJ (el:=w.elder) hc;have h1:w.most<(ef w.elder fixed).length:=ht;have:=hk.2;omega
 | .cut c,fixed,ws,hf,ht,hc,hk=>by
  obtain⟨ic,hm⟩:=ht;have hw:ws.length=R.asks.length:=by rw[hc.1,hf]
  have h1:=hk.1 c.1 (by have:=ic.1;have:=ic.2;omega);have h2:=hk.1 c.2 ic.2;rw[<- nU hR hw (by have:=ic.1;have:=ic.2;omega)]at h1;rw[<- nU hR hw ic.2]at h2;exact Fw (IJ hm (II hR hf hc ic)) h1 h2
 | .split k a b,fixed,ws,hf,ht,hc,hk=>by
  obtain⟨h1,h2,h3,h4⟩:=ht;have cs:=Fv hc h1;cases e:ws.getD k false
  . rw[e]at cs;exact mH hR b _ ws (by simpa using hf) h4 cs hk
  . rw[e]at cs;exact mH hR a _ ws (by simpa using hf) h3 cs hk
end My
set_option exponentiation.threshold 5000
namespace My
open PySem L2
noncomputable def Tr.kind:Tr->Nat
 |.turned=>0
 |.cut _=>1
 |.split _ _ _=>2
noncomputable def Tr.size:Tr->Nat
 |.turned=>1
 |.cut _=>1
 |.split _ a b=>a.size+b.size+1
theorem Tr.size_pos(T:Tr):0<T.size:=by cases T<;>simp[Tr.size]
end My
set_option exponentiation.threshold 5000
namespace My
open PySem L2
noncomputable def AL(n:Nat)(f:Nat->Rat):Rat:=(List.range n).foldl (λb t=>if b<f t then f t else b) 0
theorem qt(n:Nat)(f:Nat->Rat):AL (n+1) f=if AL n f<f n then f n else AL n f:=by unfold AL;rw[List.range_succ,List.foldl_append];rfl
theorem CK{f:Nat->Rat}:∀{n t:Nat},t<n->f t<=AL n f
 | n+1,t,h=>by
  rw[qt];rcases Nat.lt_or_ge t n with g|g
  . have:=CK (f:=f) g;split<;>grind
  .
   have:t=n:=by omega
   subst this;split<;>grind
theorem CL{f:Nat->Rat}:∀{n:Nat},AL n f=0∨∃t,t<n/\AL n f=f t
 |0=>.inl rfl
 | n+1=>by
  rw[qt];split
  . exact .inr ⟨n,xL,rfl⟩
  .
   rcases CL (f:=f) (n:=n)with h|⟨t,ht,h⟩
   . exact .inl h
   . exact .inr ⟨t,xL,h⟩
theorem Fx{n:Nat}(hn:0<n){f:Nat->Rat}(h0:∀t,t<n->0<=f t):AL n f=f (Iy n f):=by
 obtain⟨i1,i2⟩:=Cv hn f;have h1:=CK (f:=f) i1
 have h2:AL n f<=f (Iy n f):=by
  rcases CL (f:=f) (n:=n)with h|⟨t,ht,h⟩
  . rw[h];exact h0 _ i1
  . rw[h];exact i2 t ht
 exact Rat.le_antisymm h2 h1
theorem As{a b c d:Int}(hb:0<b)(hd:0<d):Rat.divInt a b<Rat.divInt c d↔a*d<c*b:=by
 rw[mC hb];obtain⟨m,hm,e1,e2⟩:=oF c hd;generalize Rat.divInt c d=p at e1 e2;rw[e1,e2];have q1:a*((p.den:Int)*m)=a*(p.den:Int)*m:=by rw[Int.mul_assoc]
 have q2:p.num*m*b=p.num*b*m:=by rw[Int.mul_assoc,Int.mul_comm m,<- Int.mul_assoc]
 rw[q1,q2];constructor
 . exact λh=>Int.mul_lt_mul_of_pos_right h hm
 . exact λh=>Int.lt_of_mul_lt_mul_right h (Int.le_of_lt hm)
theorem xK{r:Rat}(hr:0<r):0<r.num:=by have h1:=Rat.num_nonneg.mpr (Rat.le_of_lt hr);have h2:=Gk (q:=r) (by grind);omega
theorem xM{f:Int}{b:Nat}{r:Rat}(hb:0<b)(hr:0<r):(f:Rat) / (b:Rat) / r=Rat.divInt (f*(r.den:Int)) ((b:Int)*r.num):=by
 rw[Rat.divInt_eq_div,Rat.intCast_mul,Rat.intCast_mul,qj r];have h1:((b:Nat):Rat)≠0:=λz=>by have:=Rat.natCast_pos.mpr hb;grind
 have h2:((r.den:Nat):Rat)≠0:=λz=>by have:=Rat.natCast_pos.mpr r.den_pos;grind
 have e1:(((r.den:Nat):Int):Rat)=((r.den:Nat):Rat):=rfl;have e2:(((b:Nat):Int):Rat)=((b:Nat):Rat):=rfl;rw[e1,e2];have h3:r≠0:=by grind
 grind
noncomputable def QN(R:aV):List Rat:=R.asks.map (·.size)
noncomputable def rH(R:aV):List Int:=(QN R).map (d9 (QF (QN R)))
noncomputable def cA(R:aV):D:=.lst (R.asks.map λa=>D.lst ((Qy R.n a.one a.other).map λ(t:Nat)=>D.int (t:Int)))
noncomputable def cB(R:aV):D:=.tup [.lst ((rH R).map .int),.int (QF (QN R):Int)]
theorem CM{R:aV}(hR:R.Ok)(hT:∀a∈R.asks,RB 60 a.size):0<QF (QN R)/\QF (QN R)<=2^1200 :=
 mG (by unfold QN;rw[SH];exact hR.few) λq hq=>by obtain⟨a,ha,rfl⟩:=List.mem_map.mp hq;exact hT a ha
theorem CN(n t:Nat):∀(as:List Qw)(zs:List Int)(ws:List Bool),(∀z∈zs,0<=z)->0<=hZ n as zs ws t
 |[],zs,ws,h=>by simp[hZ]
 |a::as,[],ws,h=>by simp[hZ]
 |a::as,z::zs,[],h=>by simp[hZ]
 | a::as,z::zs,w::ws,h=>by have h1:=CN n t as zs ws λy hy=>h y (SC _ hy);have h2:=h z SE;unfold hZ at h1 ⊢;rw[List.zip_cons_cons,List.zip_cons_cons,List.map_cons,List.sum_cons];dsimp only;split<;>omega
theorem K7{R:aV}(hR:R.Ok):∀z∈rH R,0<=z:=λz hz=>by obtain⟨q,hq,rfl⟩:=List.mem_map.mp hz;obtain⟨a,ha,rfl⟩:=List.mem_map.mp hq;have h0:=Rat.num_nonneg.mpr (hR.ask a ha).size;unfold d9;exact Int.mul_nonneg h0 (Int.natCast_nonneg _)
noncomputable abbrev Au(R:aV)(ws:List Bool):Nat->Rat:=lz R (sV R.asks ws)
theorem uk{R:aV}(hR:R.Ok)(hT:∀a∈R.asks,RB 60 a.size){ws:List Bool}(hl:ws.length=R.asks.length)(t:Nat):Au R ws t=((hZ R.n R.asks (rH R) ws t:Int):Rat) / ((QF (QN R):Nat):Rat) / R.room t:=Ft hR hT hl t
theorem IK{R:aV}(hR:R.Ok)(hT:∀a∈R.asks,RB 60 a.size){ws:List Bool}(hl:ws.length=R.asks.length){t:Nat}(ht:t<R.n):0<=Au R ws t:=by obtain⟨c0,c1⟩:=CM hR hT;obtain⟨r1,r2⟩:=ly hR ht;rw[uk hR hT hl,xM c0 r1];exact Rat.divInt_nonneg (Int.mul_nonneg (CN _ _ _ _ _ (K7 hR)) xL) (Int.mul_nonneg xL (Int.le_of_lt (xK r1)))
theorem IL{R:aV}(hR:R.Ok)(hT:∀a∈R.asks,RB 60 a.size){ws:List Bool}(hl:ws.length=R.asks.length){t:Nat}(ht:t<R.n):RB 1325 (Au R ws t):=by
 obtain⟨c0,c1⟩:=CM hR hT;obtain⟨r1,r2⟩:=ly hR ht;rw[uk hR hT hl,xM c0 r1];have n1:=xK r1;refine RB.of_divInt (by have:=Int.mul_pos (show(0:Int)<(QF (QN R):Int) by omega) n1;omega) ?_ ?_
 .
  rw[Int.natAbs_mul];have d1:((R.room t).den:Int).natAbs<2^60:=by simpa using r2.2
  exact a8 (m:=1265) (n:=60) (qq hR hT ws t) d1
 . rw[Int.natAbs_mul,Int.natAbs_natCast];refine SD (a8 (m:=1201) (n:=60) (SO c1 (Nat.pow_lt_pow_right x_ x_)) r2.1) (SL x_ x_)
noncomputable def Gp(R:aV)(ws:List Bool):Rat:=Au R ws (Iy R.n (Au R ws))
theorem IM{R:aV}(hR:R.Ok)(ws:List Bool):Iy R.n (Au R ws)<R.n:=(Cv (by have:=hR.lo;omega) (Au R ws)).1
theorem um{R:aV}(hR:R.Ok)(hT:∀a∈R.asks,RB 60 a.size){ws:List Bool}(hl:ws.length=R.asks.length):RB 1325 (Gp R ws):=IL hR hT hl (IM hR ws)
theorem K8{R:aV}(hR:R.Ok)(hT:∀a∈R.asks,RB 60 a.size){ws:List Bool}(hl:ws.length=R.asks.length):AL R.n (Au R ws)=Gp R ws:=Fx (by have:=hR.lo;omega) λt ht=>IK hR hT hl ht
noncomputable def sW:Nat->List (List Bool)
 |0=>[[]]
 |n+1=>(sW n).map (·++[true])++(sW n).map (·++[false])
theorem j9(n:Nat):(sW n).length=2^n:=by
 induction n with
 |zero=>rfl
 |succ n ih=>rw[sW,List.length_append,SH,SH,ih,Nat.pow_succ];omega
theorem fQ{n:Nat}{ws:List Bool}:ws∈sW n↔ws.length=n:=by
 induction n generalizing ws with
 |zero=>simp[sW]
 | succ n ih =>
  rw[sW,List.mem_append,List.mem_map,List.mem_map];constructor
  . rintro (⟨v,hv,rfl⟩|⟨v,hv,rfl⟩)<;>simp[ih.mp hv]
  .
   intro h;have hn:ws≠[]:=λz=>by rw[z]at h;simp at h
   have e:=List.dropLast_concat_getLast hn;have hd:ws.dropLast∈sW n:=ih.mpr (by rw[List.length_dropLast,h];rfl);cases eb:ws.getLast hn
   . exact .inr ⟨_,hd,by rw[eb]at e;exact e⟩
   . exact .inl ⟨_,hd,by rw[eb]at e;exact e⟩
end My
set_option exponentiation.threshold 5000
namespace My
open PySem L2
end My
set_option exponentiation.threshold 5000
namespace My
open PySem L2
noncomputable def LX:Nat->Str
 |0=>"turned"
 |1=>"cut"
 |_=>"split"
noncomputable def LY:Nat->Nat
 |0=>1
 |1=>3
 |_=>4
noncomputable def IP(R:aV)(o:Option Bool)(c:Nat×Nat)(i:Nat):Int:=match o with
 |none=>if apart c (ck R i).one (ck R i).other then 1 else 0
 |some b=>(if QA R i c.1 == b then 1 else 0)+if QA R i c.2 == b then 1 else 0
theorem K9(R:aV)(fixed:List (Option Bool))(c:Nat×Nat)(i:Nat):QM R fixed c i=IP R (fixed.getD i none) c i:=rfl
theorem Fy(R:aV)(o:Option Bool)(c:Nat×Nat)(i:Nat):(IP R o c i).natAbs<2^60:=by
 unfold IP;split
 . split<;>decide
 . split<;>split<;>decide
theorem CO(n:Nat)(f:Nat->Int):((List.range n).map f).sum=l7 n f:=by
 induction n with
 |zero=>rfl
 |succ n ih=>rw[List.range_succ,List.map_append,List.sum_append,ih,l7];simp
theorem Fz{el:List (Option Bool)}{k:Nat}(h:k<el.length):OV (el.map oG) (k:Int)=some (oG (el.getD k none)):=by
 rw[bN h]
 congr 2
 rw[SA,so h];rfl
structure Gq where
 tr:Tr
 fixed:List (Option Bool)
 ways:List Bool
noncomputable def o5(x:Gq):D:=.tup [QL x.tr,QJ x.fixed,iV x.ways]
noncomputable def qu(xs:List Gq):Nat:=(xs.map λx=>x.tr.size).sum
theorem CP(n:Nat)(f:Nat->Int):nP (ff n f)=(List.range n).map λ(t:Nat)=>D.tup [.int (t:Int),.int (f t)]:=by unfold nP ff;refine List.ext_getElem v6 λj h1 h2=>?_;simp
end My
set_option exponentiation.threshold 5000
namespace My
open PySem L2
noncomputable def Jp(n:Nat):D->Bool
 |.tup [.int i,.int j]=>decide (0<=i/\i<=j/\j<(n:Int))
 |_=>false
theorem IQ{n:Nat}{d:D}(h:∀i j,d≠.tup [.int i,.int j]):Jp n d=false:=by
 unfold Jp;split
 . exact absurd rfl (h _ _)
 . rfl
end My
set_option exponentiation.threshold 5000
namespace My
open PySem L2
structure MU where
 k:Nat
 kw:Bool
 l:Nat
 lw:Bool
 am:Rat
noncomputable def QO(R:aV)(ps:List Rat)(k:Nat)(w:Bool):Rat:=if w then R.sz k-ps.getD k 0 else ps.getD k 0
noncomputable def QP(R:aV)(ps:List Rat)(k:Nat)(kw:Bool)(l:Nat)(lw:Bool):Rat:=if QO R ps l lw<QO R ps k kw then QO R ps l lw else QO R ps k kw
noncomputable def MV(n:Nat)(a:Qw)(aw:Bool)(b:Qw)(bw:Bool):Bool:=!((LW n a aw).any λt=>decide (t∈LW n b bw))
end My
set_option exponentiation.threshold 5000
namespace My
open PySem L2
end My
set_option exponentiation.threshold 5000
namespace My
open PySem L2
noncomputable def Py(R:aV)(ps:List Rat)(s:MU):Bool:=!decide (s.k=s.l) && (MV R.n (ck R s.k) s.kw (ck R s.l) s.lw && (decide (0<s.am) && !decide (QP R ps s.k s.kw s.l s.lw<s.am)))
end My
set_option exponentiation.threshold 5000
namespace My
open PySem L2
end My
set_option exponentiation.threshold 5000
namespace My
open PySem L2
noncomputable def Nn:D->Bool
 |.str z=>decide (z=Str.ofString "on") ||decide (z=Str.ofString "back")
 |_=>false
theorem IR(z:Str):O5 (.str z) [.str (Str.ofString "on"),.str (Str.ofString "back")]=Nn (.str z):=by
 have e1:(Str.ofString "on" == z)=decide (z=Str.ofString "on"):=by rw[Bool.eq_iff_iff,beq_iff_eq,decide_eq_true_iff]; exact eq_comm
 have e2:(Str.ofString "back" == z)=decide (z=Str.ofString "back"):=by rw[Bool.eq_iff_iff,beq_iff_eq,decide_eq_true_iff]; exact eq_comm
 show(Str.ofString "on" == z ||(Str.ofString "back" == z ||false))=_;rw[e1,e2,Bool.or_false];rfl
theorem FC(w:Bool):Nn (.str (d8 w))=true:=by cases w<;>decide +kernel
structure Pt (n:Nat) (d:D):Prop where
 dep:z7 d<=n
 wid:CC d<=99
 same:BY (20+n) d=true
theorem Pt.int(i:Int):Pt 0 (.int i):=⟨by simp[z7],by simp[CC],by simp[BY]⟩
end My
set_option exponentiation.threshold 5000
namespace My
open PySem L2
noncomputable def N4:D->Option Nat
 |.int i=>if 0<=i then some i.toNat else none
 |_=>none
noncomputable def FD(d:D)(n:Int):Bool:=match d with
 |.int i=>decide (0<=i/\i<n)
 |_=>false
noncomputable def Ma(tag:Str):D->Bool
 |.str x=>Pp (.str x) (.str tag)
 |_=>false
noncomputable def CQ(d:D)(tag:Str)(n:Nat):Bool:=match d with
 |.tup (x::r)=>decide ((x::r).length=n) && Ma tag x
 |_=>false
theorem CS(xs:List D)(tag:Str)(n:Nat):CQ (.tup xs) tag n=(decide (xs.length=n) && (match xs with|x::_=>Ma tag x | []=>false)):=by
 cases xs with
 |nil=>simp[CQ]
 |cons x r=>rfl
def La(d:D):Prop:=∀xs x,d=.tup xs->xs[0]?=some (.str x)->PyData.strOk x=true
structure Gr (R:aV):Prop where
 ok:R.Ok
 hi:R.n<=12
 few:R.asks.length<=20
 nms:(∀a∈R.asks,Dp a.nm)/\(R.asks.map (·.nm)).Nodup
 tt:∀a∈R.asks,RB 60 a.size
theorem Gr.all{R:aV}(h:Gr R):∀a∈R.asks,rP R.rooms.length a/\Dp a.nm/\RB 60 a.size:=λa ha=>⟨h.ok.ask a ha,h.nms.1 a ha,h.tt a ha⟩
def QQ(xs:List D):Prop:=∀x∈xs,x=.non∨∃w,x=.str (d8 w)
theorem QQ.ok{xs:List D}(h:QQ xs):PJ 1 (.lst xs)=true:=by
 simp only[PJ]
 have:=pF (f:=id) (n:=0) xs λx hx=>by
  rcases h x hx with rfl|⟨w,rfl⟩
  . rfl
  . cases w<;>decide +kernel
 rwa [List.map_id]at this
noncomputable def QR(F:List (Nat×Bool)):D:=.dk (F.map λp=>.inl (p.1:Int)) (F.map λp=>.str (d8 p.2))
noncomputable def jg(n:Nat)(F:List (Nat×Bool)):List (Option Bool):=(List.range n).map λk=>F.lookup k
theorem qv(n:Nat)(F:List (Nat×Bool)):(jg n F).length=n:=by simp[jg]
theorem xN{n k:Nat}(h:k<n)(F:List (Nat×Bool)):(jg n F).getD k none=F.lookup k:=by unfold jg;rw[SA,List.getElem?_map,List.getElem?_range h];rfl
theorem sX(k:Nat):∀F:List (Nat×Bool),vM ((F.map λp=>(Sum.inl (p.1:Int):Of)).zip (F.map λp=>D.str (d8 p.2))) (.inl (k:Int))=(F.lookup k).map λb=>.str (d8 b)
 |[]=>rfl
 | p::F=>by
  rw[List.map_cons,List.map_cons,List.zip_cons_cons,List.lookup_cons];unfold vM;by_cases e:p.1=k
  . rw[if_pos (by rw[e]),e,beq_self_eq_true];rfl
  .
   have e1:¬(Sum.inl (p.1:Int):Of)=Sum.inl (k:Int):=λz=>e (by injection z with z;omega);have e2:(k == p.1)=false:=by simpa using λz=>e z.symm
   rw[if_neg e1,e2];exact sX k F
noncomputable def CT(R:aV)(u:Nat->Int)(fx:List (Option Bool))(c:Nat×Nat):Int:=l7 R.asks.length λi=>u i*QM R fx c i
noncomputable def v3(R:aV)(fx:List (Option Bool))(c:Nat×Nat):Nat->Rat
 |0=>0
 |n+1=>v3 R fx c n+(ck R n).size*((QM R fx c n:Int):Rat)
theorem v5{R:aV}{u:Nat->Int}{K:Rat}{fx:List (Option Bool)}{c:Nat×Nat}(h:∀i,i<R.asks.length->((u i:Int):Rat)=(ck R i).size*K):((CT R u fx c:Int):Rat)=v3 R fx c R.asks.length*K:=by
 have key:∀n,n<=R.asks.length->((l7 n (λi=>u i*QM R fx c i):Int):Rat)=v3 R fx c n*K:=by
  intro n
  induction n with
  |zero=>intro _;show((0:Int):Rat)=0*K;grind
  | succ n ih =>
   intro hn;rw[l7,Rat.intCast_add,Rat.intCast_mul,ih xL,h n xL];show _=(v3 R fx c n+(ck R n).size*((QM R fx c n:Int):Rat))*K;grind
 exact key _ (SN _)
theorem sY{st:Bool}{a b:Int}{x y K:Rat}(hK:0<K)(ha:(a:Rat)=x*K)(hb:(b:Rat)=y*K):dD st a b=(decide (y<x) ||(st && decide (x=y))):=by
 unfold dD
 have e1:decide (b<a)=decide (y<x):=decide_eq_decide.mpr (by
  rw[<- Rat.intCast_lt_intCast,ha,hb]
  exact Rat.mul_lt_mul_right hK)
 have e2:decide (a=b)=decide (x=y):=decide_eq_decide.mpr (by
  rw[<- Rat.intCast_inj,ha,hb];constructor
  .
   intro z;have:K≠0:=by grind
   grind
  .
   intro z;rw[z])
 rw[e1,e2]
theorem FE{R:aV}{i:Nat}(hR:R.Ok)(hi:i<R.asks.length){c:Nat×Nat}(hc:lx R.n c):apart c (ck R i).one (ck R i).other=(QA R i c.1 != QA R i c.2):=by
 have ha:=mD hR hi;unfold QA;have h1:=hc.1;have h2:=hc.2;rw[uh ha xL,uh ha xL];unfold apart iX;generalize (ck R i).one=o;generalize (ck R i).other=p
 have w:∀z:Nat,decide (c.1<z/\z<=c.2)=(decide (z<=c.2) != decide (z<=c.1)):=by
  intro z;by_cases a:z<=c.1<;>by_cases b:z<=c.2
  .
   have:¬(c.1<z/\z<=c.2):=by omega
   simp[a,b]
  . omega
  .
   have:c.1<z:=by omega
   simp[a,b,this]
  . simp[a,b]
 rw[w,w];generalize decide (o<=c.1)=a1;generalize decide (o<=c.2)=a2;generalize decide (p<=c.1)=a3;generalize decide (p<=c.2)=a4;generalize decide (p<o)=a5;cases a1<;>cases a2<;>cases a3<;>cases a4<;>cases a5<;>rfl
theorem CU{R:aV}{i:Nat}(hR:R.Ok)(hi:i<R.asks.length){F:List (Nat×Bool)}{c:Nat×Nat}(hc:lx R.n c):QM R (jg R.asks.length F) c i=match F.lookup i with
  |some b=>(if(QA R i c.1 == b)=true then 1 else 0)+if(QA R i c.2 == b)=true then 1 else 0
  |none=>if(QA R i c.1 != QA R i c.2)=true then 1 else 0:=by
 unfold QM;rw[xN hi,FE hR hi hc];cases F.lookup i<;>rfl
theorem Ld(R:aV)(fx:List (Option Bool))(c:Nat×Nat)(i:Nat):0<=QM R fx c i/\QM R fx c i<=2:=by
 unfold QM;split
 . split<;>decide
 . split<;>split<;>decide
theorem FF{n M:Nat}{f:Nat->Int}(h:∀i,i<n->(f i).natAbs<=M):(l7 n f).natAbs<=n*M:=by
 induction n with
 |zero=>simp[l7]
 | succ n ih =>
  rw[l7,Nat.succ_mul];have h1:=ih λi hi=>h i xL;have h2:=h n xL;have:=Int.natAbs_add_le (l7 n f) (f n);omega
theorem FG{R:aV}{w:j8}{fx:List (Option Bool)}{c:Nat×Nat}{S:Int}{B:Nat}(hB:0<B)(hR:R.Ok)(hc:lx R.n c)(hS:(S:Rat)=v3 R fx c R.asks.length*(B:Rat)) :
  dD w.strict (S*((R.room c.1).den:Int)*((R.room c.2).den:Int)*(w.top.den:Int)) (w.top.num*((R.room c.1).num*((R.room c.2).den:Int)+(R.room c.2).num*((R.room c.1).den:Int))*(B:Int)) =
   dD w.strict (qr R w.top fx c) (QH R w.top c.1+QH R w.top c.2):=by
 have c1:=hc.1;have c2:=hc.2;have pB:(0:Rat)<(B:Rat):=Rat.natCast_pos.mpr hB;have p1:(0:Rat)<((R.room c.1).den:Rat):=Rat.natCast_pos.mpr (R.room c.1).den_pos;have p2:(0:Rat)<((R.room c.2).den:Rat):=Rat.natCast_pos.mpr (R.room c.2).den_pos;have pt:(0:Rat)<(w.top.den:Rat):=Rat.natCast_pos.mpr w.top.den_pos;have pU:(0:Rat)<(bH R w.top:Rat):=Rat.natCast_pos.mpr (by unfold bH;have:=zm R w.top;omega);have pK:(0:Rat)<(B:Rat)*((R.room c.1).den:Rat)*((R.room c.2).den:Rat)*(w.top.den:Rat):=Rat.mul_pos (Rat.mul_pos (Rat.mul_pos pB p1) p2) pt;have n1:=qj (R.room c.1);have n2:=qj (R.room c.2);have nt:=qj w.top;have cz:∀n:Nat,(((n:Nat):Int):Rat)=((n:Nat):Rat):=λ_=>rfl
 rw[sY (x:=v3 R fx c R.asks.length) (y:=w.top*(R.room c.1+R.room c.2)) pK (by
   rw[Rat.intCast_mul,Rat.intCast_mul,Rat.intCast_mul,hS,cz,cz,cz]
   grind) (by
   rw[Rat.intCast_mul,Rat.intCast_mul,Rat.intCast_add,Rat.intCast_mul,Rat.intCast_mul,n1,n2,nt,cz,cz,cz]
   grind)]
 refine(sY (x:=v3 R fx c R.asks.length) (y:=w.top*(R.room c.1+R.room c.2)) pU ?_ ?_).symm
 . exact v5 λi hi=>Gn hi
 . rw[Rat.intCast_add,Cz xL,Cz xL];grind
def QS(R:aV):Tr->Prop
 |.turned=>True
 |.cut c=>lx R.n c
 |.split k a b=>k<R.asks.length/\QS R a/\QS R b
structure QT (n:Nat) (F:List (Nat×Bool)):Prop where
 lt:∀p∈F,p.1<n
 nd:(F.map (·.1)).Nodup
theorem pJ{k:Nat}:∀{F:List (Nat×Bool)},(F.lookup k).isSome=true↔k∈F.map (·.1)
 |[]=>by simp
 | p::F=>by
  rw[List.lookup_cons,List.map_cons,SK];by_cases e:k=p.1
  . subst e;simp
  .
   have:(k == p.1)=false:=by simpa using e
   rw[this];simp only[e,false_or];exact pJ
theorem qw{k:Nat}{b:Bool}:∀{F:List (Nat×Bool)},(F.map (·.1)).Nodup->((k,b)∈F↔F.lookup k=some b)
 |[],_=>by simp
 | p::F,nd=>by
  rw[List.map_cons,List.nodup_cons]at nd;rw[List.lookup_cons,SK];by_cases e:k=p.1
  .
   subst e;rw[beq_self_eq_true];constructor
   .
    rintro (h|h)
    . rw[<- h]
    . exact absurd (List.mem_map.mpr ⟨_,h,rfl⟩) nd.1
   . intro h;have h:some p.2=some b:=h;cases h;exact .inl rfl
  .
   have e2:(k == p.1)=false:=by simpa using e
   rw[e2];constructor
   .
    rintro (h|h)
    . exact absurd (by rw[<- h]) e
    . exact(qw nd.2).mp h
   . intro h;exact .inr ((qw nd.2).mpr h)
theorem Gs{n k:Nat}{b:Bool}{F:List (Nat×Bool)}(hk:k<n)(h:F.lookup k=none):jg n (F++[(k,b)])=(jg n F).set k (some b):=by
 refine List.ext_getElem (by simp[jg]) λi h1 h2=>?_;have hi:i<n:=by simpa[jg]using h1
 rw[List.getElem_set];simp only[jg,List.getElem_map,List.getElem_range];rw[List.lookup_append];by_cases e:k=i
 . subst e;rw[if_pos rfl,h];simp
 .
  rw[if_neg e];have:(i == k)=false:=by simpa using λz=>e z.symm
  simp[List.lookup_cons,this]
theorem QT.put{n k:Nat}{b:Bool}{F:List (Nat×Bool)}(h:QT n F)(hk:k<n)(hn:F.lookup k=none):QT n (F++[(k,b)]):=by
 refine⟨λp hp=>?_,?_⟩
 .
  rcases List.mem_append.mp hp with hp|hp
  . exact h.lt p hp
  . rw[List.mem_singleton.mp hp];exact hk
 .
  rw[List.map_append,List.nodup_append];refine⟨h.nd,v6,λa ha c hc=>?_⟩;have hc:c=k:=by simpa using hc
  subst hc;intro e;subst e;have:=pJ.mpr ha;rw[hn]at this;cases this
theorem Gu{k:Nat}{b:Bool}{F:List (Nat×Bool)}(h:F.lookup k=none):HQ ((F.map λp=>(Sum.inl (p.1:Int):Of)).zip (F.map λp=>D.str (d8 p.2))) (.inl (k:Int)) (.str (d8 b))=((F++[(k,b)]).map λp=>(Sum.inl (p.1:Int):Of)).zip ((F++[(k,b)]).map λp=>D.str (d8 p.2)):=by
 have hz:(F.map λp=>(Sum.inl (p.1:Int):Of)).zip (F.map λp=>D.str (d8 p.2))=F.map λp=>((Sum.inl (p.1:Int):Of),D.str (d8 p.2)):=by rw[List.zip_map']
 have hz2:((F++[(k,b)]).map λp=>(Sum.inl (p.1:Int):Of)).zip ((F++[(k,b)]).map λp=>D.str (d8 p.2))=(F++[(k,b)]).map λp=>((Sum.inl (p.1:Int):Of),D.str (d8 p.2)):=by rw[List.zip_map']
 rw[hz,hz2];unfold HQ;rw[if_neg]
 . rw[List.map_append];rfl
 .
  rw[List.any_map];intro z;obtain⟨p,hp,e⟩:=List.any_eq_true.mp z;have e:(Sum.inl (p.1:Int):Of)=Sum.inl (k:Int):=of_decide_eq_true e;have e2:p.1=k:=by injection e with e;omega
  have:=pJ.mpr (List.mem_map.mpr ⟨p,hp,e2⟩);rw[h]at this;cases this
theorem zu{n k:Nat}{b:Bool}{F:List (Nat×Bool)}{ws:List Bool}(hk:k<n)(hn:F.lookup k=none)(h:Ar (jg n (F++[(k,b)])) ws):Ar (jg n F) ws:=by
 refine⟨by rw[h.1,qv,qv],λi c e=>?_⟩;by_cases hi:i<n
 . rw[xN hi]at e;refine h.2 i c ?_;rw[xN hi,List.lookup_append,e];rfl
 . rw[SA,List.getElem?_eq_none (by rw[qv];omega)]at e;cases e
noncomputable def QU(el:List (Option Bool))(p:Nat×Bool):Bool:=el.getD p.1 none == some (!p.2)
theorem zw{el:List (Option Bool)}{n:Nat}{F:List (Nat×Bool)}(he:el.length=n)(h:QT n F):(ef el (jg n F)).length=(F.filter (QU el)).length:=by
 have nd1:(ef el (jg n F)).Nodup:=by unfold ef;refine List.Nodup.sublist (List.Sublist.map _ List.filter_sublist) ?_;rw[List.zipIdx_map_snd];exact List.nodup_range'
 have nd2:((F.filter (QU el)).map (·.1)).Nodup:=List.Nodup.sublist (List.Sublist.map _ List.filter_sublist) h.nd
 have key:∀k,k∈ef el (jg n F)↔k∈(F.filter (QU el)).map (·.1):=by
  intro k;constructor
  .
   intro hk;unfold ef at hk;obtain⟨⟨⟨x,y⟩,i⟩,hm,rfl⟩:=List.mem_map.mp hk;obtain⟨h1,h2⟩:=List.mem_filter.mp hm;have h3:=List.mem_zipIdx_iff_getElem?.mp h1;obtain⟨e1,e2⟩:=List.getElem?_zip_eq_some.mp h3;have hi:i<n:=by have:=(SB.mp e1).1;dsimp only at this ⊢;omega
   have ey:F.lookup i=y:=by have:=xN hi F;rw[SA,e2]at this;exact this.symm
   cases x with
   |none=>cases h2
   | some a =>
    have h2:(y == some (!a))=true:=h2;have h2:=eq_of_beq h2;rw[h2]at ey;refine List.mem_map.mpr ⟨(i,!a),List.mem_filter.mpr ⟨(qw h.nd).mpr ey,?_⟩,rfl⟩;unfold QU;dsimp only;rw[SA,e1,Bool.not_not];exact beq_self_eq_true _
  .
   intro hk;obtain⟨⟨i,b⟩,hm,rfl⟩:=List.mem_map.mp hk;obtain⟨h1,h2⟩:=List.mem_filter.mp hm;have hi:i<n:=h.lt _ h1;have e2:=(qw h.nd).mp h1;unfold QU at h2;dsimp only at h2;have h2:=eq_of_beq h2;have hel:el[i]?=some (some (!b)):=by rw[SA,so xL]at h2;rw[so xL];exact congrArg some h2
   have hfx:(jg n F)[i]?=some (some b):=by have:=xN hi F;rw[SA,so (by rw[qv];exact hi)]at this;rw[so (by rw[qv];exact hi)];rw[e2]at this;exact congrArg some this
   unfold ef;refine List.mem_map.mpr ⟨((some (!b),some b),i),List.mem_filter.mpr ⟨List.mem_zipIdx_iff_getElem?.mpr (List.getElem?_zip_eq_some.mpr ⟨hel,hfx⟩),?_⟩,rfl⟩;show((some b:Option Bool) == some (!(!b)))=true;rw[Bool.not_not];exact beq_self_eq_true _
 have:=((List.perm_ext_iff_of_nodup nd1 nd2).mpr key).length_eq;rwa [SH]at this
theorem Lf{R:aV}{q:Rat}{fx:List (Option Bool)}{ws:List Bool}(hf:∀i,i<R.asks.length->fx.getD i none=some (ws.getD i false))(hw:ws.length=R.asks.length)(t:Nat):qr R q fx (t,t)=2*QK R q ws t:=by
 unfold qr QK;rw[hw]
 have key:∀n,n<=R.asks.length->l7 n (λi=>wI R q i*QM R fx (t,t) i)=2*l7 n λi=>if QA R i t == ws.getD i false then wI R q i else 0:=by
  intro n
  induction n with
  |zero=>intro _;rfl
  | succ n ih =>
   intro hn;rw[l7,l7,ih xL];unfold QM;rw[hf n xL];dsimp only;split<;>omega
 exact key _ (SN _)
theorem xO{R:aV}(hR:R.Ok){w:j8}{fx:List (Option Bool)}(hl:fx.length=R.asks.length)(hf:∀i,i<R.asks.length->(fx.getD i none).isSome=true)
  (hc:∀t,t<R.n->dD w.strict (qr R w.top fx (t,t)) (QH R w.top t+QH R w.top t)=false) (hn:∀ws,Ar fx ws->¬oH R w ws):w.most<(ef w.elder fx).length:=by
 let ws:List Bool:=fx.map λo=>o.getD false
 have hw:ws.length=R.asks.length:=by simp[ws,hl]
 have hg:∀i,i<R.asks.length->fx.getD i none=some (ws.getD i false):=λi hi=>by
  have h1:=hf i hi;have hi':i<fx.length:=by omega
  rw[SA,so hi']at h1 ⊢;simp only[ws,SA,List.getElem?_map,so hi']
  cases e:fx[i]with
  |none=>rw[e]at h1;cases h1
  |some b=>rfl
 have cp:Ar fx ws:=⟨by rw[hw,hl],λi b e=>by
  by_cases hi:i<R.asks.length
  . rw[hg i hi]at e;exact Option.some.inj e
  .
   rw[SA,List.getElem?_eq_none xL]at e
   cases e⟩
 have em:ws.map some=fx:=by refine List.ext_getElem (by simp[ws]) λi h1 h2=>?_;have:=hg i xL;rw[SA,so h2,SA,so xL]at this;simpa using this.symm
 rcases Nat.lt_or_ge w.most (ef w.elder fx).length with g|g
 . exact g
 .
  exfalso;refine hn ws cp ⟨λt ht=>?_,by rw[em];exact g⟩;rw[<- nU hR hw ht];have:=hc t ht;rw[Lf hg hw]at this;unfold dD at this ⊢;rw[Bool.or_eq_false_iff]at this ⊢;refine⟨?_,?_⟩
  . have h1:=of_decide_eq_false this.1;exact decide_eq_false xL
  .
   cases es:w.strict with
   |false=>rfl
   | true =>
    rw[es]at this;have h1:=of_decide_eq_false (by simpa using this.2:decide (2*QK R w.top ws t=QH R w.top t+QH R w.top t)=false);exact decide_eq_false xL
end My
set_option exponentiation.threshold 1000
namespace Hd
open PySem PySem.W PyProof.Rows
noncomputable abbrev pr:Program:=PySem.Challenge.pw_ringloads_k47_whole_trees_bar_all
noncomputable def top(i:Nat):Stmt:=pr.main.body.getD i (.Pass ⟨0,0,0,0⟩)
noncomputable def inCls(st:Stmt)(j:Nat):Stmt:=match st with
 |.ClassDef _ _ _ b ..=>b.getD j (.Pass ⟨0,0,0,0⟩)
 |_=>.Pass ⟨0,0,0,0⟩
noncomputable def CV(s:Stmt):Str:=match s with
 |.FunctionDef n ..=>n
 |_=>""
noncomputable def Lg(s:Stmt):Arguments:=match s with
 |.FunctionDef _ a _ _ _ _ _ _ _ _=>a
 |_=>{posonlyargs:=[],args:=[],vararg:=none,kwonlyargs:=[],kw_defaults:=[],kwarg:=none,defaults:=[] }
noncomputable def MW(s:Stmt):List Stmt:=match s with
 |.FunctionDef _ _ b _ _ _ _ _ _ _=>b
 |_=>[]
noncomputable def Lh(s:Stmt):Scope:=match s with
 |.FunctionDef _ _ _ _ _ _ sc _ _ _=>sc
 |_=>{kind:=.function,names:=[],isGenerator:=false,isCoroutine:=false}
noncomputable def Np(s:Stmt):Pos:=match s with
 |.FunctionDef _ _ _ _ _ _ _ _ _ p=>p
 |_=>⟨0,0,0,0⟩
noncomputable def Jq (st:Stmt) (q:Str) (g:Addr) (md cd:Value):FuncData:={ name:=CV st,qualname:=q,params:=Lg st,body:=.stmts (MW st),scope:=Lh st,globals:=g,closure:=[],defaults:=.none,kwdefaults:=.none,doc:=.none,pyModule:=md,annotations:=none,code:=cd,closureTuple:=.none,builtins:=0 }
noncomputable def kh(P:Params)(x:Str):Int:=PySem.PyData.keyHash P x
noncomputable def Li(vs:List Value):Obj:=⟨.type "tuple",none,.seq vs.toArray 0,#[]⟩
noncomputable def CW(vs:List Value):Obj:=⟨.none,none,.fields vs.toArray,#[]⟩
noncomputable def Nq:Nat->List Str->List Value
 |_,[]=>[]
 |t,x::r=>.str x t::Nq (t+1) r
noncomputable def Lj(st:Stmt)(a t:Nat)(v1 v2:Value)(tm u:Nat):Obj:=⟨.type "code",none,.fields #[.str (CV st) t,.str (CV st) (t+1),.str "/claim/cut.py" (t+2),.int (Np st).line 0,.int (Lg st).args.length 0,.int 0 0,.int 0 0,.int 3 0,.ref a,.bool true,.int 181 0,.ref (a+1),.none,v1,v2,.ref tm,.int u 0,.int (Np st).line 0,.str "/claim/cut.py" (u+1)],#[]⟩
noncomputable def QV(st:Stmt)(md:Value)(cd:Nat):Obj:=⟨.type "function",none,.func (Jq st (CV st) 3 md (.ref cd)),#[]⟩
noncomputable def QW(st:Stmt):Obj:=⟨.none,none,.func (Jq st (CV st) 0 .none .none),#[]⟩
noncomputable def cS(st:Stmt)(a t:Nat)(vs:List Str)(md:Value):List Obj:=[Li [],CW [],Li (Nq (t+3) vs),Li [],QW st,Lj st a t (.ref (a+2)) (.ref (a+3)) (a+4) (t+3+vs.length),QV st md (a+5)]
noncomputable def ki(st:Stmt)(a t:Nat)(md:Value):List Obj:=[Li [],CW [],QW st,Lj st a t .none .none (a+2) (t+3),QV st md (a+3)]
noncomputable def xP (P:Params) (nm:Value) (es:List DictEntry) (n:Nat):Obj:=⟨.type "dict",none,.dict (([⟨kh P "__name__",.str "__name__" 165,nm⟩,⟨kh P "__doc__",.str "__doc__" 166,.none⟩,⟨kh P "__package__",.str "__package__" 167,.none⟩,⟨kh P "__loader__",.str "__loader__" 168,.builtin "__main__.__loader__#opaque"⟩,⟨kh P "__spec__",.str "__spec__" 169,.none⟩,⟨kh P "__annotations__",.str "__annotations__" 170,.ref 6⟩,⟨kh P "__builtins__",.str "__builtins__" 171,.ref 4⟩,⟨kh P "__file__",.str "__file__" 173,.str "/claim/cut.py" 172⟩,⟨kh P "__cached__",.str "__cached__" 174,.none⟩]:List DictEntry)++es).toArray n,#[]⟩
noncomputable def N5:Obj:=⟨.type "code",none,.fields #[.str "<module>" 182,.str "<module>" 183,.str "/claim/cut.py" 184,.int 1 0,.int 0 0,.int 0 0,.int 0 0,.int 0 0,.ref 11,.bool false,.int 181 0,.ref 12,.none,.none,.none,.none,.int 185 0,.int 1 0,.str "/claim/cut.py" 186],#[]⟩
noncomputable def N6:Obj:=⟨.type "frame",none,.plain,#[some (.ref 13),some (.ref 3),some (.ref 3),none,some (.str "__main__" 164),none,some (.ref 0)]⟩
noncomputable def IS(P:Params):List Obj:=[boot_o_0 P,boot_o_1 P,boot_o_2 P,boot_o_3 P,boot_o_4 P,boot_o_5 P,boot_o_6 P,boot_o_7 P,boot_o_8 P,boot_o_9 P,boot_o_10 P,Li [],CW [],N5,N6]
noncomputable def qx:Life:=⟨[],[],[],0,[],[],false,#[],[],0,false,false,false,0,[2000,10,10],false,0,true,[],[],0,false⟩
noncomputable def MX(l:List (Nat×Obj))(b:Nat):Option Obj:=@List.rec (Nat×Obj) (λ_=>Option Obj) none (λx _ ih=>bif Nat.beq x.1 b then some x.2 else ih) l
noncomputable def Lk(P:Params)(ob:Params->Nat->Obj)(b:Nat):Obj:=bif b.blt 15 then(IS P).getD b default else ob P b
noncomputable def N7(l:List Nat)(b:Nat):Bool:=@List.rec Nat (λ_=>Bool) false (λx _ ih=>@Bool.rec (λ_=>Bool) ih true (Nat.beq x b)) l
noncomputable def Gv(ks:List Nat)(P:Params)(ov:List (Nat×Obj))(ob:Params->Nat->Obj)(b j:Nat):Obj:=@Bool.rec (λ_=>Obj) (Lk P ob b) ((MX ov b).getD default) (N7 ks b)
noncomputable def L0(n:Nat)(f:Nat->Obj)(a b j:Nat):BT:=.nil
noncomputable def L1(n:Nat)(f:Nat->Obj)(a b j:Nat):BT:=@Bool.rec (λ_=>BT) .nil (.node (f b) (L0 n f (2*a) (a+b) j) (L0 n f (2*a) (2*a+b) j)) (b.blt n)
noncomputable def L2(n:Nat)(f:Nat->Obj)(a b j:Nat):BT:=@Bool.rec (λ_=>BT) .nil (.node (f b) (L1 n f (2*a) (a+b) j) (L1 n f (2*a) (2*a+b) j)) (b.blt n)
noncomputable def L3(n:Nat)(f:Nat->Obj)(a b j:Nat):BT:=@Bool.rec (λ_=>BT) .nil (.node (f b) (L2 n f (2*a) (a+b) j) (L2 n f (2*a) (2*a+b) j)) (b.blt n)
noncomputable def L4(n:Nat)(f:Nat->Obj)(a b j:Nat):BT:=@Bool.rec (λ_=>BT) .nil (.node (f b) (L3 n f (2*a) (a+b) j) (L3 n f (2*a) (2*a+b) j)) (b.blt n)
noncomputable def L5(n:Nat)(f:Nat->Obj)(a b j:Nat):BT:=@Bool.rec (λ_=>BT) .nil (.node (f b) (L4 n f (2*a) (a+b) j) (L4 n f (2*a) (2*a+b) j)) (b.blt n)
noncomputable def L6(n:Nat)(f:Nat->Obj)(a b j:Nat):BT:=@Bool.rec (λ_=>BT) .nil (.node (f b) (L5 n f (2*a) (a+b) j) (L5 n f (2*a) (2*a+b) j)) (b.blt n)
noncomputable def L7(n:Nat)(f:Nat->Obj)(a b j:Nat):BT:=@Bool.rec (λ_=>BT) .nil (.node (f b) (L6 n f (2*a) (a+b) j) (L6 n f (2*a) (2*a+b) j)) (b.blt n)
noncomputable def L8(n:Nat)(f:Nat->Obj)(a b j:Nat):BT:=@Bool.rec (λ_=>BT) .nil (.node (f b) (L7 n f (2*a) (a+b) j) (L7 n f (2*a) (2*a+b) j)) (b.blt n)
noncomputable def L9(n:Nat)(f:Nat->Obj)(a b j:Nat):BT:=@Bool.rec (λ_=>BT) .nil (.node (f b) (L8 n f (2*a) (a+b) j) (L8 n f (2*a) (2*a+b) j)) (b.blt n)
noncomputable def QX(n:Nat)(f:Nat->Obj)(a b j:Nat):BT:=@Bool.rec (λ_=>BT) .nil (.node (f b) (L9 n f (2*a) (a+b) j) (L9 n f (2*a) (2*a+b) j)) (b.blt n)
noncomputable def QY(n:Nat)(f:Nat->Obj)(a b j:Nat):BT:=@Bool.rec (λ_=>BT) .nil (.node (f b) (QX n f (2*a) (a+b) j) (QX n f (2*a) (2*a+b) j)) (b.blt n)
noncomputable def QZ(n:Nat)(f:Nat->Obj)(a b j:Nat):BT:=@Bool.rec (λ_=>BT) .nil (.node (f b) (QY n f (2*a) (a+b) j) (QY n f (2*a) (2*a+b) j)) (b.blt n)
theorem qy{p:Program}{w:World}{m:Nat}{ann:Option Value}{b n:Nat}{s:SharedT}{t:Thread}{r:Option (Flow×SharedT×Code×Pos)}(h:Fast.tw10110043849684766642 Fast.tw14364793385576792824 p w m ann b n s t=r):segRunT treeTable p w m ann b n s t=r:=by rw[Fast.te10110043849684766642,Fast.te14364793385576792824];exact h
theorem Ll{p:Program}{w:World}{m:Nat}{ann:Option Value}{n:Nat}{s:Shared}{t:Thread}{r:Option Shared}(h:Fast.tw14082659384304107361 Fast.tw14364793385576792824 p w m ann n s t=r):topRun treeTable p w m ann n s t=r:=by rw[Fast.te14082659384304107361,Fast.te14364793385576792824];exact h
theorem Ln:denote treeTable=Fast.tw11892475500146522536 Fast.tw14364793385576792824:=by rw[<- Fast.te11892475500146522536,<- Fast.te14364793385576792824]
theorem MY{p:Program}{w:World}{m:Nat}{ann:Option Value}{n:Nat}{s:Shared}{t:Thread}{r:Option (Shared×Thread)}(h:Fast.tw15667345088766844465 Fast.tw14364793385576792824 p w m ann n s t=r):topGo treeTable p w m ann n s t=r:=by rw[Fast.te15667345088766844465,Fast.te14364793385576792824];exact h
theorem IT{b b':List Stmt}(e:b=b'){tb:String->Option Builtin}{p:Program}{w:World}{m:Nat}{ann:Option Value}{n:Nat}{s:Shared}{env:Env}{c:Code}{ps:Pos}{B:List Frame}{r:Option Shared}(h:topRun tb p w m ann n s (restOf b' env c ps B)=r):topRun tb p w m ann n s (restOf b env c ps B)=r:=by rw[e];exact h
noncomputable def f1(P:Params):List Obj:=cS (top 1) 15 189 ["one","other","rest"] (.str "ringloads.divisors" 187)
noncomputable def f2(P:Params):List Obj:=cS (top 2) 22 198 ["one","other"] (.str "ringloads.divisors" 187)
noncomputable def f4(P:Params):List Obj:=cS (top 4) 29 208 ["thing"] (.str "ringloads.names" 206)
noncomputable def f5(P:Params):List Obj:=cS (top 5) 36 215 ["thing","many"] (.str "ringloads.names" 206)
noncomputable def f6(P:Params):List Obj:=cS (top 6) 43 223 ["thing"] (.str "ringloads.names" 206)
noncomputable def f7(P:Params):List Obj:=cS (top 7) 50 230 ["thing","word","length"] (.str "ringloads.names" 206)
noncomputable def f9(P:Params):List Obj:=[(Obj.mk (.type "tuple") none (.seq #[(.type "ValueError")] 0) #[]),
 (Obj.mk (.type "builtin_function_or_method") none (.fields #[(.builtin "type.__prepare__"),(.type "type")]) #[]),
 (Obj.mk (.type "dict") none (.dict #[(DictEntry.mk (kh P "__module__") (.str "__module__" 248) (.str "ringloads.errors" 239)),(DictEntry.mk (kh P "__qualname__") (.str "__qualname__" 250) (.str "LoadError" 249)),(DictEntry.mk (kh P "__firstlineno__") (.str "__firstlineno__" 252) (.int 22 251)),(DictEntry.mk (kh P "__init__") (.str "__init__" 260) (.ref 70)),(DictEntry.mk (kh P "__static_attributes__") (.str "__static_attributes__" 261) (.ref 71))] 5) #[]),
 (Obj.mk (.type "tuple") none (.seq #[] 0) #[]),
 (Obj.mk .none none (.fields #[(.int 24 0),(.int 4 0),(.ref 69)]) #[]),
 (Obj.mk (.type "code") none (.fields #[(.str "LoadError" 243),(.str "LoadError" 244),(.str "/claim/cut.py" 245),(.int 22 0),(.int 0 0),(.int 0 0),(.int 0 0),(.int 0 0),(.ref 60),(.bool false),(.int 181 0),(.ref 61),.none,.none,.none,.none,(.int 246 0),(.int 22 0),(.str "/claim/cut.py" 247)]) #[]),
 (Obj.mk (.type "frame") none .plain #[(some (.ref 62)),(some (.ref 3)),(some (.ref 59)),none,(some (.str "ringloads.errors" 239)),none,(some (.ref 0))]),
 (Obj.mk (.type "tuple") none (.seq #[] 0) #[]),
 (Obj.mk .none none (.fields #[]) #[]),
 (Obj.mk (.type "tuple") none (.seq #[(.str "self" 256),(.str "text" 257)] 0) #[]),
 (Obj.mk (.type "tuple") none (.seq #[] 0) #[]),
 (Obj.mk .none none (.func (Jq (inCls (top 9) 0) "LoadError.__init__" 0 .none .none)) #[]),
 (Obj.mk (.type "code") none (.fields #[(.str "__init__" 253),(.str "LoadError.__init__" 254),(.str "/claim/cut.py" 255),(.int 24 0),(.int 2 0),(.int 0 0),(.int 0 0),(.int 3 0),(.ref 64),(.bool true),(.int 181 0),(.ref 65),.none,(.ref 66),(.ref 67),(.ref 68),(.int 258 0),(.int 24 0),(.str "/claim/cut.py" 259)]) #[]),
 (Obj.mk (.type "function") none (.func (Jq (inCls (top 9) 0) "LoadError.__init__" 3 (.str "ringloads.errors" 239) (.ref 69))) #[]),
 (Obj.mk (.type "tuple") none (.seq #[] 0) #[]),
 (Obj.mk (.type "dict") none (.dict #[(DictEntry.mk (kh P "__module__") (.str "__module__" 248) (.str "ringloads.errors" 239)),(DictEntry.mk (kh P "__firstlineno__") (.str "__firstlineno__" 252) (.int 22 251)),(DictEntry.mk (kh P "__init__") (.str "__init__" 260) (.ref 70)),(DictEntry.mk (kh P "__static_attributes__") (.str "__static_attributes__" 261) (.ref 71)),(DictEntry.mk (kh P "__weakref__") (.str "__weakref__" 263) (.ref 74)),(DictEntry.mk (kh P "__doc__") (.str "__doc__" 264) .none)] 3) #[]),
 (Obj.mk (.type "type") none (.cls (PySem.ClassData.mk "LoadError" [(.type "ValueError")] [(.ref 73),(.type "ValueError"),(.type "Exception"),(.type "BaseException"),(.type "object")] 72 "LoadError" true [] [(.ref 93)] false none false)) #[(some (.ref 57)),none,(some (.str "LoadError" 241)),(some (.str "LoadError" 249)),(some (.builtin "ValueError.__new__")),(some (.bool true))]),
 (Obj.mk (.type "getset_descriptor") none (.fields #[(.str "__weakref__" 262),(.ref 73),(.builtin "ExceptionGroup.__weakref__"),.none]) #[]),
 (Obj.mk (.type "super") none (.fields #[(.ref 73),(.ref 73),(.ref 73)]) #[]),
 (Obj.mk (.type "builtin_function_or_method") none (.fields #[(.builtin "object.__init_subclass__"),(.ref 73)]) #[])]
noncomputable def Q0(P:Params):List Obj:=[(Obj.mk (.type "tuple") none (.seq #[(.ref 73)] 0) #[]),
 (Obj.mk (.type "builtin_function_or_method") none (.fields #[(.builtin "type.__prepare__"),(.type "type")]) #[]),
 (Obj.mk (.type "dict") none (.dict #[(DictEntry.mk (kh P "__module__") (.str "__module__" 274) (.str "ringloads.errors" 239)),(DictEntry.mk (kh P "__qualname__") (.str "__qualname__" 276) (.str "NoTree" 275)),(DictEntry.mk (kh P "__firstlineno__") (.str "__firstlineno__" 278) (.int 26 277)),(DictEntry.mk (kh P "__init__") (.str "__init__" 286) (.ref 90)),(DictEntry.mk (kh P "__static_attributes__") (.str "__static_attributes__" 288) (.ref 91))] 5) #[]),
 (Obj.mk (.type "tuple") none (.seq #[] 0) #[]),
 (Obj.mk .none none (.fields #[(.int 28 0),(.int 4 0),(.ref 89)]) #[]),
 (Obj.mk (.type "code") none (.fields #[(.str "NoTree" 269),(.str "NoTree" 270),(.str "/claim/cut.py" 271),(.int 26 0),(.int 0 0),(.int 0 0),(.int 0 0),(.int 0 0),(.ref 80),(.bool false),(.int 181 0),(.ref 81),.none,.none,.none,.none,(.int 272 0),(.int 26 0),(.str "/claim/cut.py" 273)]) #[]),
 (Obj.mk (.type "frame") none .plain #[(some (.ref 82)),(some (.ref 3)),(some (.ref 79)),none,(some (.str "ringloads.errors" 239)),none,(some (.ref 0))]),
 (Obj.mk (.type "tuple") none (.seq #[] 0) #[]),
 (Obj.mk .none none (.fields #[]) #[]),
 (Obj.mk (.type "tuple") none (.seq #[(.str "self" 282),(.str "way" 283)] 0) #[]),
 (Obj.mk (.type "tuple") none (.seq #[] 0) #[]),
 (Obj.mk .none none (.func (Jq (inCls (top 10) 0) "NoTree.__init__" 0 .none .none)) #[]),
 (Obj.mk (.type "code") none (.fields #[(.str "__init__" 279),(.str "NoTree.__init__" 280),(.str "/claim/cut.py" 281),(.int 28 0),(.int 2 0),(.int 0 0),(.int 0 0),(.int 3 0),(.ref 84),(.bool true),(.int 181 0),(.ref 85),.none,(.ref 86),(.ref 87),(.ref 88),(.int 284 0),(.int 28 0),(.str "/claim/cut.py" 285)]) #[]),
 (Obj.mk (.type "function") none (.func (Jq (inCls (top 10) 0) "NoTree.__init__" 3 (.str "ringloads.errors" 239) (.ref 89))) #[]),
 (Obj.mk (.type "tuple") none (.seq #[(.str "way" 287)] 0) #[]),
 (Obj.mk (.type "dict") none (.dict #[(DictEntry.mk (kh P "__module__") (.str "__module__" 274) (.str "ringloads.errors" 239)),(DictEntry.mk (kh P "__firstlineno__") (.str "__firstlineno__" 278) (.int 26 277)),(DictEntry.mk (kh P "__init__") (.str "__init__" 286) (.ref 90)),(DictEntry.mk (kh P "__static_attributes__") (.str "__static_attributes__" 288) (.ref 91)),(DictEntry.mk (kh P "__doc__") (.str "__doc__" 289) .none)] 2) #[]),
 (Obj.mk (.type "type") none (.cls (PySem.ClassData.mk "NoTree" [(.ref 73)] [(.ref 93),(.ref 73),(.type "ValueError"),(.type "Exception"),(.type "BaseException"),(.type "object")] 92 "NoTree" true [] [] false none false)) #[(some (.ref 77)),none,(some (.str "NoTree" 267)),(some (.str "NoTree" 275)),(some (.builtin "ValueError.__new__")),(some (.bool true))]),
 (Obj.mk (.type "super") none (.fields #[(.ref 93),(.ref 93),(.ref 93)]) #[]),
 (Obj.mk (.type "builtin_function_or_method") none (.fields #[(.builtin "object.__init_subclass__"),(.ref 93)]) #[])]
noncomputable def Q1(P:Params):List Obj:=cS (top 12) 96 294 ["top","bottom","shared"] (.str "ringloads.ratios" 292)
noncomputable def Q3(P:Params):List Obj:=cS (top 13) 103 303 ["one","other"] (.str "ringloads.ratios" 292)
noncomputable def Q4(P:Params):List Obj:=cS (top 15) 110 313 ["ring","thing"] (.str "ringloads.cuts" 311)
noncomputable def Q5(P:Params):List Obj:=cS (top 16) 117 321 ["cut","place"] (.str "ringloads.cuts" 311)
noncomputable def Q6(P:Params):List Obj:=cS (top 17) 124 329 ["cut","one","other"] (.str "ringloads.cuts" 311)
noncomputable def Q7(P:Params):List Obj:=ki (top 19) 131 340 (.str "ringloads.units" 338)
noncomputable def Q8(P:Params):List Obj:=cS (top 20) 136 346 ["some","bottom","one"] (.str "ringloads.units" 338)
noncomputable def Q9(P:Params):List Obj:=ki (top 21) 143 355 (.str "ringloads.units" 338)
noncomputable def Ra(P:Params):List Obj:=cS (top 25) 148 367 ["way"] (.str "ringloads.ways" 361)
noncomputable def Rb(P:Params):List Obj:=cS (top 26) 155 374 ["ring","k","way","tie","places","one","other","lies_on"] (.str "ringloads.ways" 361)
noncomputable def Rc(P:Params):List Obj:=ki (top 28) 162 390 (.str "ringloads.wishes" 388)
noncomputable def Re(P:Params):List Obj:=cS (top 29) 167 396 ["wish","load","bound"] (.str "ringloads.wishes" 388)
noncomputable def Rf(P:Params):List Obj:=cS (top 30) 174 405 ["wish","ways"] (.str "ringloads.wishes" 388)
noncomputable def Rg(P:Params):List Obj:=cS (top 36) 181 423 ["thing"] (.str "ringloads.trees" 413)
noncomputable def Rh(P:Params):List Obj:=ki (top 37) 188 430 (.str "ringloads.trees" 413)
noncomputable def Ri(P:Params):List Obj:=cS (top 38) 193 436 ["here","way","tree","fixed"] (.str "ringloads.trees" 413)
noncomputable def Rj(P:Params):List Obj:=cS (top 39) 200 446 ["ring","wish","scale","fixed","thing"] (.str "ringloads.trees" 413)
noncomputable def Rk(P:Params):List Obj:=ki (top 40) 207 457 (.str "ringloads.trees" 413)
noncomputable def Rl(P:Params):List Obj:=ki (top 41) 212 463 (.str "ringloads.trees" 413)
noncomputable def Rm(P:Params):List Obj:=cS (top 43) 217 471 ["_law_script","_law_k","_law_cell"] (.str "law_ringloads_k47_whole_trees_bar_all" 469)
noncomputable def Rn(P:Params):List Obj:=cS (top 44) 224 480 ["_law_state","_law_many","_law_digit","_law_drawn","_law_turn"] (.str "law_ringloads_k47_whole_trees_bar_all" 469)
noncomputable def Ro(P:Params):List Obj:=cS (top 45) 231 491 ["_law_top_here","_law_bottom","_law_one","_law_share"] (.str "law_ringloads_k47_whole_trees_bar_all" 469)
noncomputable def Rp(P:Params):List Obj:=cS (top 46) 238 501 ["_law_state","_law_least","_law_kind","_law_bottom","_law_top_here"] (.str "law_ringloads_k47_whole_trees_bar_all" 469)
noncomputable def Rq(P:Params):List Obj:=ki (top 47) 245 512 (.str "law_ringloads_k47_whole_trees_bar_all" 469)
noncomputable def Rr(P:Params):List Obj:=cS (top 48) 250 518 ["_law_state","_law_ties","_law_kind","_law_alike","_law_one","_law_rooms_here","_law_more"] (.str "law_ringloads_k47_whole_trees_bar_all" 469)
noncomputable def Rt(P:Params):List Obj:=cS (top 49) 257 531 ["_law_state","_law_shape","_law_places","_law_k","_law_one","_law_other"] (.str "law_ringloads_k47_whole_trees_bar_all" 469)
noncomputable def Ru(P:Params):List Obj:=cS (top 50) 264 543 ["_law_script","_law_at","_law_most","_law_count","_law_state","_law_places","_law_many","_law_kinds","_law_shape","_law_names_here","_law_rooms_here","_law_asks","_law_k","_law_one","_law_other"] (.str "law_ringloads_k47_whole_trees_bar_all" 469)
noncomputable def Rv(P:Params):List Obj:=ki (top 51) 271 564 (.str "law_ringloads_k47_whole_trees_bar_all" 469)
noncomputable def Rw(P:Params):List Obj:=cS (top 52) 276 570 ["_law_ring_here","_law_found","_law_name","_law_one","_law_other","_law_size","_law_ties","_law_place"] (.str "law_ringloads_k47_whole_trees_bar_all" 469)
noncomputable def Rx(P:Params):List Obj:=ki (top 53) 283 584 (.str "law_ringloads_k47_whole_trees_bar_all" 469)
noncomputable def Ry(P:Params):List Obj:=cS (top 54) 288 590 ["_law_ring_here","_law_loads_here","_law_bottom","_law_top_here","_law_strict","_law_tie","_law_room","_law_load","_law_most"] (.str "law_ringloads_k47_whole_trees_bar_all" 469)
noncomputable def Rz(P:Params):List Obj:=cS (top 55) 295 605 ["_law_ring_here","_law_loads_here","_law_bottom","_law_best","_law_tie","_law_room","_law_strain"] (.str "law_ringloads_k47_whole_trees_bar_all" 469)
noncomputable def RA(P:Params):List Obj:=ki (top 56) 302 618 (.str "law_ringloads_k47_whole_trees_bar_all" 469)
noncomputable def RC(P:Params):List Obj:=ki (top 57) 307 624 (.str "law_ringloads_k47_whole_trees_bar_all" 469)
noncomputable def RD(P:Params):List Obj:=ki (top 58) 312 630 (.str "law_ringloads_k47_whole_trees_bar_all" 469)
noncomputable def RE(P:Params):List Obj:=ki (top 59) 317 636 (.str "law_ringloads_k47_whole_trees_bar_all" 469)
noncomputable def RF(P:Params):List Obj:=cS (top 60) 322 642 ["_law_ring_here","_law_on_here","_law_wholes_here","_law_wish_here","_law_fixed","_law_cuts","_law_g","_law_h"] (.str "law_ringloads_k47_whole_trees_bar_all" 469)
noncomputable def RG(P:Params):List Obj:=ki (top 61) 329 656 (.str "law_ringloads_k47_whole_trees_bar_all" 469)
noncomputable def RH(P:Params):List Obj:=ki (top 62) 334 662 (.str "law_ringloads_k47_whole_trees_bar_all" 469)
noncomputable def RI(P:Params):List Obj:=cS (top 63) 339 668 ["_law_ring_here","_law_wish_here","_law_tree"] (.str "law_ringloads_k47_whole_trees_bar_all" 469)
noncomputable def RJ(P:Params):List Obj:=cS (top 64) 346 677 ["_law_ring_here","_law_on_here","_law_wholes_here","_law_wish_here","_law_ways","_law_loads_here"] (.str "law_ringloads_k47_whole_trees_bar_all" 469)
noncomputable def RK(P:Params):List Obj:=ki (top 65) 353 689 (.str "law_ringloads_k47_whole_trees_bar_all" 469)
noncomputable def N8(P:Params)(b:Nat):Obj:=(bif b.blt 57 then(bif b.blt 36 then(bif b.blt 22 then(f1 P).getD (b-15) default else(bif b.blt 29 then(f2 P).getD (b-22) default else(f4 P).getD (b-29) default))else(bif b.blt 43 then(f5 P).getD (b-36) default else(bif b.blt 50 then(f6 P).getD (b-43) default else(f7 P).getD (b-50) default)))else(bif b.blt 103 then(bif b.blt 77 then(f9 P).getD (b-57) default else(bif b.blt 96 then(Q0 P).getD (b-77) default else(Q1 P).getD (b-96) default))else(bif b.blt 110 then(Q3 P).getD (b-103) default else(bif b.blt 117 then(Q4 P).getD (b-110) default else(Q5 P).getD (b-117) default))))
noncomputable def N9(P:Params)(b:Nat):Obj:=(bif b.blt 162 then(bif b.blt 143 then(bif b.blt 131 then(Q6 P).getD (b-124) default else(bif b.blt 136 then(Q7 P).getD (b-131) default else(Q8 P).getD (b-136) default))else(bif b.blt 148 then(Q9 P).getD (b-143) default else(bif b.blt 155 then(Ra P).getD (b-148) default else(Rb P).getD (b-155) default)))else(bif b.blt 181 then(bif b.blt 167 then(Rc P).getD (b-162) default else(bif b.blt 174 then(Re P).getD (b-167) default else(Rf P).getD (b-174) default))else(bif b.blt 193 then(bif b.blt 188 then(Rg P).getD (b-181) default else(Rh P).getD (b-188) default)else(bif b.blt 200 then(Ri P).getD (b-193) default else(Rj P).getD (b-200) default))))
noncomputable def RL(P:Params)(b:Nat):Obj:=bif b.blt 124 then N8 P b else N9 P b
noncomputable def Oa(P:Params)(b:Nat):Obj:=(bif b.blt 245 then(bif b.blt 224 then(bif b.blt 212 then(Rk P).getD (b-207) default else(bif b.blt 217 then(Rl P).getD (b-212) default else(Rm P).getD (b-217) default))else(bif b.blt 231 then(Rn P).getD (b-224) default else(bif b.blt 238 then(Ro P).getD (b-231) default else(Rp P).getD (b-238) default)))else(bif b.blt 264 then(bif b.blt 250 then(Rq P).getD (b-245) default else(bif b.blt 257 then(Rr P).getD (b-250) default else(Rt P).getD (b-257) default))else(bif b.blt 271 then(Ru P).getD (b-264) default else(bif b.blt 276 then(Rv P).getD (b-271) default else(Rw P).getD (b-276) default))))
noncomputable def Ob(P:Params)(b:Nat):Obj:=(bif b.blt 317 then(bif b.blt 302 then(bif b.blt 288 then(Rx P).getD (b-283) default else(bif b.blt 295 then(Ry P).getD (b-288) default else(Rz P).getD (b-295) default))else(bif b.blt 307 then(RA P).getD (b-302) default else(bif b.blt 312 then(RC P).getD (b-307) default else(RD P).getD (b-312) default)))else(bif b.blt 334 then(bif b.blt 322 then(RE P).getD (b-317) default else(bif b.blt 329 then(RF P).getD (b-322) default else(RG P).getD (b-329) default))else(bif b.blt 346 then(bif b.blt 339 then(RH P).getD (b-334) default else(RI P).getD (b-339) default)else(bif b.blt 353 then(RJ P).getD (b-346) default else(RK P).getD (b-353) default))))
noncomputable def RM(P:Params)(b:Nat):Obj:=bif b.blt 283 then Oa P b else Ob P b
noncomputable def ob(P:Params)(b:Nat):Obj:=bif b.blt 207 then RL P b else RM P b
noncomputable def IU(P:Params):List DictEntry:=[(DictEntry.mk (kh P "greatest_shared") (.str "greatest_shared" 197) (.ref 21)),
 (DictEntry.mk (kh P "least_common") (.str "least_common" 205) (.ref 28)),
 (DictEntry.mk (kh P "is_whole") (.str "is_whole" 214) (.ref 35)),
 (DictEntry.mk (kh P "is_number_below") (.str "is_number_below" 222) (.ref 42)),
 (DictEntry.mk (kh P "are_two_wholes") (.str "are_two_wholes" 229) (.ref 49)),
 (DictEntry.mk (kh P "is_told_as") (.str "is_told_as" 238) (.ref 56)),
 (DictEntry.mk (kh P "LoadError") (.str "LoadError" 266) (.ref 73)),
 (DictEntry.mk (kh P "NoTree") (.str "NoTree" 291) (.ref 93)),
 (DictEntry.mk (kh P "lowest") (.str "lowest" 302) (.ref 102)),
 (DictEntry.mk (kh P "times") (.str "times" 310) (.ref 109)),
 (DictEntry.mk (kh P "is_cut") (.str "is_cut" 320) (.ref 116)),
 (DictEntry.mk (kh P "is_within") (.str "is_within" 328) (.ref 123)),
 (DictEntry.mk (kh P "parts_places") (.str "parts_places" 337) (.ref 130)),
 (DictEntry.mk (kh P "weighed") (.str "weighed" 345) (.ref 135)),
 (DictEntry.mk (kh P "common_bottom") (.str "common_bottom" 354) (.ref 142)),
 (DictEntry.mk (kh P "in_units") (.str "in_units" 360) (.ref 147)),
 (DictEntry.mk (kh P "ON") (.str "ON" 364) (.str "on" 363)),
 (DictEntry.mk (kh P "BACK") (.str "BACK" 366) (.str "back" 365)),
 (DictEntry.mk (kh P "other_way") (.str "other_way" 373) (.ref 154)),
 (DictEntry.mk (kh P "is_over") (.str "is_over" 387) (.ref 161)),
 (DictEntry.mk (kh P "turned_by") (.str "turned_by" 395) (.ref 166)),
 (DictEntry.mk (kh P "is_too_much") (.str "is_too_much" 404) (.ref 173)),
 (DictEntry.mk (kh P "are_too_many") (.str "are_too_many" 412) (.ref 180)),
 (DictEntry.mk (kh P "CUT") (.str "CUT" 416) (.str "cut" 415)),
 (DictEntry.mk (kh P "TURNED") (.str "TURNED" 418) (.str "turned" 417)),
 (DictEntry.mk (kh P "SPLIT") (.str "SPLIT" 420) (.str "split" 419)),
 (DictEntry.mk (kh P "MOST_WALKED") (.str "MOST_WALKED" 422) (.int 300 421)),
 (DictEntry.mk (kh P "is_split") (.str "is_split" 429) (.ref 187)),
 (DictEntry.mk (kh P "look_at_tree") (.str "look_at_tree" 435) (.ref 192)),
 (DictEntry.mk (kh P "branch_of") (.str "branch_of" 445) (.ref 199)),
 (DictEntry.mk (kh P "can_stand") (.str "can_stand" 456) (.ref 206)),
 (DictEntry.mk (kh P "is_too_full") (.str "is_too_full" 462) (.ref 211)),
 (DictEntry.mk (kh P "times_over") (.str "times_over" 468) (.ref 216)),
 (DictEntry.mk (kh P "_law_begun") (.str "_law_begun" 479) (.ref 223)),
 (DictEntry.mk (kh P "_law_take") (.str "_law_take" 490) (.ref 230)),
 (DictEntry.mk (kh P "_law_low") (.str "_law_low" 500) (.ref 237)),
 (DictEntry.mk (kh P "_law_amount") (.str "_law_amount" 511) (.ref 244)),
 (DictEntry.mk (kh P "_law_names") (.str "_law_names" 517) (.ref 249)),
 (DictEntry.mk (kh P "_law_rooms") (.str "_law_rooms" 530) (.ref 256)),
 (DictEntry.mk (kh P "_law_ends") (.str "_law_ends" 542) (.ref 263)),
 (DictEntry.mk (kh P "_law_ring") (.str "_law_ring" 563) (.ref 270)),
 (DictEntry.mk (kh P "_law_wholes") (.str "_law_wholes" 569) (.ref 275)),
 (DictEntry.mk (kh P "_law_on") (.str "_law_on" 583) (.ref 282)),
 (DictEntry.mk (kh P "_law_loads") (.str "_law_loads" 589) (.ref 287)),
 (DictEntry.mk (kh P "_law_strained") (.str "_law_strained" 604) (.ref 294)),
 (DictEntry.mk (kh P "_law_top") (.str "_law_top" 617) (.ref 301)),
 (DictEntry.mk (kh P "_law_turned") (.str "_law_turned" 623) (.ref 306)),
 (DictEntry.mk (kh P "_law_all_ways") (.str "_law_all_ways" 629) (.ref 311)),
 (DictEntry.mk (kh P "_law_wish") (.str "_law_wish" 635) (.ref 316)),
 (DictEntry.mk (kh P "_law_shown") (.str "_law_shown" 641) (.ref 321)),
 (DictEntry.mk (kh P "_law_showing") (.str "_law_showing" 655) (.ref 328)),
 (DictEntry.mk (kh P "_law_grown") (.str "_law_grown" 661) (.ref 333)),
 (DictEntry.mk (kh P "_law_any") (.str "_law_any" 667) (.ref 338)),
 (DictEntry.mk (kh P "_law_lets") (.str "_law_lets" 676) (.ref 345)),
 (DictEntry.mk (kh P "_law_kept") (.str "_law_kept" 688) (.ref 352)),
 (DictEntry.mk (kh P "law") (.str "law" 694) (.ref 357))]
noncomputable def RN:List Value:=[(.int 2 0),(.int 0 0),(.ref 20),(.int 8 0),(.int 0 0),(.ref 27),(.int 11 0),(.int 0 0),(.ref 34),(.int 13 0),(.int 0 0),(.ref 41),(.int 15 0),(.int 0 0),(.ref 48),(.int 17 0),(.int 0 0),(.ref 55),(.int 22 0),(.int 0 0),(.ref 62),(.int 26 0),(.int 0 0),(.ref 82),(.int 32 0),(.int 0 0),(.ref 101),(.int 37 0),(.int 0 0),(.ref 108),(.int 40 0),(.int 0 0),(.ref 115),(.int 42 0),(.int 0 0),(.ref 122),(.int 44 0),(.int 0 0),(.ref 129),(.int 47 0),(.int 0 0),(.ref 134),(.int 52 0),(.int 0 0),(.ref 141),(.int 57 0),(.int 0 0),(.ref 146),(.int 62 0),(.int 0 0),(.ref 153),(.int 64 0),(.int 0 0),(.ref 160),(.int 71 0),(.int 0 0),(.ref 165),(.int 74 0),(.int 0 0),(.ref 172),(.int 76 0),(.int 0 0),(.ref 179),(.int 83 0),(.int 0 0),(.ref 186),(.int 85 0),(.int 0 0),(.ref 191),(.int 97 0),(.int 0 0),(.ref 198),(.int 102 0),(.int 0 0),(.ref 205),(.int 108 0),(.int 0 0),(.ref 210),(.int 112 0),(.int 0 0),(.ref 215),(.int 117 0),(.int 0 0),(.ref 222),(.int 122 0),(.int 0 0),(.ref 229),(.int 133 0),(.int 0 0),(.ref 236),(.int 141 0),(.int 0 0),(.ref 243),(.int 145 0),(.int 0 0),(.ref 248),(.int 151 0),(.int 0 0),(.ref 255),(.int 161 0),(.int 0 0),(.ref 262),(.int 171 0),(.int 0 0),(.ref 269),(.int 185 0),(.int 0 0),(.ref 274),(.int 194 0),(.int 0 0),(.ref 281),(.int 204 0),(.int 0 0),(.ref 286),(.int 211 0),(.int 0 0),(.ref 293),(.int 219 0),(.int 0 0),(.ref 300),(.int 227 0),(.int 0 0),(.ref 305),(.int 229 0),(.int 0 0),(.ref 310),(.int 234 0),(.int 0 0),(.ref 315),(.int 249 0),(.int 0 0),(.ref 320),(.int 263 0),(.int 0 0),(.ref 327),(.int 270 0),(.int 0 0),(.ref 332),(.int 287 0),(.int 0 0),(.ref 337),(.int 299 0),(.int 0 0),(.ref 344),(.int 305 0),(.int 0 0),(.ref 351),(.int 310 0),(.int 0 0),(.ref 356)]
noncomputable def RO(P:Params):List (Nat×Obj):=[(12,CW (RN.take 0))]
noncomputable def T0(P:Params):BT:=QZ 15 (λb=>Gv [12] P (RO P) ob b 0) 1 0 0
noncomputable abbrev S0(w:World)(os:OsState):SharedT:=⟨T0 w.params,15,qx,#[],⟨0,0,0,0⟩,187,os⟩
noncomputable def RP(P:Params):List (Nat×Obj):=[(3,xP P (.str "ringloads.errors" 239) ((IU P).take 6) 15),(12,CW (RN.take 18))]
noncomputable def T1(P:Params):BT:=QZ 57 (λb=>Gv [3,12] P (RP P) ob b 1) 1 0 1
noncomputable abbrev S1(w:World)(os:OsState):SharedT:=⟨T1 w.params,57,qx,#[],⟨0,0,0,0⟩,241,os⟩
noncomputable def RQ(P:Params):List (Nat×Obj):=[(3,xP P (.str "ringloads.errors" 239) ((IU P).take 7) 16),(12,CW (RN.take 21)),(73,(Obj.mk (.type "type") none (.cls (PySem.ClassData.mk "LoadError" [(.type "ValueError")] [(.ref 73),(.type "ValueError"),(.type "Exception"),(.type "BaseException"),(.type "object")] 72 "LoadError" true [] [] false none false)) #[(some (.ref 57)),none,(some (.str "LoadError" 241)),(some (.str "LoadError" 249)),(some (.builtin "ValueError.__new__")),(some (.bool true))]))]
noncomputable def T2(P:Params):BT:=QZ 77 (λb=>Gv [3,12,73] P (RQ P) ob b 2) 1 0 2
noncomputable abbrev S2(w:World)(os:OsState):SharedT:=⟨T2 w.params,77,qx,#[],⟨0,0,0,0⟩,267,os⟩
noncomputable def RR(P:Params):List (Nat×Obj):=[(3,xP P (.str "ringloads.cuts" 311) ((IU P).take 12) 21),(12,CW (RN.take 36))]
noncomputable def T3(P:Params):BT:=QZ 124 (λb=>Gv [3,12] P (RR P) ob b 3) 1 0 3
noncomputable abbrev S3(w:World)(os:OsState):SharedT:=⟨T3 w.params,124,qx,#[],⟨0,0,0,0⟩,329,os⟩
noncomputable def RS(P:Params):List (Nat×Obj):=[(3,xP P (.str "ringloads.trees" 413) ((IU P).take 28) 37),(12,CW (RN.take 66))]
noncomputable def T4(P:Params):BT:=QZ 188 (λb=>Gv [3,12] P (RS P) ob b 4) 1 0 4
noncomputable abbrev S4(w:World)(os:OsState):SharedT:=⟨T4 w.params,188,qx,#[],⟨0,0,0,0⟩,430,os⟩
noncomputable def RT(P:Params):List (Nat×Obj):=[(3,xP P (.str "law_ringloads_k47_whole_trees_bar_all" 469) ((IU P).take 40) 49),(12,CW (RN.take 102))]
noncomputable def T5(P:Params):BT:=QZ 264 (λb=>Gv [3,12] P (RT P) ob b 5) 1 0 5
noncomputable abbrev S5(w:World)(os:OsState):SharedT:=⟨T5 w.params,264,qx,#[],⟨0,0,0,0⟩,543,os⟩
noncomputable def RU(P:Params):List (Nat×Obj):=[(3,xP P (.str "law_ringloads_k47_whole_trees_bar_all" 469) ((IU P).take 53) 62),(12,CW (RN.take 141))]
noncomputable def T6(P:Params):BT:=QZ 339 (λb=>Gv [3,12] P (RU P) ob b 6) 1 0 6
noncomputable abbrev S6(w:World)(os:OsState):SharedT:=⟨T6 w.params,339,qx,#[],⟨0,0,0,0⟩,668,os⟩
noncomputable def RV(P:Params):List (Nat×Obj):=[(3,xP P (.str "law_ringloads_k47_whole_trees_bar_all" 469) ((IU P).take 56) 65),(12,CW (RN.take 150))]
noncomputable def T7(P:Params):BT:=QZ 358 (λb=>Gv [3,12] P (RV P) ob b 7) 1 0 7
noncomputable abbrev S7(w:World)(os:OsState):SharedT:=⟨T7 w.params,358,qx,#[],⟨0,0,0,0⟩,695,os⟩
noncomputable abbrev env:Env:={scope:=pr.main.scope,locals:=mainNs,globals:=mainNs,cells:=[],code:=.ref 13,frame:=some 14}
noncomputable abbrev cE:Code:=.body (behindTheImports pr) env
noncomputable abbrev B:List Frame:=[topFrame ⟨0,0,0,0⟩]
noncomputable def Nr:List Stmt:=(pr.main.body.drop 0).take 9
theorem RW(w:World)(os:OsState):segRunT treeTable pr w 11 (some (.ref 6)) 1 208 (S0 w os) (piecesOf Nr env cE ⟨0,0,0,0⟩ B)=some (.next,S1 w os,cE,⟨21,0,21,8⟩):=qy z_
noncomputable def Nu:List Stmt:=(pr.main.body.drop 9).take 1
theorem RX(w:World)(os:OsState):segRunT treeTable pr w 11 (some (.ref 6)) 1 218 (S1 w os) (piecesOf Nu env cE ⟨21,0,21,8⟩ B)=some (.next,S2 w os,cE,⟨22,0,25,39⟩):=qy z_
noncomputable def Nv:List Stmt:=(pr.main.body.drop 10).take 7
theorem RY(w:World)(os:OsState):segRunT treeTable pr w 11 (some (.ref 6)) 1 385 (S2 w os) (piecesOf Nv env cE ⟨22,0,25,39⟩ B)=some (.next,S3 w os,cE,⟨42,0,43,35⟩):=qy z_
noncomputable def Nw:List Stmt:=(pr.main.body.drop 17).take 20
theorem RZ(w:World)(os:OsState):segRunT treeTable pr w 11 (some (.ref 6)) 1 386 (S3 w os) (piecesOf Nw env cE ⟨42,0,43,35⟩ B)=some (.next,S4 w os,cE,⟨83,0,84,38⟩):=qy z_
noncomputable def Nx:List Stmt:=(pr.main.body.drop 37).take 13
theorem R0(w:World)(os:OsState):segRunT treeTable pr w 11 (some (.ref 6)) 1 377 (S4 w os) (piecesOf Nx env cE ⟨83,0,84,38⟩ B)=some (.next,S5 w os,cE,⟨161,0,170,33⟩):=qy z_
noncomputable def Ny:List Stmt:=(pr.main.body.drop 50).take 13
theorem R1(w:World)(os:OsState):segRunT treeTable pr w 11 (some (.ref 6)) 1 396 (S5 w os) (piecesOf Ny env cE ⟨161,0,170,33⟩ B)=some (.next,S6 w os,cE,⟨287,0,298,58⟩):=qy z_
noncomputable def Nz:List Stmt:=(pr.main.body.drop 63).take 3
theorem R3(w:World)(os:OsState):segRunT treeTable pr w 11 (some (.ref 6)) 1 92 (S6 w os) (piecesOf Nz env cE ⟨287,0,298,58⟩ B)=some (.next,S7 w os,cE,⟨310,0,324,15⟩):=qy z_
noncomputable abbrev H1(P:Params):Heap:=absHeap (T7 P) 358 qx
theorem pre(w:World)(os:OsState):topGo treeTable pr w 11 (some (.ref 6)) 12 ⟨boot_heap w.params,#[],boot_drawn,boot_toks,os⟩ (topStub pr)=some (⟨⟨⟨IS w.params⟩,qx⟩,#[],⟨0,0,0,0⟩,187,os⟩,⟨denote treeTable cE,cE,⟨0,0,0,0⟩,B⟩):=by rw[Ln];exact MY z_
theorem GC(w:World)(os:OsState):segRun treeTable pr w 11 (some (.ref 6)) 1 1 ⟨⟨⟨IS w.params⟩,qx⟩,#[],⟨0,0,0,0⟩,187,os⟩ (blockOf (behindTheImports pr) env cE ⟨0,0,0,0⟩ B)=some (.next,(S0 w os).abs,cE,⟨0,0,0,0⟩):=by kernel_rfl
theorem Ov(w:World)(os:OsState):topRun treeTable pr w 11 (some (.ref 6)) 2 (S7 w os).abs ⟨doneF .next,cE,⟨310,0,324,15⟩,B⟩=some ⟨H1 w.params,#[],⟨0,0,0,0⟩,695,os⟩:=Ll z_
theorem IV:behindTheImports pr=(Nr++(Nu++(Nv++(Nw++(Nx++(Ny++(Nz++[]))))))):=by kernel_rfl
theorem run(w:World)(os:OsState):topRun treeTable pr w 11 (some (.ref 6)) (12+(1+(208+(218+(385+(386+(377+(396+(92+2))))))))) ⟨boot_heap w.params,#[],boot_drawn,boot_toks,os⟩ (topStub pr)=some ⟨H1 w.params,#[],⟨0,0,0,0⟩,695,os⟩ :=
 go_top (pre w os) (piece_block (GC w os) (IT IV (piece_app (segRun_of (RW w os)) (piece_app (segRun_of (RX w os)) (piece_app (segRun_of (RY w os)) (piece_app (segRun_of (RZ w os)) (piece_app (segRun_of (R0 w os)) (piece_app (segRun_of (R1 w os)) (piece_app (segRun_of (R3 w os)) (piece_nil (Ov w os)))))))))))
noncomputable abbrev q:Program:=view pr [65]
noncomputable def loose:List Str:=(["greatest_shared","least_common","is_whole","is_number_below","are_two_wholes","is_told_as","LoadError","NoTree","lowest","times","is_cut","is_within","parts_places","weighed","common_bottom","in_units","ON","BACK","other_way","is_over","turned_by","is_too_much","are_too_many","CUT","TURNED","SPLIT","MOST_WALKED","is_split","look_at_tree","branch_of","can_stand","is_too_full","times_over","_law_begun","_law_take","_law_low","_law_amount","_law_names","_law_rooms","_law_ends","_law_ring","_law_wholes","_law_on","_law_loads","_law_strained","_law_top","_law_turned","_law_all_ways","_law_wish","_law_shown","_law_showing","_law_grown","_law_any","_law_lets","_law_kept"]:List String).map Str.ofString
noncomputable def Kf(P:Params):Frag:=(3,((RV P).getD 0 (0,default)).2)::[(2,boot_o_2 P),(20,(f1 P).getD 5 default),(21,(f1 P).getD 6 default),(27,(f2 P).getD 5 default),(28,(f2 P).getD 6 default),(34,(f4 P).getD 5 default),(35,(f4 P).getD 6 default),(41,(f5 P).getD 5 default),(42,(f5 P).getD 6 default),(48,(f6 P).getD 5 default),(49,(f6 P).getD 6 default),(55,(f7 P).getD 5 default),(56,(f7 P).getD 6 default),(57,(f9 P).getD 0 default),(58,(f9 P).getD 1 default),(59,(f9 P).getD 2 default),(60,(f9 P).getD 3 default),(61,(f9 P).getD 4 default),(62,(f9 P).getD 5 default),(63,(f9 P).getD 6 default),(64,(f9 P).getD 7 default),(65,(f9 P).getD 8 default),(66,(f9 P).getD 9 default),(67,(f9 P).getD 10 default),(68,(f9 P).getD 11 default),(69,(f9 P).getD 12 default),(70,(f9 P).getD 13 default),(71,(f9 P).getD 14 default),(72,(f9 P).getD 15 default),(73,(f9 P).getD 16 default),(74,(f9 P).getD 17 default),(75,(f9 P).getD 18 default),(76,(f9 P).getD 19 default),(77,(Q0 P).getD 0 default),(78,(Q0 P).getD 1 default),(79,(Q0 P).getD 2 default),(80,(Q0 P).getD 3 default),(81,(Q0 P).getD 4 default),(82,(Q0 P).getD 5 default),(83,(Q0 P).getD 6 default),(84,(Q0 P).getD 7 default),(85,(Q0 P).getD 8 default),(86,(Q0 P).getD 9 default),(87,(Q0 P).getD 10 default),(88,(Q0 P).getD 11 default),(89,(Q0 P).getD 12 default),(90,(Q0 P).getD 13 default),(91,(Q0 P).getD 14 default),(92,(Q0 P).getD 15 default),(93,(Q0 P).getD 16 default),(94,(Q0 P).getD 17 default),(95,(Q0 P).getD 18 default),(101,(Q1 P).getD 5 default),(102,(Q1 P).getD 6 default),(108,(Q3 P).getD 5 default),(109,(Q3 P).getD 6 default),(115,(Q4 P).getD 5 default),(116,(Q4 P).getD 6 default),(122,(Q5 P).getD 5 default),(123,(Q5 P).getD 6 default),(129,(Q6 P).getD 5 default),(130,(Q6 P).getD 6 default),(134,(Q7 P).getD 3 default),(135,(Q7 P).getD 4 default),(141,(Q8 P).getD 5 default),(142,(Q8 P).getD 6 default),(146,(Q9 P).getD 3 default),(147,(Q9 P).getD 4 default),(153,(Ra P).getD 5 default),(154,(Ra P).getD 6 default),(160,(Rb P).getD 5 default),(161,(Rb P).getD 6 default),(165,(Rc P).getD 3 default),(166,(Rc P).getD 4 default),(172,(Re P).getD 5 default),(173,(Re P).getD 6 default),(179,(Rf P).getD 5 default),(180,(Rf P).getD 6 default),(186,(Rg P).getD 5 default),(187,(Rg P).getD 6 default),(191,(Rh P).getD 3 default),(192,(Rh P).getD 4 default),(198,(Ri P).getD 5 default),(199,(Ri P).getD 6 default),(205,(Rj P).getD 5 default),(206,(Rj P).getD 6 default),(210,(Rk P).getD 3 default),(211,(Rk P).getD 4 default),(215,(Rl P).getD 3 default),(216,(Rl P).getD 4 default),(222,(Rm P).getD 5 default),(223,(Rm P).getD 6 default),(229,(Rn P).getD 5 default),(230,(Rn P).getD 6 default),(236,(Ro P).getD 5 default),(237,(Ro P).getD 6 default),(243,(Rp P).getD 5 default),(244,(Rp P).getD 6 default),(248,(Rq P).getD 3 default),(249,(Rq P).getD 4 default),(255,(Rr P).getD 5 default),(256,(Rr P).getD 6 default),(262,(Rt P).getD 5 default),(263,(Rt P).getD 6 default),(269,(Ru P).getD 5 default),(270,(Ru P).getD 6 default),(274,(Rv P).getD 3 default),(275,(Rv P).getD 4 default),(281,(Rw P).getD 5 default),(282,(Rw P).getD 6 default),(286,(Rx P).getD 3 default),(287,(Rx P).getD 4 default),(293,(Ry P).getD 5 default),(294,(Ry P).getD 6 default),(300,(Rz P).getD 5 default),(301,(Rz P).getD 6 default),(305,(RA P).getD 3 default),(306,(RA P).getD 4 default),(310,(RC P).getD 3 default),(311,(RC P).getD 4 default),(315,(RD P).getD 3 default),(316,(RD P).getD 4 default),(320,(RE P).getD 3 default),(321,(RE P).getD 4 default),(327,(RF P).getD 5 default),(328,(RF P).getD 6 default),(332,(RG P).getD 3 default),(333,(RG P).getD 4 default),(337,(RH P).getD 3 default),(338,(RH P).getD 4 default),(344,(RI P).getD 5 default),(345,(RI P).getD 6 default),(351,(RJ P).getD 5 default),(352,(RJ P).getD 6 default),(356,(RK P).getD 3 default),(357,(RK P).getD 4 default)]
noncomputable abbrev as:List Addr:=[3,2,20,21,27,28,34,35,41,42,48,49,55,56,57,58,59,60,61,62,63,64,65,66,67,68,69,70,71,72,73,74,75,76,77,78,79,80,81,82,83,84,85,86,87,88,89,90,91,92,93,94,95,101,102,108,109,115,116,122,123,129,130,134,135,141,142,146,147,153,154,160,161,165,166,172,173,179,180,186,187,191,192,198,199,205,206,210,211,215,216,222,223,229,230,236,237,243,244,248,249,255,256,262,263,269,270,274,275,281,282,286,287,293,294,300,301,305,306,310,311,315,316,320,321,327,328,332,333,337,338,344,345,351,352,356,357]
noncomputable abbrev Hk:Hook:=kHook Kf as (λ_=>by kernel_rfl)
noncomputable abbrev Xt:Shared→Bool:=fun s=>xlAt q [] s && recOk (RowW.records PySem.Challenge.rw_ringloads_k47_whole_trees_bar_all.row.toRowW) s
theorem size (w:World):((boot_heap w.params).isNs mainGlobals && (#[]:Array GenState).size == 0,(boot_heap w.params).objs.size,(boot_heap w.params).nsMap mainGlobals "__annotations__")=(true,11,some (.ref 6)):=by kernel_rfl
theorem MZ(w:World)(os:OsState):(staticsOk (importedModules pr.main.body) (boot_heap w.params) (H1 w.params) && namesBound pr (H1 w.params) && gensDone ⟨H1 w.params,#[],⟨0,0,0,0⟩,695,os⟩ && laidKept (boot_heap w.params) (H1 w.params))=true:=by kernel_rfl
theorem M3(w:World)(os:OsState):openSeen q loose (importedModules pr.main.body) Xt true ⟨H1 w.params,#[],⟨0,0,0,0⟩,695,os⟩=openGood q loose:=by rw[Fast.te4187177175401517315];kernel_rfl
theorem M4(w:World)(os:OsState):Hk.obs ⟨H1 w.params,#[],⟨0,0,0,0⟩,695,os⟩=Hk.val w:=by kernel_rfl
theorem Lo:opening pr=plainProg pr.main.scope.names:=by kernel_rfl
theorem left:LeftO pr q loose Xt Hk.obs Hk.val 4810:=LeftO.of_pieces (M:=(12+(1+(208+(218+(385+(386+(377+(396+(92+2)))))))))) (boot_open Lo x_ (λs=>by kernel_rfl)) size run y_ (λw=>funext λos=>looks_pair (MZ w os) (looks_pair (M3 w os) (M4 w os)))
end Hd
namespace My
open PySem L2
local macro_rules | `(tactic| walk_at "w")=>do
 let ids:=("xr Jn HV B3 get2 Qu lr LU LV LS HY B4 vE PP ME yT Qk Qj Et HR Eu KL Es AJ lr Eb BI J0 DM GX J2 DN GY D4 Kh He Hs HS Ew Kq Ms Ht Kr Mt Hv Mu JX JY DL Bh Ho Kp Ea Hq BG z6 Ed xh oE aT Pi aZ au Ph ak pT wC bo cQ nJ c8 ba a7 aR ar gJ aJ Pb DS nK AH ko l6 LF DO Pf ma J3 G0 J5 bE d6 yB xa D1 Br PP vE eY Ec Hr BH List.all_cons List.all_nil Bool.and_true Bool.true_and Mr w9 LH D2 tQ jb DU rL D9 Ni Kx HF Hm vD xx xy Ah aW Cc Cd EO hG b7 yN nL bc mi fK zQ yw Dl AI LG lj yz DP EG EH EJ EK EM Ib Ic Ie Ig KU KW Ij Ik MM MN Ck Cm Il Kk D7 Gm yZ Co Ca y6 sR gN KY EN List.length_map Cb Ce Cf Cg ER Ai Ci xA xB xC vP xD ud ES Ih zR Bq DX tS yA vo ET Im EU EV EW EX Aj vQ vR Cn Io By vC zW beq_self_eq_true String.reduceBEq String.reduceEq reduceCtorEq Jl zS d5 cK gM bB zX BC sM p6 xc Kj List.getElem?_cons_zero List.getElem?_cons_succ List.set_cons_zero List.set_cons_succ List.cons_append List.nil_append List.replicate_succ List.replicate_zero List.map_cons List.map_nil List.drop_succ_cons List.drop_zero Option.getD_some true_and decide_eq_true_eq Bool.not_eq_true' decide_eq_false_iff_not ite_true ite_false Bool.false_eq_true Bool.true_eq_false if_true if_false List.length_cons List.length_nil Nat.reduceAdd Nat.reduceSub qf qg EE H0 KS NY NZ N0 Option.some.injEq exists_eq_left' exists_eq_left".splitOn " ").toArray.map fun s=>Lean.mkIdent ((s.splitOn ".").foldl Lean.Name.mkStr Lean.Name.anonymous)
 `(tactic| try simp only [$[$ids:ident],*])
local macro_rules | `(tactic| walk_at "o")=>`(tactic| first | exact Or.inl rfl | exact Or.inr rfl)
theorem v4{a b:Prop}(h:a∨b:=by walk_at "o"):a∨b:=h
noncomputable abbrev dE:Stmt:=Hd.top 1
noncomputable abbrev nV:List Str:=["one","other","rest"]
noncomputable abbrev gb:Stmt:=Hd.top 2
noncomputable abbrev rR:List Str:=["one","other"]
noncomputable abbrev nW:Stmt:=Hd.top 4
noncomputable abbrev Av:List Str:=["thing"]
noncomputable abbrev dF:Stmt:=Hd.top 5
noncomputable abbrev nX:List Str:=["thing","many"]
noncomputable abbrev eB:Stmt:=Hd.top 6
noncomputable abbrev o6:List Str:=["thing"]
noncomputable abbrev jh:Stmt:=Hd.top 7
noncomputable abbrev v7:List Str:=["thing","word","length"]
noncomputable abbrev uo:Stmt:=Hd.top 12
noncomputable abbrev FH:List Str:=["top","bottom","shared"]
noncomputable abbrev xQ:Stmt:=Hd.top 13
noncomputable abbrev IW:List Str:=["one","other"]
noncomputable abbrev uu:Stmt:=Hd.top 15
noncomputable abbrev FI:List Str:=["ring","thing"]
noncomputable abbrev lA:Stmt:=Hd.top 16
noncomputable abbrev xR:List Str:=["cut","place"]
noncomputable abbrev gh:Stmt:=Hd.top 17
noncomputable abbrev rS:List Str:=["cut","one","other"]
noncomputable abbrev fg:Stmt:=Hd.top 20
noncomputable abbrev qz:List Str:=["some","bottom","one"]
noncomputable abbrev ka:Stmt:=Hd.top 21
noncomputable abbrev td:List Str:=["some","units"]
noncomputable abbrev ji:Stmt:=Hd.top 19
noncomputable abbrev qC:List Str:=["ring","top","sizes","most","units"]
noncomputable abbrev lB:Stmt:=Hd.top 25
noncomputable abbrev xS:List Str:=["way"]
noncomputable abbrev qD:Stmt:=Hd.top 26
noncomputable abbrev CY:List Str:=["ring","k","way","tie","places","one","other","lies_on"]
noncomputable abbrev ia:Stmt:=Hd.top 28
noncomputable abbrev qE:List Str:=["elder","ways","pairs"]
noncomputable abbrev ib:Stmt:=Hd.top 29
noncomputable abbrev uv:List Str:=["wish","load","bound"]
noncomputable abbrev gi:Stmt:=Hd.top 30
noncomputable abbrev rT:List Str:=["wish","ways"]
noncomputable abbrev nY:Stmt:=Hd.top 36
noncomputable abbrev Aw:List Str:=["thing"]
noncomputable abbrev fR:Stmt:=Hd.top 41
noncomputable abbrev oI:List Str:=["ring","k","way","cut"]
noncomputable abbrev eL:Stmt:=Hd.top 40
noncomputable abbrev mI:List Str:=["ring","wish","scale","fixed","cut","most","load"]
noncomputable abbrev lC:Stmt:=Hd.top 39
noncomputable abbrev xT:List Str:=["ring","wish","scale","fixed","thing"]
noncomputable abbrev lD:Stmt:=Hd.top 38
noncomputable abbrev xU:List Str:=["here","way","tree","fixed"]
noncomputable abbrev dQ:Stmt:=Hd.top 37
noncomputable abbrev ku:List Str:=["ring","wish","thing","scale","ahead","walked","here"]
noncomputable abbrev jj:Stmt:=Hd.top 43
noncomputable abbrev v8:List Str:=["_law_script","_law_k","_law_cell"]
noncomputable abbrev lE:Stmt:=Hd.top 44
noncomputable abbrev xV:List Str:=["_law_state","_law_many","_law_digit","_law_drawn","_law_turn"]
noncomputable abbrev eh:Stmt:=Hd.top 47
noncomputable abbrev jk:List Str:=["_law_state","_law_many","_law_letters","_law_base","_law_at","_law_turn"]
noncomputable abbrev nZ:Stmt:=Hd.top 45
noncomputable abbrev Ax:List Str:=["_law_top_here","_law_bottom","_law_one","_law_share"]
noncomputable abbrev ie:Stmt:=Hd.top 46
noncomputable abbrev uw:List Str:=["_law_state","_law_least","_law_kind","_law_bottom","_law_top_here"]
noncomputable abbrev jm:Stmt:=Hd.top 48
noncomputable abbrev v9:List Str:=["_law_state","_law_ties","_law_kind","_law_alike","_law_one","_law_rooms_here","_law_more"]
noncomputable abbrev lF:Stmt:=Hd.top 49
noncomputable abbrev xW:List Str:=["_law_state","_law_shape","_law_places","_law_k","_law_one","_law_other"]
noncomputable abbrev lG:Stmt:=Hd.top 50
noncomputable abbrev xX:List Str:=["_law_script","_law_at","_law_most","_law_count","_law_state","_law_places","_law_many","_law_kinds","_law_shape","_law_names_here","_law_rooms_here","_law_asks","_law_k","_law_one","_law_other"]
noncomputable abbrev qF:Stmt:=Hd.top 52
noncomputable abbrev CZ:List Str:=["_law_ring_here","_law_found","_law_name","_law_one","_law_other","_law_size","_law_ties","_law_place"]
noncomputable abbrev eM:Stmt:=Hd.top 51
noncomputable abbrev mJ:List Str:=["_law_some","_law_bottom","_law_part","_law_one","_law_share"]
noncomputable abbrev n4:Stmt:=Hd.top 55
noncomputable abbrev Ay:List Str:=["_law_ring_here","_law_loads_here","_law_bottom","_law_best","_law_tie","_law_room","_law_strain"]
noncomputable abbrev fS:Stmt:=Hd.top 53
noncomputable abbrev oJ:List Str:=["_law_ring_here","_law_on_here","_law_sizes","_law_ways","_law_loads_here","_law_k","_law_tie"]
noncomputable abbrev cy:Stmt:=Hd.top 57
noncomputable abbrev fh:List Str:=["_law_many","_law_found","_law_k"]
noncomputable abbrev fj:Stmt:=Hd.top 58
noncomputable abbrev lH:List Str:=["_law_state","_law_ring_here","_law_on_here","_law_wholes_here","_law_many","_law_tops","_law_least","_law_top_here","_law_way","_law_strict","_law_elder","_law_most"]
noncomputable abbrev fT:Stmt:=Hd.top 59
noncomputable abbrev oK:List Str:=["_law_ring_here","_law_on_here","_law_wholes_here","_law_wish_here","_law_fixed","_law_g","_law_h","_law_sizes","_law_bottom","_law_load","_law_k","_law_sides","_law_one","_law_other","_law_most"]
noncomputable abbrev gj:Stmt:=Hd.top 60
noncomputable abbrev rV:List Str:=["_law_ring_here","_law_on_here","_law_wholes_here","_law_wish_here","_law_fixed","_law_cuts","_law_g","_law_h"]
noncomputable abbrev ej:Stmt:=Hd.top 61
noncomputable abbrev jo:List Str:=["_law_state","_law_ring_here","_law_on_here","_law_wholes_here","_law_wish_here","_law_fixed","_law_turned_here","_law_cuts","_law_loose","_law_k","_law_trees","_law_choice","_law_more"]
noncomputable abbrev lI:Stmt:=Hd.top 63
noncomputable abbrev xY:List Str:=["_law_ring_here","_law_wish_here","_law_tree"]
noncomputable abbrev fk:Stmt:=Hd.top 54
noncomputable abbrev qG:List Str:=["_law_ring_here","_law_loads_here","_law_bottom","_law_top_here","_law_strict","_law_tie","_law_room","_law_load","_law_most"]
noncomputable abbrev eN:Stmt:=Hd.top 56
noncomputable abbrev mK:List Str:=["_law_elder","_law_ways"]
noncomputable abbrev lJ:Stmt:=Hd.top 64
noncomputable abbrev xZ:List Str:=["_law_ring_here","_law_on_here","_law_wholes_here","_law_wish_here","_law_ways","_law_loads_here"]
noncomputable abbrev kc:Stmt:=Hd.top 62
noncomputable abbrev tj:List Str:=["_law_state","_law_ring_here","_law_fixed","_law_loose","_law_g","_law_k","_law_trees","_law_choice","_law_more"]
noncomputable abbrev Az:Stmt:=Hd.top 65
noncomputable abbrev IX:List Str:=["_law_script","_law_ring_here","_law_on_here","_law_wholes_here","_law_last","_law_k","_law_state","_law_wish_here","_law_keeps","_law_tree"]
def cw:FS:=λls p4=>∃a b:Int,ls=[.d (.int a),.d (.int b)]/\p4 (.d (.int (Int.gcd a b))) ls
def lK:W Fl:=(aT (bo 2 (au fK (ak 0) (ak 1)))
  (aT (bo 0 (ak 1))
  (bo 1 (ak 2))))
def dG:W Fl:=(aT (mf (aZ (au yz (ak 1) (wC (.int 0)))) lK)
  (cQ (aR zR (ar (ak 0) aJ))))
theorem lL:∀ls p4,ls.length=2->cw ls p4->dG (ls++List.replicate 1 .un) (aO ls p4):=by
 rintro ls p4 - ⟨a,b,rfl,h⟩;unfold dG;walk_at "w";refine⟨λn Z=>∃x y r,Z=[.d (.int x),.d (.int y),r]/\Int.gcd x y=Int.gcd a b/\n=y.natAbs,⟨_,a,b,_,rfl,rfl,rfl⟩,?_⟩;rintro n Z ⟨x,y,r,rfl,hg,rfl⟩;walk_at "w";split
 .
  rename_i hy;have hy:y≠0:=by simpa using hy
  exact⟨hy,_,fZ x hy,y,x.fmod y,_,rfl,by rw[tZ];exact hg,rfl⟩
 .
  rename_i hy;have hy:y=0:=by simpa using hy
  subst hy;refine⟨_,aj (aj aX),?_⟩
  have e:(if x<0 then -x else x)=((Int.gcd a b:Nat):Int):=by rw[<- hg,Int.gcd_zero_right];split<;>omega
  rw[e];exact h
def fm:FS:=λls p4=>∃a b:Nat,ls=[.d (.int a),.d (.int b)]/\0<b/\a<2^4400/\b<2^4400/\p4 (.d (.int (Nat.lcm a b))) ls
def gk:W Fl:=(cQ (au bc (au mi (ak 0) (ba cw (ar (ak 0) (ar (ak 1) aJ)))) (ak 1)))
theorem o7:∀ls p4,ls.length=2->fm ls p4->gk (ls++List.replicate 0 .un) (aO ls p4):=by
 rintro ls p4 - ⟨a,b,rfl,hb,ha,hb2,h⟩;unfold gk;walk_at "w";refine⟨_,_,rfl,?_⟩;walk_at "w";have g0:0<Int.gcd (a:Int) (b:Int):=Nat.gcd_pos_of_pos_right _ hb;have g1:Int.gcd (a:Int) (b:Int)<=b:=Nat.gcd_le_right _ hb;have e1:((a:Int).fdiv (Int.gcd (a:Int) (b:Int):Int)).natAbs<=a:=by rw[Int.fdiv_eq_ediv_of_nonneg _ xL];show(((a:Int) / ((Nat.gcd a b:Nat):Int))).natAbs<=a;rw[<- Int.natCast_ediv,Int.natAbs_natCast];exact Nat.div_le_self _ _
 refine⟨xL,?_,?_,?_,?_⟩
 . rw[Int.natAbs_natCast];exact SO g1 (SD hb2 (SL x_ x_))
 . exact aF (SO e1 ha) x_
 . exact aF (n:=4400) (by rw[Int.natAbs_natCast];exact hb2) x_
 . rw[CB hb];exact⟨_,aj (aj aX),h⟩
def fo:FS:=λls p4=>(∃i:Int,ls=[.d (.int i)]/\p4 (.d (.bl true)) ls)∨∃d:D,ls=[.d d]/\(∀i,d≠.int i)/\p4 (.d (.bl false)) ls
def ke:W Fl:=(cQ (ma (Ph (vo "int") (ak 0)) (G0 (aZ (Ph (vo "bool") (ak 0))))))
theorem wb:∀ls p4,ls.length=1->fo ls p4->ke (ls++List.replicate 0 .un) (aO ls p4):=by
 rintro ls p4-(⟨i,rfl,h⟩|⟨d,rfl,hd,h⟩)
 . unfold ke;walk_at "w";exact⟨_,aj aX,h⟩
 .
  unfold ke
  cases d with
  |int i=>exact absurd rfl (hd i)
  |_=>walk_at "w"; exact⟨_,aj aX,h⟩
def dj:FS:=λls p4=>∃(d:D)(n:Int),ls=[.d d,.d (.int n)]/\p4 (.d (.bl (FD d n))) ls
def dH:W Fl:=(cQ (ma (ba fo (ar (ak 0) aJ)) (vD Dl yw (wC (.int 0)) (ak 0) (ak 1))))
theorem lM:∀ls p4,ls.length=2->dj ls p4->dH (ls++List.replicate 0 .un) (aO ls p4):=by
 rintro ls p4 - ⟨d,n,rfl,h⟩;unfold dH;by_cases hd:∃i,d=.int i
 .
  obtain⟨i,rfl⟩:=hd;have h:p4 (.d (.bl (decide (0<=i/\i<n)))) [.d (.int i),.d (.int n)]:=h;walk_at "w";refine .inl ⟨i,rfl,?_⟩;walk_at "w";by_cases c:0<=i
  .
   rw[if_pos c];have e:decide (0<=i/\i<n)=decide (i<n):=by rw[decide_eq_decide];omega
   rw[e]at h;exact⟨_,aj (aj aX),h⟩
  . rw[if_neg c];have e:decide (0<=i/\i<n)=false:=decide_eq_false xL;rw[e]at h;exact⟨_,aj (aj aX),h⟩
 .
  have e:FD d n=false:=by
   unfold FD;split
   . exact absurd ⟨_,rfl⟩ hd
   . rfl
  rw[e]at h;walk_at "w";refine .inr ⟨d,rfl,λi e=>hd ⟨i,e⟩,?_⟩;walk_at "w";exact⟨_,aj (aj aX),h⟩
noncomputable def M5:D->Bool
 |.tup [.int _,.int _]=>true
 |_=>false
theorem IY{d:D}(h:M5 d=true):∃i j,d=.tup [.int i,.int j]:=by
 unfold M5 at h;split at h
 . exact⟨_,_,rfl⟩
 . cases h
theorem C0(d:D):(∃i j,d=.tup [.int i,.int j])∨(∀i j,d≠.tup [.int i,.int j]):=by
 cases h:M5 d with
 |true=>exact .inl (IY h)
 |false=>exact .inr λi j e=>by subst e;cases h
def dJ:FS:=λls p4=>(∃i j:Int,ls=[.d (.tup [.int i,.int j])]/\p4 (.d (.bl true)) ls)∨∃d:D,ls=[.d d]/\(∀i j,d≠.tup [.int i,.int j])/\p4 (.d (.bl false)) ls
def cU:W Fl:=(cQ (ma (Ph (vo "tuple") (ak 0)) (ma (au lj (aR bJ (ar (ak 0) aJ)) (wC (.int 2))) (ma (ba fo (ar (au aM (ak 0) (wC (.int 0))) aJ)) (ba fo (ar (au aM (ak 0) (wC (.int 1))) aJ))))))
theorem mL:∀ls p4,ls.length=1->dJ ls p4->cU (ls++List.replicate 0 .un) (aO ls p4):=by
 rintro ls p4-(⟨i,j,rfl,h⟩|⟨d,rfl,hd,h⟩)
 . unfold cU;walk_at "w";refine .inl ⟨_,rfl,?_⟩;walk_at "w";refine .inl ⟨_,rfl,?_⟩;walk_at "w";exact⟨_,aj aX,h⟩
 .
  unfold cU;have Ov:aO [.d d] p4 (.rt (.d (.bl false))) [.d d]:=⟨_,aj aX,h⟩;by_cases ht:∃xs,d=.tup xs
  .
   obtain⟨xs,rfl⟩:=ht;by_cases hl:xs.length=2
   .
    obtain⟨x,y,rfl⟩:∃x y,xs=[x,y]:=by rcases xs with _|⟨x,_|⟨y,_|⟨z,r⟩⟩⟩<;>simp at hl;exact⟨_,_,rfl⟩
    have wh:∀z:D,(∃i,z=.int i)∨(∀i,z≠.int i):=λz=>by cases z<;>simp
    walk_at "w";rcases wh x with⟨i,rfl⟩|hx
    .
     refine .inl ⟨_,rfl,?_⟩;rcases wh y with⟨j,rfl⟩|hy
     . exact absurd rfl (hd i j)
     . walk_at "w";refine .inr ⟨_,rfl,hy,?_⟩;walk_at "w";exact Ov
    . refine .inr ⟨_,rfl,hx,?_⟩;walk_at "w";exact Ov
   .
    walk_at "w";have e:¬((xs.length:Int)=2):=by omega
    simp only[e,decide_false];exact Ov
  .
   have ei:nM "tuple" d=false:=by
    cases d<;>first
     |exact absurd ⟨_,rfl⟩ ht
     |rfl
   walk_at "w";rw[ei];walk_at "w";exact Ov
def cF:FS:=λls p4=>∃(d:D)(tag:Str)(n:Nat),ls=[.d d,.d (.str tag),.d (.int (n:Int))]/\1<=n/\PyData.strOk tag=true/\La d/\p4 (.d (.bl (CQ d tag n))) ls
def kx:W Fl:=(cQ (ma (Ph (vo "str") (au aM (ak 0) (wC (.int 0)))) (au lj (au aM (ak 0) (wC (.int 0))) (ak 1))))
def jq:W Fl:=(aT (Pi (Pf (LF (aZ (Ph (vo "tuple") (ak 0)))) (aZ (au yz (aR bJ (ar (ak 0) aJ)) (ak 2)))) (cQ (wC (.bl false))) c8)
  kx)
theorem rW:∀ls p4,ls.length=3->cF ls p4->jq (ls++List.replicate 0 .un) (aO ls p4):=by
 rintro ls p4 - ⟨d,tag,n,rfl,hn,ht,hd,h⟩;unfold jq;by_cases hu:∃xs,d=.tup xs
 .
  obtain⟨xs,rfl⟩:=hu;rw[CS]at h;walk_at "w";by_cases e:xs.length=n
  .
   rw[if_neg (by omega)];rw[decide_eq_true e,Bool.true_and]at h
   match xs,e,hd,h with
   |[],e,_,_=>rw[List.length_nil]at e;omega
   | x::r,e,hd,h =>
    unfold kx;by_cases hx:∃z,x=.str z
    . obtain⟨z,rfl⟩:=hx;have hz:=hd _ z rfl rfl;walk_at "w";exact⟨dh (n:=0) (by simpa[PJ]using hz) x_,dh (n:=0) (by simpa[PJ]using ht) x_,_,aj (aj (aj aX)),h⟩
    .
     have ei:nM "str" x=false:=by
      cases x<;>first
       |exact absurd ⟨_,rfl⟩ hx
       |rfl
     have et:Ma tag x=false:=by
      cases x<;>first
       |exact absurd ⟨_,rfl⟩ hx
       |rfl
     have h:p4 (.d (.bl (Ma tag x))) [.d (.tup (x::r)),.d (.str tag),.d (.int (n:Int))]:=h;rw[et]at h;walk_at "w";rw[ei];walk_at "w";exact⟨_,aj (aj (aj aX)),h⟩
  . rw[if_pos (by omega)];rw[decide_eq_false e,Bool.false_and]at h;exact⟨_,aj (aj (aj aX)),h⟩
 .
  have ei:nM "tuple" d=false:=by
   cases d<;>first
    |exact absurd ⟨_,rfl⟩ hu
    |rfl
  have et:CQ d tag n=false:=by
   cases d<;>first
    |exact absurd ⟨_,rfl⟩ hu
    |rfl
  rw[et]at h;walk_at "w";rw[ei];walk_at "w";exact⟨_,aj (aj (aj aX)),h⟩
def qH:FS:=λls p4=>∃t b:Int,ls=[.d (.int t),.d (.int b)]/\b≠0/\b.natAbs<2^9000/\p4 (.d (PH (Rat.divInt t b))) ls
def uy:W Fl:=(aT (bo 2 (bE (ba cw (ar (ak 0) (ar (ak 1) aJ)))))
  (aT (Pi (aZ (au yw (ak 1) (wC (.int 0)))) (bo 2 (Ph DP (ak 2))) c8)
  (cQ (ko (ar (au mi (ak 0) (ak 2)) (ar (au mi (ak 1) (ak 2)) aJ))))))
theorem AA:∀ls p4,ls.length=2->qH ls p4->uy (ls++List.replicate 1 .un) (aO ls p4):=by
 rintro ls p4 - ⟨t,b,rfl,hb,hz,h⟩;unfold uy;walk_at "w";refine⟨t,b,rfl,?_⟩;walk_at "w";have h1:=yG (t:=t) hb;have h2:=SO (yH (t:=t) hb) hz
 have Ov:∀{g:Int}{Z:Ev},g=cP t b->g≠0/\g.natAbs<2^9000/\g≠0/\g.natAbs<2^9000/\2<=sizeLine/\aO [.d (.int t),.d (.int b)] p4 (.rt (.d (.tup [.int (t.fdiv g),.int (b.fdiv g)]))) Z:=λ{g Z} e=>by
  have e1:g≠0:=by rw[e];exact h1
  have e2:g.natAbs<2^9000:=by rw[e];exact h2
  refine⟨e1,e2,e1,e2,x_,_,aj (aj aX),?_⟩;rw[yX hb e];exact h
 split
 . rename_i hlt;exact Ov (by simp[cP,hlt])
 . rename_i hlt;exact Ov (by simp[cP,hlt])
def uz:FS:=λls p4=>∃p q:Rat,ls=[.d (PH p),.d (PH q)]/\RB 4400 p/\RB 4400 q/\p4 (.d (PH (p*q))) ls
def ya:W Fl:=(cQ (ba qH (ar (bE (au bc (au aM (ak 0) (wC (.int 0))) (au aM (ak 1) (wC (.int 0))))) (ar (bE (au bc (au aM (ak 0) (wC (.int 1))) (au aM (ak 1) (wC (.int 1))))) aJ))))
theorem C1:∀ls p4,ls.length=2->uz ls p4->ya (ls++List.replicate 0 .un) (aO ls p4):=by
 rintro ls p4 - ⟨p,q,rfl,hp,hq,h⟩;unfold ya;walk_at "w";refine⟨hp.bn x_,hq.bn x_,hp.bd x_,hq.bd x_,_,_,rfl,B8 p q,?_,_,aj (aj aX),?_⟩
 . rw[yW];exact SD (a8 hp.2 hq.2) (SL x_ x_)
 . rw[Gj];exact h
def qI:FS:=λls p4=>∃(R:aV)(d:D),ls=[.d (aE R),.d d]/\p4 (.d (.bl (Jp R.n d))) ls
def uA:W Fl:=(cQ (ma (ba dJ (ar (ak 1) aJ)) (xh (wC (.int 0)) [(Dl,(au aM (ak 1) (wC (.int 0)))),(Dl,(au aM (ak 1) (wC (.int 1)))),(yw,(aR bJ (ar (au aM (ak 0) (wC (.int 0))) aJ)))])))
theorem AB:∀ls p4,ls.length=2->qI ls p4->uA (ls++List.replicate 0 .un) (aO ls p4):=by
 rintro ls p4 - ⟨R,d,rfl,h⟩;unfold uA;walk_at "w";rcases C0 d with⟨i,j,rfl⟩|hd
 .
  refine .inl ⟨i,j,rfl,?_⟩;walk_at "w";have Ov:∀b:Bool,b=Jp R.n (.tup [.int i,.int j])->aO [.d (aE R),.d (.tup [.int i,.int j])] p4 (.rt (.d (.bl b))) [.d (aE R),.d (.tup [.int i,.int j])]:=λb hb=>by subst hb;exact⟨_,aj (aj aX),h⟩
  have ec:Jp R.n (.tup [.int i,.int j])=decide (0<=i/\i<=j/\j<(R.n:Int)):=rfl;by_cases c1:0<=i<;>by_cases c2:i<=j<;>by_cases c3:j<(R.n:Int)<;>simp only[c1,c2,c3,if_true,if_false,decide_true,decide_false]<;>refine Ov _ ?_<;>rw[ec]<;>simp only[c1,c2,c3]<;>decide
 . refine .inr ⟨d,rfl,hd,?_⟩;walk_at "w";rw[IQ hd]at h;exact⟨_,aj (aj aX),h⟩
def fU:FS:=λls p4=>∃(c:Nat×Nat)(p:Nat),ls=[.d (iW c),.d (.int p)]/\p4 (.d (.bl (iX c p))) ls
def lN:W Fl:=(cQ (vD yw Dl (au aM (ak 0) (wC (.int 0))) (ak 1) (au aM (ak 0) (wC (.int 1)))))
theorem uB:∀ls p4,ls.length=2->fU ls p4->lN (ls++List.replicate 0 .un) (aO ls p4):=by
 rintro ls p4 - ⟨c,p,rfl,h⟩;unfold lN;walk_at "w";unfold iX at h;split
 .
  rename_i h1;refine⟨_,aj (aj aX),?_⟩;have e:decide ((p:Int)<=(c.2:Int))=decide (c.1<p/\p<=c.2):=by rw[decide_eq_decide];omega
  rw[e];exact h
 . rename_i h1;refine⟨_,aj (aj aX),?_⟩;rw[decide_eq_false (show ¬(c.1<p/\p<=c.2) by omega)]at h;exact h
def ft:FS:=λls p4=>∃(c:Nat×Nat)(i j:Nat),ls=[.d (iW c),.d (.int i),.d (.int j)]/\p4 (.d (.bl (apart c i j))) ls
def gm:W Fl:=(cQ (au yz (ba fU (ar (ak 0) (ar (ak 1) aJ))) (ba fU (ar (ak 0) (ar (ak 2) aJ)))))
theorem o8:∀ls p4,ls.length=3->ft ls p4->gm (ls++List.replicate 0 .un) (aO ls p4):=by
 rintro ls p4 - ⟨c,i,j,rfl,h⟩;unfold gm;walk_at "w";refine⟨c,i,rfl,?_⟩;walk_at "w";refine⟨c,j,rfl,?_⟩;walk_at "w";refine⟨_,aj (aj (aj aX)),?_⟩;have e:(!decide (iX c i=iX c j))=apart c i j:=by unfold apart;cases iX c i<;>cases iX c j<;>rfl
 rw[e];exact h
def eD:FS:=λls p4=>∃(qs:List Rat)(P:Nat),ls=[.d (.lst (qs.map PH))]/\(∀q∈qs,q.den∣P)/\0<P/\P<2^4400/\p4 (.d (.int (QF qs))) ls
def gO:W Fl:=(bo 1 (ba fm (ar (ak 1) (ar (au aM (ak 2) (wC (.int 1))) aJ))))
def fu:W Fl:=(aT (bo 1 (wC (.int 1)))
  (aT (tQ (rL (ak 0)) (aW 2) gO)
  (cQ (pT 1))))
theorem n5:∀ls p4,ls.length=1->eD ls p4->fu (ls++List.replicate 2 .un) (aO ls p4):=by
 rintro ls p4 - ⟨qs,P,rfl,hd,hP,hP2,h⟩;unfold fu;walk_at "w";refine j4 (enc:=PH) qs (λpre Z=>∃x2,Z=[.d (.lst (qs.map PH)),.d (.int (QF pre)),x2]) _ ⟨_,rfl⟩ ?_ ?_
 .
  rintro pre q suf Z hsp ⟨x2,rfl⟩ Q h1 h2 h3 h4;have hq:q.den∣P:=hd q (by rw[hsp];simp);have hc:QF pre∣P:=Fi λp hp=>hd p (by rw[hsp];simp[hp]);have e:QF (pre++[q])=Nat.lcm (QF pre) q.den:=by unfold QF;rw[List.foldl_append];rfl
  rw[e]at h1;unfold gO;walk_at "w";refine⟨QF pre,q.den,rfl,den_pos q,SO (Nat.le_of_dvd hP hc) hP2,SO (Nat.le_of_dvd hP hq) hP2,?_⟩;exact h1 _ ⟨_,rfl⟩
 . rintro Z ⟨x2,rfl⟩;walk_at "w";exact⟨_,aj aX,h⟩
def ig:FS:=λls p4=>∃(qs:List Rat)(u:Nat),ls=[.d (.lst (qs.map PH)),.d (.int u)]/\qs.length<=63/\(∀q∈qs,RB 4400 q)/\u<2^4400/\∀c,p4 (.own c (qs.map λq=>D.int (d9 u q))) ls
def oM:W L:=(au bc (au aM (ak 0) (wC (.int 0))) (au mi (ak 1) (au aM (ak 0) (wC (.int 1)))))
def n6:W Fl:=(cQ (d5 1 [1] (rL (ak 0)) (aW 0) eX oM))
theorem wd:∀ls p4,ls.length=2->ig ls p4->n6 (ls++List.replicate 0 .un) (aO ls p4):=by
 rintro ls p4 - ⟨qs,u,rfl,hl,hq,hu,h⟩;unfold n6;walk_at "w";refine⟨SJ hl x_,?_⟩;refine cD (h:=λq=>D.int (d9 u q)) _ _ _ (λq hm Q hQ=>?_) λl' c=>?_
 .
  unfold oM;walk_at "w";have hb:=hq q hm;have e:(u:Int).fdiv (q.den:Int)=((u / q.den:Nat):Int):=by rw[Int.fdiv_eq_ediv_of_nonneg _ xL,Int.natCast_ediv]
  rw[e];refine⟨qh q,?_,hb.bn x_,?_,hQ⟩
  . rw[Int.natAbs_natCast];exact SD hb.2 (SL x_ x_)
  . exact aF (n:=4400) (by rw[Int.natAbs_natCast];exact SO (Nat.div_le_self _ _) hu) x_
 . walk_at "w";exact⟨_,aj (aj aX),h c⟩
def n8:FS:=λls p4=>∃(R:aV)(q:Rat),ls=[.d (aE R),.d (PH q)]/\R.Ok/\RB 1750 q/\p4 (.d (.tup [.int (bH R q),.lst (ff R.asks.length (wI R q)),.lst (ff R.n (QH R q))])) ls
def qJ:W L:=(ba uz (ar (ak 1) (ar (ak 0) aJ)))
def qK:W L:=(au aM (ak 0) (wC (.int 3)))
def qL:W Fl:=(aT (bo 2 (d5 1 [] (rL (au aM (ak 0) (wC (.int 1)))) (aW 0) eX qK))
  (aT (bo 3 (d5 1 [1] (rL (au aM (ak 0) (wC (.int 0)))) (aW 0) eX qJ))
  (aT (bo 4 (bE (au bc (wC (.int 2)) (ba eD (ar (bE (au b7 (ak 2) (ak 3))) aJ)))))
  (cQ (ko (ar (ak 4) (ar (bE (ba ig (ar (ak 2) (ar (ak 4) aJ)))) (ar (bE (ba ig (ar (ak 3) (ar (ak 4) aJ)))) aJ))))))))
theorem yb:∀ls p4,ls.length=2->n8 ls p4->qL (ls++List.replicate 3 .un) (aO ls p4):=by
 rintro ls p4 - ⟨R,q,rfl,hR,hq,h⟩;have hfew:=hR.few;have hhi:=hR.hi;unfold qL;walk_at "w";refine⟨SJ hfew x_,?_⟩;refine cD (h:=λa=>PH a.size) _ _ _ (λa hm Q hQ=>?_) λl' c1=>?_
 . unfold qK;walk_at "w";exact hQ
 walk_at "w";refine⟨SJ hhi x_,?_⟩;refine cD (h:=λr=>PH (q*r)) _ _ _ (λr hm Q hQ=>?_) λl' c2=>?_
 . unfold qJ;walk_at "w";refine⟨_,_,rfl,hq.mono x_,(hR.room r hm).2.mono x_,?_⟩;walk_at "w";exact hQ
 obtain⟨u0,u1⟩:=zp hR hq;have e1:R.asks.map (λa=>PH a.size)=(kr R).map PH:=by unfold kr;rw[List.map_map];rfl
 have e2:R.rooms.map (λr=>PH (q*r))=(rQ R q).map PH:=by unfold rQ;rw[List.map_map];rfl
 rw[e1,e2];walk_at "w";rw[<- List.map_append];have ls1:(kr R).length<=20:=by unfold kr;rw[SH];exact hfew
 have ls2:(rQ R q).length<=12:=by unfold rQ;rw[SH];exact hhi
 have c0:=zm R q;have c1':QG R q<2^3750:=SO (show QG R q<=bH R q by unfold bH;omega) u1;refine⟨SJ (show _<=32 by omega) x_,λ_=>⟨_,QG R q,rfl,λp hp=>vX hp,c0,SD c1' (SL x_ x_),?_⟩⟩;walk_at "w";have eu:(2:Int)*((QF (kr R++rQ R q):Nat):Int)=((bH R q:Nat):Int):=by show(2:Int)*((QG R q:Nat):Int)=((2*QG R q:Nat):Int);omega
 rw[eu];have u2:bH R q<2^4400:=SD u1 (SL x_ x_);refine⟨bA x_,aF (n:=3750) (by rw[Int.natAbs_natCast];exact c1') x_,?_⟩;refine⟨kr R,bH R q,rfl,xL,λp hp=>?_,u2,λc3=>?_⟩
 . obtain⟨a,ha,rfl⟩:=List.mem_map.mp hp;exact(hR.rb ha).mono x_
 walk_at "w";refine⟨rQ R q,bH R q,rfl,xL,λp hp=>?_,u2,λc4=>?_⟩
 . obtain⟨r,hr,rfl⟩:=List.mem_map.mp hp;exact(hq.mul (hR.room r hr).2).mono x_
 walk_at "w";rw[K5,K6];exact⟨x_,_,aj (aj aX),h⟩
def jr:FS:=λls p4=>∃w:Bool,ls=[.d (.str (d8 w))]/\p4 (.d (.str (d8 !w))) ls
def lO:W Fl:=(cQ (J5 (aZ (au lj (ak 0) (wC (.str "on")))) (wC (.str "back")) (wC (.str "on"))))
theorem uC:∀ls p4,ls.length=1->jr ls p4->lO (ls++List.replicate 0 .un) (aO ls p4):=by
 rintro ls p4 - ⟨w,rfl,h⟩;unfold lO;walk_at "w";cases w
 . exact⟨_,aj aX,h⟩
 . exact⟨_,aj aX,h⟩
def n9:FS:=λls p4=>∃(R:aV)(k:Nat)(w:Bool)(t:Nat)(hk:k<R.asks.length),ls=[.d (aE R),.d (.int k),.d (.str (d8 w)),.d (.int t)]/\R.Ok/\t<R.n/\p4 (.d (.bl (lu R.n R.asks[k] t == w))) ls
def qM:W Fl:=(cQ (au lj (ak 7) (au lj (ak 2) (wC (.str "on")))))
def qN:W Fl:=(aT (bo 7 (au yw (au fK (au nL (ak 3) (ak 5)) (ak 4)) (au fK (au nL (ak 6) (ak 5)) (ak 4))))
  qM)
def qO:W Fl:=(aT (bo 6 (au aM (au aM (au aM (ak 0) (wC (.int 1))) (ak 1)) (wC (.int 2))))
  qN)
def qP:W Fl:=(aT (bo 5 (au aM (au aM (au aM (ak 0) (wC (.int 1))) (ak 1)) (wC (.int 1))))
  qO)
def qQ:W Fl:=(aT (bo 4 (bE (aR bJ (ar (au aM (ak 0) (wC (.int 0))) aJ))))
  qP)
theorem yc:∀ls p4,ls.length=4->n9 ls p4->qQ (ls++List.replicate 4 .un) (aO ls p4):=by
 rintro ls p4 - ⟨R,k,w,t,hk,rfl,hR,ht,h⟩;have ha:=hR.ask _ (List.getElem_mem hk);have h1:=ha.one;have h2:=ha.other;unfold qQ;walk_at "w";unfold qP;walk_at "w";refine⟨_,bN hk,?_⟩;walk_at "w";unfold qO;walk_at "w";refine⟨_,bN hk,?_⟩;walk_at "w";unfold qN;walk_at "w";rw[Cr h1 h2,Cr h1 ht];refine⟨xL,xL,?_⟩;unfold qM;walk_at "w";refine⟨_,aj (aj (aj (aj aX))),?_⟩
 have e:decide (decide ((((t+R.n-R.asks[k].one) % R.n:Nat):Int)<(((R.asks[k].other+R.n-R.asks[k].one) % R.n:Nat):Int))=decide (w=true))=(lu R.n R.asks[k] t == w):=by
  have e1:decide ((((t+R.n-R.asks[k].one) % R.n:Nat):Int)<(((R.asks[k].other+R.n-R.asks[k].one) % R.n:Nat):Int))=lu R.n R.asks[k] t:=by unfold lu Qz;rw[decide_eq_decide];omega
  rw[e1];cases lu R.n R.asks[k] t<;>cases w<;>rfl
 rw[e];exact h
def jt:FS:=λls p4=>∃(el ws:List (Option Bool)),ls=[.d (QJ el),.d (QJ ws)]/\ws.length<=99/\∀a,p4 (.own a ((ef el ws).map λ(k:Nat)=>D.int (k:Int))) ls
def mM:W L:=(ak 0)
def lP:W Fl:=(aT (bo 2 (bE (HF (ar (ak 0) (ar (ak 1) aJ)))))
  (cQ (d5 2 [] (D9 (ak 2)) (kg [0,1]) (DO (aZ (au vC (au aM (ak 1) (wC (.int 0))) (wC .non))) (aZ (au lj (au aM (ak 1) (wC (.int 1))) (ba jr (ar (au aM (ak 1) (wC (.int 0))) aJ))))) mM)))
theorem I0(l:List ((Option Bool×Option Bool)×Nat)):(l.filterMap λx=>if dA x.1=true then some (D.int (x.2:Int))else none)=((l.filter λx=>dA x.1).map (·.2)).map λ(k:Nat)=>D.int (k:Int):=by
 induction l with
 |nil=>rfl
 | cons x l ih =>
  rw[List.filterMap_cons,List.filter_cons];cases e:dA x.1
  . simpa[e]using ih
  . simpa[e]using ih
theorem FJ(el ws:List (Option Bool)):nP (Dn (el.map oG) (ws.map oG))=(el.zip ws).zipIdx.map λx=>D.tup [D.int (x.2:Int),D.tup [oG x.1.1,oG x.1.2]]:=by unfold nP Dn;rw[List.zip_map,List.map_map];refine List.ext_getElem v6 λj h1 h2=>?_;simp
theorem uD:∀ls p4,ls.length=2->jt ls p4->lP (ls++List.replicate 1 .un) (aO ls p4):=by
 rintro ls p4 - ⟨el,ws,rfl,hl,h⟩;unfold lP QJ;walk_at "w";have zl:(Dn (el.map oG) (ws.map oG)).length<=99:=by simp[Dn];omega
 refine⟨SJ zl x_,λ_=>?_⟩;rw[FJ];refine⟨by rw[SH,List.length_zipIdx,List.length_zip];exact SJ (show min el.length ws.length<=99 by omega) x_,?_⟩
 refine j5 (e1:=λx=>D.int (x.2:Int)) (e2:=λx=>D.tup [oG x.1.1,oG x.1.2]) (h:=λx=>if dA x.1=true then some (D.int (x.2:Int))else none) ((el.zip ws).zipIdx) _ _ _ (λx hx Q hQ=>?_) λl m=>?_
 .
  obtain⟨⟨o,p⟩,k⟩:=x;unfold mM
  cases o with
  | none =>
   have o1:oG none=.non:=rfl;simp only[o1]at hQ ⊢;walk_at "w";exact hQ
  | some b =>
   have o2:oG (some b)=.str (d8 b):=rfl;simp only[o2]at hQ ⊢;walk_at "w";refine⟨b,rfl,?_⟩;walk_at "w";refine⟨sU p,?_⟩;rw[xJ];have e:dA (some b,p)=(p == some !b):=rfl;rw[e]at hQ;cases hp:(p == some !b)
   . rw[hp]at hQ;simpa using hQ
   . rw[hp]at hQ;simpa using hQ
 . intro a;rw[List.nil_append,I0];exact⟨_,aj (aj aX),h a⟩
def gn:FS:=λls p4=>∃(w:j8)(x y:Int),ls=[.d (aP w),.d (.int x),.d (.int y)]/\p4 (.d (.bl (dD w.strict x y))) ls
def ij:W Fl:=(cQ (J3 (au AI (ak 1) (ak 2)) (ma (au aM (ak 0) (wC (.int 1))) (au lj (ak 1) (ak 2)))))
theorem qR:∀ls p4,ls.length=3->gn ls p4->ij (ls++List.replicate 0 .un) (aO ls p4):=by
 rintro ls p4 - ⟨w,x,y,rfl,h⟩;unfold ij;unfold dD at h;simp only[aP]at h ⊢;walk_at "w";by_cases c:y<x
 . rw[if_pos c];rw[decide_eq_true c,Bool.true_or]at h;exact⟨_,aj (aj (aj aX)),h⟩
 .
  rw[if_neg c];rw[decide_eq_false c,Bool.false_or]at h;cases e:w.strict
  . rw[e]at h;simp only[Bool.false_eq_true,if_false];exact⟨_,aj (aj (aj aX)),h⟩
  . rw[e]at h;simp only[if_true];exact⟨_,aj (aj (aj aX)),h⟩
def fv:FS:=λls p4=>∃(w:j8)(ws:List (Option Bool)),ls=[.d (aP w),.d (QJ ws)]/\ws.length<=99/\p4 (.d (.bl (decide (w.most<(ef w.elder ws).length)))) ls
def gp:W Fl:=(cQ (au AI (aR bJ (ar (bE (ba jt (ar (au aM (ak 0) (wC (.int 2))) (ar (ak 1) aJ)))) aJ)) (au aM (ak 0) (wC (.int 3)))))
theorem o9:∀ls p4,ls.length=2->fv ls p4->gp (ls++List.replicate 0 .un) (aO ls p4):=by
 rintro ls p4 - ⟨w,ws,rfl,hl,h⟩;unfold gp;simp only[aP]at h ⊢;walk_at "w";refine⟨w.elder,ws,rfl,hl,λa=>?_⟩;walk_at "w";refine⟨_,aj (aj aX),?_⟩;have e:decide (((w.most:Nat):Int)<((ef w.elder ws).length:Int))=decide (w.most<(ef w.elder ws).length):=by rw[decide_eq_decide];omega
 rw[e];exact h
def ik:FS:=λls p4=>∃(T:Tr),ls=[.d (QL T)]/\p4 (.d (.bl (T.kind == 2))) ls
def oa:W Fl:=(cQ (ba cF (ar (ak 0) (ar (wC (.str "split")) (ar (wC (.int 4)) aJ)))))
theorem pL(T:Tr)(k:Nat)(hk:k<=2){p4:L->List L->Prop}(h:p4 (.d (.bl (T.kind == k))) [.d (QL T),.d (.str (LX k)),.d (.int (LY k:Int))]):cF [.d (QL T),.d (.str (LX k)),.d (.int (LY k:Int))] p4:=by
 have ht:La (QL T):=λxs x e e0=>by cases T<;>(unfold QL at e;cases e;cases e0;decide +kernel)
 have e:CQ (QL T) (LX k) (LY k)=(T.kind == k):=by
  obtain rfl|rfl|rfl:k=0∨k=1∨k=2:=by omega
  all_goals cases T<;>(unfold QL;rfl)
 refine⟨QL T,LX k,LY k,rfl,?_,?_,ht,?_⟩
 .
  obtain rfl|rfl|rfl:k=0∨k=1∨k=2:=by omega
  all_goals decide
 .
  obtain rfl|rfl|rfl:k=0∨k=1∨k=2:=by omega
  all_goals decide +kernel
 . rw[e];exact h
theorem we:∀ls p4,ls.length=1->ik ls p4->oa (ls++List.replicate 0 .un) (aO ls p4):=by rintro ls p4 - ⟨T,rfl,h⟩;unfold oa;walk_at "w";exact pL T 2 x_ ⟨_,aj aX,h⟩
def ip:FS:=λls p4=>∃(R:aV)(k:Nat)(o:Option Bool)(c:Nat×Nat),ls=[.d (aE R),.d (.int (k:Int)),.d (oG o),.d (iW c)]/\R.Ok/\k<R.asks.length/\lx R.n c/\p4 (.d (.int (IP R o c k))) ls
def ky:W L:=(ak 0)
def ju:W Fl:=(aT (Pi (aZ (au By (ak 2) (wC .non))) (cQ (J5 (aZ (ba ft (ar (ak 3) (ar (au aM (au aM (au aM (ak 0) (wC (.int 1))) (ak 1)) (wC (.int 1))) (ar (au aM (au aM (au aM (ak 0) (wC (.int 1))) (ak 1)) (wC (.int 2))) aJ))))) (wC (.int 1)) (wC (.int 0)))) c8)
  (cQ (aR bJ (ar (bE (d5 1 [0,1,2] (rL (ak 3)) (aW 0) (aZ (ba n9 (ar (ak 1) (ar (ak 2) (ar (ak 3) (ar (ak 0) aJ)))))) ky)) aJ))))
theorem rX:∀ls p4,ls.length=4->ip ls p4->ju (ls++List.replicate 0 .un) (aO ls p4):=by
 rintro ls p4 - ⟨R,k,o,c,rfl,hR,hk,hc,h⟩;unfold ju
 cases o with
 | none =>
  unfold oG at *;walk_at "w";refine⟨_,bN hk,?_⟩;walk_at "w";refine⟨_,bN hk,?_⟩;walk_at "w";refine⟨c,_,_,rfl,?_⟩;unfold IP at h;rw[fP hk]at h;dsimp only at h;cases e:apart c R.asks[k].one R.asks[k].other
  . rw[e]at h;walk_at "w";exact⟨_,aj (aj (aj (aj aX))),h⟩
  . rw[e]at h;walk_at "w";exact⟨_,aj (aj (aj (aj aX))),h⟩
 | some b =>
  have t1:c.1<R.n:=by have:=hc.1;have:=hc.2;omega
  have t2:c.2<R.n:=hc.2;unfold oG at *;walk_at "w";show((_:List D).length<=sizeLine/\_)
  refine⟨by simp;decide,d7 (enc:=λ(t:Nat)=>D.int (t:Int)) (h:=λt=>if(QA R k t == b)=true then some (D.int (t:Int))else none) [c.1,c.2] _ _ (λt ht Q hQ=>?_) λl a=>?_⟩
  .
   have ht':t<R.n:=by
    rcases SK.mp ht with rfl|ht
    . exact t1
    . simp at ht;subst ht;exact t2
   walk_at "w";refine⟨R,k,b,t,hk,rfl,hR,ht',?_⟩;have e:QA R k t=lu R.n R.asks[k] t:=by unfold QA;rw[fP hk]
   rw[e]at hQ;walk_at "w";cases eb:(lu R.n R.asks[k] t == b)
   . rw[eb]at hQ;exact hQ
   . rw[eb]at hQ;unfold ky;walk_at "w";exact hQ
  .
   walk_at "w"
   have e:(([c.1,c.2].filterMap λt=>if(QA R k t == b)=true then some (D.int (t:Int))else none).length:Int)=IP R (some b) c k:=by unfold IP;cases e1:(QA R k c.1 == b)<;>cases e2:(QA R k c.2 == b)<;>simp only[List.filterMap_cons,List.filterMap_nil,e1,e2,if_true,Bool.false_eq_true,if_false]<;>rfl
   rw[e];exact⟨_,aj (aj (aj (aj aX))),h⟩
def gq:FS:=λls p4=>∃(R:aV)(w:j8)(u:Int)(fx:List (Option Bool))(c:Nat×Nat),ls=[.d (aE R),.d (aP w),.d (.tup [.int u,.lst (ff R.asks.length (wI R w.top)),.lst (ff R.n (QH R w.top))]),.d (QJ fx),.d (iW c)]/\R.Ok/\RB 1750 w.top/\fx.length=R.asks.length/\lx R.n c/\p4 (.d (.bl (dD w.strict (qr R w.top fx c) (QH R w.top c.1+QH R w.top c.2)))) ls
def jv:W L:=(au bc (ak 1) (ba ip (ar (ak 2) (ar (ak 0) (ar (au aM (ak 3) (ak 0)) (ar (ak 4) aJ))))))
def iq:W Fl:=(aT (bo 5 (au aM (ak 2) (wC (.int 2))))
  (aT (bo 6 (bE (aR Ks (ar (bE (d5 2 [0,3,4] (D9 (au aM (ak 2) (wC (.int 1)))) (kg [0,1]) eX jv)) aJ))))
  (cQ (ba gn (ar (ak 1) (ar (ak 6) (ar (bE (au b7 (au aM (ak 5) (au aM (ak 4) (wC (.int 0)))) (au aM (ak 5) (au aM (ak 4) (wC (.int 1)))))) aJ)))))))
theorem qS:∀ls p4,ls.length=5->gq ls p4->iq (ls++List.replicate 2 .un) (aO ls p4):=by
 rintro ls p4 - ⟨R,w,u,fx,c,rfl,hR,hq,hf,hc,h⟩;have few:=hR.few;have t1:c.1<R.n:=by have:=hc.1;have:=hc.2;omega
 have t2:c.2<R.n:=hc.2;unfold iq;walk_at "w";rw[CP];refine⟨by rw[SH,List.length_range];exact SJ few x_,B7 (e1:=λ(t:Nat)=>D.int (t:Int)) (e2:=λt=>D.int (wI R w.top t)) (h:=λt=>D.int (wI R w.top t*QM R fx c t)) (List.range R.asks.length) _ _ _ (λt ht Q hQ=>?_) λl m c2=>?_⟩
 . have ht:=List.mem_range.mp ht;unfold jv QJ;walk_at "w";refine⟨_,Fz xL,?_⟩;refine⟨R,t,_,c,rfl,hR,ht,hc,?_⟩;rw[K9]at hQ;walk_at "w";exact⟨aF (MT hR hq ht) x_,aF (Fy R _ c t) x_,hQ⟩
 rw[List.nil_append];walk_at "w";refine⟨(List.range R.asks.length).map λt=>wI R w.top t*QM R fx c t,by rw[List.map_map];rfl,?_⟩;rw[CO];walk_at "w";refine⟨_,qp t1,_,qp t2,?_⟩;refine⟨w,_,_,rfl,?_⟩;exact⟨_,aj (aj (aj (aj (aj aX)))),h⟩
noncomputable def qT(R:aV)(w:j8)(fx:List (Option Bool)):Tr->Bool
 |.turned=>decide (w.most<(ef w.elder fx).length)
 |.cut c=>dD w.strict (qr R w.top fx c) (QH R w.top c.1+QH R w.top c.2)
 |.split k _ _=>(fx.getD k none).isNone
def jw:FS:=λls p4=>∃(R:aV)(w:j8)(u:Int)(fx:List (Option Bool))(T:Tr),ls=[.d (aE R),.d (aP w),.d (.tup [.int u,.lst (ff R.asks.length (wI R w.top)),.lst (ff R.n (QH R w.top))]),.d (QJ fx),.d (QL T)]/\R.Ok/\RB 1750 w.top/\fx.length=R.asks.length/\QS R T/\p4 (.d (.bl (qT R w fx T))) ls
def lQ:W Fl:=(aT (Pi (aZ (ba cF (ar (ak 4) (ar (wC (.str "turned")) (ar (wC (.int 1)) aJ))))) (cQ (ba fv (ar (ak 1) (ar (ak 3) aJ)))) c8)
  (aT (Pi (aZ (ba cF (ar (ak 4) (ar (wC (.str "cut")) (ar (wC (.int 3)) aJ))))) (cQ (ma (ba qI (ar (ak 0) (ar (bE (Jl (ak 4) (some (wC (.int 1))) none)) aJ))) (ba gq (ar (ak 0) (ar (ak 1) (ar (ak 2) (ar (ak 3) (ar (bE (Jl (ak 4) (some (wC (.int 1))) none)) aJ)))))))) c8)
  (cQ (ma (ba ik (ar (ak 4) aJ)) (ma (ba dj (ar (au aM (ak 4) (wC (.int 1))) (ar (bE (aR bJ (ar (ak 3) aJ))) aJ))) (au By (au aM (ak 3) (au aM (ak 4) (wC (.int 1)))) (wC .non)))))))
theorem uE:∀ls p4,ls.length=5->jw ls p4->lQ (ls++List.replicate 0 .un) (aO ls p4):=by
 rintro ls p4 - ⟨R,w,u,fx,T,rfl,hR,hq,hf,ht,h⟩;have few:=hR.few;unfold lQ;walk_at "w";refine pL T 0 x_ ?_
 cases T with
 | turned =>
  walk_at "w";rw[if_pos (show(Tr.turned.kind == 0)=true from rfl)];refine⟨w,fx,rfl,xL,?_⟩;exact⟨_,aj (aj (aj (aj (aj aX)))),h⟩
 | cut c =>
  walk_at "w";rw[if_neg (show ¬((Tr.cut c).kind == 0)=true from by simp[Tr.kind])];refine pL (.cut c) 1 x_ ?_;walk_at "w";rw[if_pos (show((Tr.cut c).kind == 1)=true from rfl)];have ec:Hc [D.str "cut",.int (c.1:Int),.int (c.2:Int)] (some 1) none=[.int (c.1:Int),.int (c.2:Int)]:=rfl;have eb:Jp R.n (iW c)=true:=decide_eq_true ⟨xL,by have:=ht.1;omega,by have:=ht.2;omega⟩;have ne:¬(HT.sIx 3 0 (some 1)=0/\HT.sIx 3 3 none=3):=by decide
  unfold QL at h ⊢;walk_at "w";rw[ec];refine⟨ne,R,iW c,rfl,?_⟩;rw[eb];walk_at "w";refine⟨ne,R,w,u,fx,c,rfl,hR,hq,hf,ht,?_⟩;exact⟨_,aj (aj (aj (aj (aj aX)))),h⟩
 | split k a b =>
  have hk:k<fx.length:=by have:=ht.1;omega
  walk_at "w";rw[if_neg (show ¬((Tr.split k a b).kind == 0)=true from by simp[Tr.kind])];refine pL (.split k a b) 1 x_ ?_;walk_at "w";rw[if_neg (show ¬((Tr.split k a b).kind == 1)=true from by simp[Tr.kind])];refine⟨.split k a b,rfl,?_⟩;walk_at "w";rw[if_pos (show((Tr.split k a b).kind == 2)=true from rfl)];unfold QL QJ at h ⊢;walk_at "w";refine⟨_,_,rfl,?_⟩;rw[show FD (.int (k:Int)) (fx.length:Int)=true from decide_eq_true (show 0<=(k:Int)/\(k:Int)<(fx.length:Int) by omega)];walk_at "w";refine⟨_,Fz hk,?_⟩;have hs:qT R w fx (.split k a b)=(fx.getD k none).isNone:=rfl;rw[hs]at h
  cases hn:fx.getD k none with
  | none =>
   rw[hn]at h;exact⟨_,aj (aj (aj (aj (aj aX)))),h⟩
  | some b' =>
   rw[hn]at h;exact⟨_,aj (aj (aj (aj (aj aX)))),h⟩
def fV:FS:=λls p4=>∃(k:Nat)(a b:Tr)(fx:List (Option Bool))(ws:List Bool)(d:Bool),ls=[.d (o5 ⟨.split k a b,fx,ws⟩),.d (.str (d8 d))]/\k<fx.length/\fx.length<=20/\ws.length<=300/\p4 (.d (o5 ⟨if d then a else b,fx.set k (some d),ws++[d]⟩)) ls
def lR:W Fl:=(aT (bo 2 (au aM (ak 0) (wC (.int 0))))
  (aT (bo 3 (aR yA (ar (au aM (ak 0) (wC (.int 1))) aJ)))
  (aT (xa 3 (au aM (ak 2) (wC (.int 1))) (ak 1))
  (cQ (ko (ar (J5 (aZ (au lj (ak 1) (wC (.str "on")))) (au aM (ak 2) (wC (.int 2))) (au aM (ak 2) (wC (.int 3)))) (ar (ak 3) (ar (bE (au b7 (au aM (ak 0) (wC (.int 2))) (l6 (ar (ak 1) aJ)))) aJ))))))))
theorem uF:∀ls p4,ls.length=2->fV ls p4->lR (ls++List.replicate 2 .un) (aO ls p4):=by
 rintro ls p4 - ⟨k,a,b,fx,ws,d,rfl,hk,hx,hw,h⟩;unfold lR o5 QL QJ iV;walk_at "w";have ix:OU fx.length (k:Int)=some k:=by have:=CI (n:=fx.length) (f:=λ_=>0) hk;rwa [mF]at this
 have e1:(fx.map oG).set k (.str (d8 d))=(fx.set k (some d)).map oG:=by rw[List.map_set];rfl
 have e2:(ws.map λw=>D.str (d8 w))++[.str (d8 d)]=(ws++[d]).map λw=>D.str (d8 w):=by rw[List.map_append];rfl
 refine λa1=>⟨k,ix,?_⟩;rw[e1,e2];cases d
 all_goals
  simp only[if_true,Bool.false_eq_true,if_false]at h ⊢;exact⟨x_,λa2=>⟨SJ (show ws.length+1<=301 by omega) x_,λa3=>⟨x_,_,aj (aj aX),h⟩⟩⟩
def fw:Qh:=λds p4 xp=>∃(R:aV)(w:j8)(T:Tr),ds=[aE R,aP w,QL T]/\R.Ok/\RB 1750 w.top/\QS R T/\T.size<=300/\(T.Ok R w (List.replicate R.asks.length none)->p4 (.d .non))/\(¬ T.Ok R w (List.replicate R.asks.length none)->∀ ws:List D,xp ⟨"NoTree",["way"],[.lst ws]⟩)
def fz(xp:Xc->Prop):W Fl:=(Pi (aZ (ba ik (ar (au aM (ak 6) (wC (.int 0))) aJ))) (aT (nJ (Br 4 (ba fV (ar (ak 6) (ar (wC (.str "back")) aJ)))))
  (nJ (Br 4 (ba fV (ar (ak 6) (ar (wC (.str "on")) aJ)))))) c8)
def fA(xp:Xc->Prop):W Fl:=(aT (Pi (Pf (aZ (au AI (ak 5) (wC (.int 300)))) (LF (aZ (ba jw (ar (ak 0) (ar (ak 1) (ar (ak 3) (ar (au aM (ak 6) (wC (.int 1))) (ar (au aM (ak 6) (wC (.int 0))) aJ))))))))) (xr "NoTree" "way" xp (ar (au aM (ak 6) (wC (.int 2))) aJ)) c8)
  (fz xp))
def fB(xp:Xc->Prop):W Fl:=(aT (Mv 5 (λi j=>i+j) (wC (.int 1)))
  (fA xp))
def eE(xp:Xc->Prop):W Fl:=(aT (bo 6 (bE (Mr 4)))
  (fB xp))
def iR(xp:Xc->Prop):W L:=(wC .non)
def gu(xp:Xc->Prop):W Fl:=(aT (bo 3 (bE (ba n8 (ar (ak 0) (ar (au aM (ak 1) (wC (.int 0))) aJ)))))
  (aT (bo 4 (l6 (ar (ko (ar (ak 2) (ar (bE (d5 1 [] (rL (au aM (ak 0) (wC (.int 1)))) (aW 0) eX (iR xp))) (ar (bE (l6 aJ)) aJ)))) aJ)))
  (aT (bo 5 (wC (.int 0)))
  (mf (Mw 4) (eE xp)))))
theorem FK(as:List Qw):(as.map λ_=>D.non)=(List.replicate as.length none).map oG:=by rw[List.map_replicate];exact List.map_const' ..
theorem ir(xs:List Gq)(x:Gq):qu (xs++[x])=qu xs+x.tr.size:=by simp[qu]
theorem zx:∀xs:List Gq,xs.length<=qu xs
 |[]=>Nat.zero_le _
 | x::xs=>by
  have h1:=zx xs;have h2:=x.tr.size_pos;have e:qu (x::xs)=x.tr.size+qu xs:=by simp[qu]
  rw[List.length_cons,e];omega
theorem FL{R:aV}{w:j8}{fx:List (Option Bool)}{T:Tr}(hw:QS R T)(hf:fx.length=R.asks.length)(h:T.Ok R w fx):qT R w fx T=true:=by
 cases T with
 |turned=>exact decide_eq_true h
 |cut c=>exact h.2
 | split k a b =>
  show(fx.getD k none).isNone=true;rw[h.2.1];rfl
theorem uG{R:aV}{w:j8}{ys:List Gq}{x:Gq}:(∀y∈ys++[x],y.tr.Ok R w y.fixed)↔(∀y∈ys,y.tr.Ok R w y.fixed)/\x.tr.Ok R w x.fixed:=by
 constructor
 . intro h;exact⟨λy hy=>h y (List.mem_append_left _ hy),h x v6⟩
 .
  rintro⟨h1,h2⟩ y hy;rcases List.mem_append.mp hy with hy|hy
  . exact h1 y hy
  . rw[List.mem_singleton.mp hy];exact h2
theorem Ja{R:aV}{w:j8}(hR:R.Ok)(hq:RB 1750 w.top){tr:Tr}{fx:List (Option Bool)}{vs:List Bool}{ds:List D}{m:Nat}{u:Int}{sc:D}{x2 x6:L}{c:Addr}(hsc:sc=.tup [.int u,.lst (ff R.asks.length (wI R w.top)),.lst (ff R.n (QH R w.top))])(xo:QS R tr)(xf:fx.length=R.asks.length)(hm:m<300)(xw:vs.length<=m)(hd:ds.length<=300){xp:Xc->Prop}{Q:Fl->Ev->Prop}
  (h0:qT R w fx tr=false->∀ ws:List D,xp ⟨"NoTree",["way"],[.lst ws]⟩)
  (h1:qT R w fx tr=true->tr.kind≠2->Q .nx [.d (aE R),.d (aP w),x2,.d sc,.own c ds,.d (.int ((m:Int)+1)),.d (o5 ⟨tr,fx,vs⟩)])
  (h2:∀k p q,qT R w fx tr=true->tr=.split k p q->Q .nx [.d (aE R),.d (aP w),x2,.d sc,.own c (ds++[o5 ⟨q,fx.set k (some false),vs++[false]⟩]++[o5 ⟨p,fx.set k (some true),vs++[true]⟩]),.d (.int ((m:Int)+1)),.d (o5 ⟨tr,fx,vs⟩)]) :
  eE xp [.d (aE R),.d (aP w),x2,.d sc,.own c (ds++[o5 ⟨tr,fx,vs⟩]),.d (.int (m:Int)),x6] Q:=by
 have few:=hR.few;have big:(600:Nat)<sizeLine:=by decide
 unfold eE;walk_at "w";refine⟨o5 ⟨tr,fx,vs⟩,v6,?_⟩;rw[List.dropLast_concat];unfold fB Mv;walk_at "w";rw[Ej];unfold fA;walk_at "w";rw[if_neg (by omega)];rw[show o5 ⟨tr,fx,vs⟩=.tup [QL tr,QJ fx,iV vs]from rfl]at h1 h2 ⊢;walk_at "w";refine⟨R,w,_,fx,tr,by rw[hsc],hR,hq,xf,xo,?_⟩;walk_at "w"
 cases hst:qT R w fx tr with
 | false =>
  walk_at "w";exact⟨_,rfl,h0 hst _⟩
 |true =>
 walk_at "w";unfold fz;walk_at "w";refine⟨tr,rfl,?_⟩;walk_at "w";by_cases hk:tr.kind=2
 .
  obtain⟨k,p,q,rfl⟩:∃k p q,tr=.split k p q:=by
   cases tr with
   |turned=>cases hk
   |cut d=>cases hk
   |split k p q=>exact⟨k,p,q,rfl⟩
  obtain⟨kl0,po,qo⟩:=xo;have kl:k<fx.length:=by omega
  rw[if_pos (by rfl)];refine⟨k,p,q,fx,vs,false,rfl,kl,xL,xL,?_⟩;walk_at "w";refine⟨xL,k,p,q,fx,vs,true,rfl,kl,xL,xL,?_⟩;simp only[if_true,Bool.false_eq_true,if_false,List.length_append,List.length_cons,List.length_nil];exact⟨xL,h2 k p q hst rfl⟩
 . rw[if_neg (by simpa using hk)];exact h1 hst hk
theorem pf:∀ds p4 xp,ds.length=3->fw ds p4 xp->gu xp (ds.map .d++List.replicate 4 .un) (Qj p4):=by
 rintro ds p4 xp - ⟨R,w,T,rfl,hR,hq,ht,hs,h,hx⟩;have few:=hR.few;unfold gu;rw[show aP w=.tup [PH w.top,.bl w.strict,QJ w.elder,.int (w.most:Int)]from rfl];walk_at "w";refine⟨R,w.top,rfl,hR,hq,?_⟩;walk_at "w";refine⟨SJ few x_,cD (enc:=rG) (h:=λ_=>D.non) R.asks _ _ (λa ha Q hQ=>?_) λl c=>?_⟩
 . unfold iR;walk_at "w";exact hQ
 rw[List.nil_append,FK];walk_at "w";refine⟨x_,λ_=>⟨x_,x_,λa=>?_⟩⟩;refine⟨λn Z=>∃(c:Addr)(xs:List Gq)(m:Nat)(x6:L),Z=[.d (aE R),.d (aP w),.d (QL T),.d (.tup [.int (bH R w.top),.lst (ff R.asks.length (wI R w.top)),.lst (ff R.n (QH R w.top))]),.own c (xs.map o5),.d (.int (m:Int)),x6]/\(∀x∈xs,QS R x.tr/\x.fixed.length=R.asks.length/\x.ways.length<=m)/\(T.Ok R w (List.replicate R.asks.length none)↔∀x∈xs,x.tr.Ok R w x.fixed)/\m+qu xs<=300/\n=qu xs,⟨_,a,[⟨T,List.replicate R.asks.length none,[]⟩],0,.un,rfl,λx hx=>?_,v6,?_,rfl⟩,?_⟩
 . simp at hx;subst hx;exact⟨ht,v6,v6⟩
 . simp[qu];exact hs
 rintro n Z ⟨c,xs,m,x6,rfl,ok,al,hm,rfl⟩;unfold Mw;walk_at "w";rcases List.eq_nil_or_concat xs with rfl|⟨ys,x,rfl⟩
 . rw[if_neg (by simp)];exact h (al.mpr λx hx=>by cases hx)
 simp only[List.concat_eq_append]at ok al hm ⊢;rw[ir]at hm;obtain⟨xo,xf,xw⟩:=ok x v6;have oky:∀y∈ys,QS R y.tr/\y.fixed.length=R.asks.length/\y.ways.length<=m+1:=λy hy=>by obtain⟨h1,h2,h3⟩:=ok y (List.mem_append_left _ hy);exact⟨h1,h2,xL⟩
 have sp:=x.tr.size_pos;rw[if_pos (by simp)];have wl:=zx ys;obtain⟨tr,fx,vs⟩:=x;dsimp only at xo xf xw hm sp;rw[List.map_append];refine Ja hR hq rfl xo xf xL xw (by rw[SH];omega) (λhst=>hx λz=>?_) (λhst hk=>?_) λk p q hst e=>?_
 . have:=FL xo xf (al.mp z ⟨tr,fx,vs⟩ v6);rw[hst]at this;cases this
 .
  refine⟨qu ys,by rw[ir];dsimp only;omega,c,ys,m+1,_,rfl,oky,?_,xL,rfl⟩;rw[al,uG];refine and_iff_left ?_
  cases tr with
  |turned=>exact show w.most<(ef w.elder fx).length from of_decide_eq_true hst
  |cut d=>exact⟨xo,hst⟩
  |split k p q=>exact absurd rfl hk
 .
  subst e;have sz:(Tr.split k p q).size=p.size+q.size+1:=rfl;obtain⟨kl0,po,qo⟩:=xo;have kl:k<fx.length:=by omega
  refine⟨_,?_,c,ys++[⟨q,fx.set k (some false),vs++[false]⟩]++[⟨p,fx.set k (some true),vs++[true]⟩],m+1,.d (o5 ⟨.split k p q,fx,vs⟩),?_,λy hy=>?_,?_,?_,rfl⟩
  . rw[ir,ir,ir,sz];dsimp only;omega
  . rw[List.map_append,List.map_append];rfl
  .
   rcases List.mem_append.mp hy with hy|hy
   .
    rcases List.mem_append.mp hy with hy|hy
    . exact oky y hy
    . simp at hy;subst hy;exact⟨qo,by simp;exact xf,by simp;exact xw⟩
   . simp at hy;subst hy;exact⟨po,by simp;exact xf,by simp;exact xw⟩
  .
   rw[al,uG,uG,uG];have hn:fx.getD k none=none:=Option.isNone_iff_eq_none.mp hst;constructor
   . rintro⟨h1,h2⟩;exact⟨⟨h1,h2.2.2.2⟩,h2.2.2.1⟩
   . rintro⟨⟨h1,h2⟩,h3⟩;exact⟨h1,kl,hn,h3,h2⟩
  . rw[ir,ir];dsimp only;omega
def cG:FS:=λls p4=>∃(ns:List Int)(k:Int),ls=[.d (.lst (ns.map .int)),.d (.int k)]/\0<=k/\k<=100/\∀a xs,c9 xs->p4 (.own a xs) ls
def jx:W Fl:=(aT (bo 2 (wC (.int 0)))
  (aT (Pi (aZ (au yw (ak 1) (aR bJ (ar (ak 0) aJ)))) (bo 2 (au aM (ak 0) (ak 1))) c8)
  (cQ (l6 (ar (ak 2) (ar (au fK (au b7 (au b7 (au fK (ak 2) (wC (.int 2147483587))) (au bc (au bc (wC (.int 48271)) (ak 1)) (ak 1))) (wC (.int 13))) (wC (.int 2147483587))) (ar (au LG (ak 2) (au zQ (wC (.int 10)) (wC (.int 18)))) aJ)))))))
theorem rY:∀ls p4,ls.length=2->cG ls p4->jx (ls++List.replicate 1 .un) (aO ls p4):=by
 rintro ls p4 - ⟨ns,k,rfl,h0,h1,h⟩;unfold jx
 have Ov:∀(c:Int)(Z:Ev)(e:Z=[.d (.lst (ns.map .int)),.d (.int k),.d (.int c)]),∀a:Addr,aO [.d (.lst (ns.map .int)),.d (.int k)] p4 (.rt (.own a [.int c,.int ((c.fmod 2147483587+48271*k*k+13).fmod 2147483587),.bl (decide ((10:Int)^18<=c))])) Z:=λc Z e a=>by
  refine⟨_,aj (aj aX),h a _ ⟨_,_,_,rfl,?_,?_⟩⟩
  . rw[Int.fmod_eq_emod_of_nonneg _ x_];exact Int.emod_nonneg _ x_
  . rw[Int.fmod_eq_emod_of_nonneg _ x_];have:=Int.emod_lt_of_pos (c.fmod 2147483587+48271*k*k+13) (b:=2147483587) x_;omega
 have hb1:cn 48271:=bA x_;have hb2:cn k:=bA (SO (show k.natAbs<=100 by omega) x_);have hb3:cn (48271*k):=bA (SO (show(48271*k).natAbs<=4827100 by omega) x_);walk_at "w"
 try rw[SH]
 split
 .
  rename_i hk;have hk:k<(ns.length:Int):=by simpa using hk
  have hi:k.toNat<ns.length:=by omega
  refine⟨.int ns[k.toNat],Gi h0 (by rw[List.getElem?_map,so hi];rfl),?_⟩;exact⟨x_,hb1,hb2,hb3,hb2,x_,x_,x_,x_,x_,Ov _ _ rfl⟩
 . exact⟨x_,hb1,hb2,hb3,hb2,x_,x_,x_,x_,x_,Ov _ _ rfl⟩
def aB:FS:=λls p4=>∃(a:Addr)(xs:List D)(m:Int),ls=[.own a xs,.d (.int m)]/\c9 xs/\0<m/\m<=10^60/\∀(r:Int)(ys:List D),c9 ys->0<=r->r<m->p4 (.d (.int r)) [.own a ys,.d (.int m)]
def iu:W Fl:=(aT (xa 0 (wC (.int 1)) (au fK (au b7 (au bc (d6 0 (yB 0 (wC (.int 1))) (au aM (ak 0) (wC (.int 1)))) (wC (.int 39373))) (wC (.int 17))) (wC (.int 2147483647))))
  (bo 3 (bE (au b7 (au bc (ak 3) (wC (.int 2147483629))) (au fK (au bc (d6 0 (yB 0 (wC (.int 1))) (au aM (ak 0) (wC (.int 1)))) (d6 0 (yB 0 (wC (.int 1))) (au aM (ak 0) (wC (.int 1))))) (wC (.int 2147483629)))))))
def lS:W Fl:=(aT (Pi (aZ (d6 0 (yB 0 (wC (.int 2))) (au aM (ak 0) (wC (.int 2))))) (aT (bo 2 (au fK (d6 0 (yB 0 (wC (.int 0))) (au aM (ak 0) (wC (.int 0)))) (ak 1)))
  (aT (xa 0 (wC (.int 0)) (au mi (d6 0 (yB 0 (wC (.int 0))) (au aM (ak 0) (wC (.int 0)))) (ak 1)))
  (aT (xa 0 (wC (.int 2)) (au AI (d6 0 (yB 0 (wC (.int 0))) (au aM (ak 0) (wC (.int 0)))) (wC (.int 0))))
  (cQ (pT 2))))) c8)
  (aT (bo 3 (wC (.int 0)))
  (aT (tQ (jb (au b7 (wC (.int 1)) (au bc (wC (.int 8)) (aR tS (ar (au AI (ak 1) (au zQ (wC (.int 10)) (wC (.int 6)))) aJ))))) (aW 4) iu)
  (cQ (au fK (au mi (ak 3) (wC (.int 64))) (ak 1))))))
theorem wg{a:Addr}{c:Int}{m x2:L}{p4:Fl->Ev->Prop}:∀(items:List D)(sd dr:Int)(j:Nat)(x4:L),j+items.length<=100->0<=sd->sd<2147483647->0<=dr->dr<2^(40*j) ->
  (∀sd' dr' x',0<=sd'->sd' < 2147483647->0<=dr'->p4 .nx [.own a [.int c,.int sd',.bl false],m,x2,.d (.int dr'),x']) ->
  mh (aW 4) iu items [.own a [.int c,.int sd,.bl false],m,x2,.d (.int dr),x4] p4
 |[],sd,dr,j,x4,_,h0,h1,h2,h3,h=>h sd dr x4 h0 h1 h2
 | y::items,sd,dr,j,x4,hl,h0,h1,h2,h3,h=>by
  unfold mh iu;walk_at "w";obtain⟨r0,r1⟩:=fO (sd*39373+17) (m:=2147483647) x_;generalize (sd*39373+17).fmod 2147483647=s' at r0 r1 ⊢;obtain⟨q0,q1⟩:=fO (s'*s') (m:=2147483629) x_;generalize (s'*s').fmod 2147483629=t' at q0 q1 ⊢;have hl':j+(items.length+1)<=100:=hl;have b1:cn sd:=xu (n:=40) h0 xL x_;have b2:cn s':=xu (n:=40) r0 xL x_;have b3:cn dr:=xu (n:=40*j) h2 h3 xL;have b4:cn 39373:=bA x_;have b5:cn 2147483629:=bA x_;refine⟨b1,b4,x_,b3,b5,b2,b2,x_,?_⟩;refine wg items s' (dr*2147483629+t') (j+1) _ xL r0 r1 xL ?_ h;have e:(2:Int)^(40*(j+1))=2^(40*j)*1099511627776:=by rw[Nat.mul_succ,Int.pow_add];rfl
  omega
theorem uH:∀ls p4,ls.length=2->aB ls p4->lS (ls++List.replicate 3 .un) (aO ls p4):=by
 rintro ls p4 - ⟨a,xs,m,rfl,⟨c,sd,t,rfl,h0,h1⟩,hm,hM,h⟩;unfold lS;have hm0:m≠0:=by omega
 have hmz:=vN xL hM
 cases t with
 | true =>
  walk_at "w";obtain⟨r0,r1⟩:=fO c hm;exact⟨hm0,hm0,hmz,_,dO SE (aj aX),h _ _ ⟨_,_,_,rfl,h0,h1⟩ r0 r1⟩
 | false =>
  walk_at "w";refine⟨x_,x_,x_,bA x_,bA (by split<;>decide),⟨by split<;>decide,by split<;>decide⟩,?_⟩;refine wg (c:=c) _ sd 0 0 _ (by simp only[rM,SH,List.length_range];split<;>decide) h0 h1 x_ x_ λsd' dr' x' g0 g1 g2=>?_;walk_at "w";obtain⟨r0,r1⟩:=fO (dr'.fdiv 64) hm;exact⟨x_,x_,hm0,_,dO SE (aj aX),h _ _ ⟨_,_,_,rfl,g0,g1⟩ r0 r1⟩
def iw:FS:=λls p4=>∃(a:Addr)(xs:List D)(many:Nat),ls=[.own a xs,.d (.int many)]/\c9 xs/\many<=26 /\
 ∀(zs:List Str)(c:Addr)(ys:List D),c9 ys->zs.length=many->(∀z∈zs,Dp z)->zs.Nodup->p4 (.own c (zs.map .str)) [.own a ys,.d (.int many)]
def kA:W L:=(au b7 (au b7 (Jl (ak 1) none (some (ak 2))) (au aM (ak 3) (au fK (au b7 (ak 4) (ak 0)) (wC (.int 26))))) (Jl (ak 1) (some (au b7 (ak 2) (wC (.int 1)))) none))
def kB:W Fl:=(cQ (d5 1 [3,4,2,5] (jb (ak 1)) (aW 0) eX kA))
def kC:W Fl:=(aT (bo 5 (bE (a7 aB 0 0 (gJ 0 (ar (wC (.int 26)) aJ)))))
  kB)
def kD:W L:=(au aM (ak 1) (a7 aB 0 2 (gJ 2 (ar (wC (.int 26)) aJ))))
def kE:W Fl:=(aT (bo 4 (bE (a7 aB 0 0 (gJ 0 (ar (bE (aR bJ (ar (ak 3) aJ))) aJ)))))
  kC)
def kF:W Fl:=(aT (bo 3 (bE (Hm "" (d5 1 [2,0] (jb (au b7 (wC (.int 1)) (a7 aB 0 0 (gJ 0 (ar (wC (.int 8)) aJ))))) (aW 0) eX kD))))
  kE)
def jy:W Fl:=(aT (bo 2 (wC (.str "abcdefghijklmnopqrstuvwxyz")))
  kF)
theorem rZ:∀ls p4,ls.length=2->iw ls p4->jy (ls++List.replicate 4 .un) (aO ls p4):=by
 rintro ls p4 - ⟨a,xs,many,rfl,hx,hm,h⟩;unfold jy;walk_at "w";unfold kF;walk_at "w";refine⟨a,xs,8,rfl,hx,x_,x_,λr ys hy r0 r1=>⟨ys,rfl,?_⟩⟩;walk_at "w";refine⟨⟨xL,xL⟩,?_⟩;rw[mx];refine⟨by rw[SH,List.length_range];exact SJ (show(1+r).toNat<=8 by omega) x_,?_⟩;refine t9 _ (λj Z acc=>∃(l:L)(ys:List D)(cs:List Nat),Z=[l,.d (.str ue),.own a ys]/\c9 ys/\acc=cs.map (λc=>D.str ⟨#[c]⟩)/\cs.length=j/\∀c∈cs,qk c) _ _ ⟨_,ys,[],rfl,hy,rfl,rfl,λc hc=>by simp at hc⟩ ?_ ?_
 .
  rintro j x Z acc hx ⟨l,ys,cs,rfl,hy,rfl,hl,hc⟩ Q hQ;unfold eX kD;walk_at "w";refine⟨a,ys,26,rfl,hy,x_,x_,λq ws hw q0 q1=>⟨ws,rfl,x_,_,sS q0 q1,?_⟩⟩;refine hQ _ _ ⟨_,ws,cs++[q.toNat+97],rfl,hw,v6,by simp[hl],λc hm=>?_⟩;rcases List.mem_append.mp hm with hm|hm
  . exact hc c hm
  . rw[List.mem_singleton.mp hm];unfold qk;omega
 .
  rintro Z acc ⟨l,ys,cs,rfl,hy,rfl,hl,hc⟩;rw[SH,List.length_range]at hl;walk_at "w";intro aa;refine⟨cs.map λc=>⟨#[c]⟩,v6,by rw[y7,SH];show cs.length+cs.length*0<=_;omega,?_⟩
  have hb:Dp (Txt.join "" (cs.map λc=>(⟨#[c]⟩:Str))):=by
   refine⟨?_,?_,?_⟩
   . rw[nR];omega
   . rw[nR];omega
   . rw[nR];exact hc
  generalize Txt.join "" (cs.map λc=>(⟨#[c]⟩:Str))=base at hb ⊢;have hbl:=j6 base;have hb1:=hb.lo;have hb2:=hb.hi;unfold kE;walk_at "w";refine⟨SJ (show base.length<=8 by omega) x_,a,ys,base.length,rfl,hy,xL,xL,λp ws hw p0 p1=>⟨ws,rfl,?_⟩⟩;unfold kC;walk_at "w";refine⟨a,ws,26,rfl,hw,x_,x_,λt vs hv t0 t1=>⟨vs,rfl,?_⟩⟩;unfold kB;walk_at "w";refine⟨⟨xL,xL⟩,?_⟩;rw[mx];refine⟨by rw[SH,List.length_range];exact SJ (show((many:Int)).toNat<=26 by omega) x_,?_⟩;refine cD (h:=λk=>D.str (nameAt base p.toNat t.toNat k)) _ _ _ (λk hk Q q=>?_) λl'=>?_
  .
   have hk:k<many:=by have:=List.mem_range.mp hk;omega
   unfold kA;walk_at "w";refine⟨SJ (show base.length<=8 by omega) x_,x_,x_,_,sS (i:=(t+(k:Int)).fmod 26) (fO _ x_).1 (fO _ x_).2,?_⟩;have e1:=EY (x:=base) p0 xL;have e2:=Ak (x:=base) (i:=p+1) xL xL;have l1:(Txt.slice base none (some p)).length<=8:=by rw[j6,e1,List.length_take];omega
   have l2:(Txt.slice base (some (p+1)) none).length<=8:=by rw[j6,e2,List.length_drop];omega
   have e3:((t+(k:Int)).fmod 26).toNat=(t.toNat+k) % 26:=by rw[Int.fmod_eq_emod_of_nonneg _ x_];omega
   have e4:Txt.slice base none (some p)++(⟨#[((t+(k:Int)).fmod 26).toNat+97]⟩:Str)++Txt.slice base (some (p+1)) none=nameAt base p.toNat t.toNat k:=by
    apply Ip;rw[my,my,e1,e2,e3];have:(p+1).toNat=p.toNat+1:=by omega
    simp[L2.nameAt,this]
   have one:∀c:Nat,(⟨#[c]⟩:Str).length=1:=λ_=>rfl;have lc:(Txt.slice base none (some p)++(⟨#[((t+(k:Int)).fmod 26).toNat+97]⟩:Str)).length<=9:=by rw[j6,my,List.length_append,<- j6,<- j6,one];omega
   refine⟨SJ (show _<=9 by rw[one];omega) x_,SJ (show base.length<=8 by omega) x_,SJ (Nat.add_le_add lc l2) x_,?_⟩;rw[e4];exact q
  .
   walk_at "w";intro c;refine⟨_,dO (ys:=vs) v6 (aj aX),?_⟩;have e:List.map (λk=>D.str (nameAt base p.toNat t.toNat k)) (List.range ((many:Int)).toNat)=((List.range many).map λk=>nameAt base p.toNat t.toNat k).map D.str:=by rw[List.map_map,Int.toNat_natCast];rfl
   rw[e];refine h _ c vs hv v6 (λz hz=>?_) (vU List.nodup_range λx hx y hy=>?_)
   . obtain⟨k,_,rfl⟩:=List.mem_map.mp hz;exact Cp hb xL
   . exact Al xL (by have:=List.mem_range.mp hx;omega) (by have:=List.mem_range.mp hy;omega)
def fC:FS:=λls p4=>∃t b:Int,ls=[.d (.int t),.d (.int b)]/\b≠0/\b.natAbs<2^9000/\p4 (.d (PH (Rat.divInt t b))) ls
def oN:W Fl:=(LH 2 3 (au fK (ak 3) (ak 2)) (ak 2))
def og:W Fl:=(aT (bo 2 (bE (aR zR (ar (ak 0) aJ))))
  (aT (bo 3 (bE (aR zR (ar (ak 1) aJ))))
  (aT (mf (aZ (au yz (ak 2) (wC (.int 0)))) oN)
  (aT (Pi (aZ (au yw (ak 1) (wC (.int 0)))) (bo 3 (au nL (wC (.int 0)) (ak 3))) c8)
  (cQ (ko (ar (au mi (ak 0) (ak 3)) (ar (au mi (ak 1) (ak 3)) aJ))))))))
theorem wj:∀ls p4,ls.length=2->fC ls p4->og (ls++List.replicate 2 .un) (aO ls p4):=by
 rintro ls p4 - ⟨t,b,rfl,hb,hz,h⟩;unfold og;walk_at "w";have h1:=yG (t:=t) hb;have h2:=SO (yH (t:=t) hb) hz
 have Ov:∀{g:Int}{Z:Ev},g=cP t b->g≠0/\g.natAbs<2^9000/\g≠0/\g.natAbs<2^9000/\2<=sizeLine/\aO [.d (.int t),.d (.int b)] p4 (.rt (.d (.tup [.int (t.fdiv g),.int (b.fdiv g)]))) Z:=λ{g Z} e=>by
  have e1:g≠0:=by rw[e];exact h1
  have e2:g.natAbs<2^9000:=by rw[e];exact h2
  refine⟨e1,e2,e1,e2,x_,_,aj (aj aX),?_⟩;rw[yX hb e];exact h
 refine⟨λn Z=>∃x y:Int,Z=[.d (.int t),.d (.int b),.d (.int x),.d (.int y)]/\0<=x/\0<=y/\Int.gcd x y=Int.gcd t b/\n=x.natAbs,⟨_,_,_,rfl,by split<;>omega,by split<;>omega,?_,rfl⟩,?_⟩
 .
  have e1:(if t<0 then -t else t)=(t.natAbs:Int):=by split<;>omega
  have e2:(if b<0 then -b else b)=(b.natAbs:Int):=by split<;>omega
  rw[e1,e2];simp[Int.gcd]
 .
  rintro n Z ⟨x,y,rfl,x0,y0,hg,rfl⟩;unfold oN;walk_at "w";split
  .
   rename_i hx;have hx:x≠0:=by simpa using hx
   refine⟨hx,_,fZ y hx,_,_,rfl,(fO y xL).1,x0,?_,rfl⟩;rw[Int.gcd_comm,tZ,Int.gcd_comm];exact hg
  .
   rename_i hx;have hx:x=0:=by simpa using hx
   subst hx;have hy:y=(Int.gcd t b:Int):=by rw[<- hg,Int.gcd_zero_left];omega
   split
   . rename_i hlt;exact Ov (by simp[cP,hlt,hy])
   . rename_i hlt;exact Ov (by simp[cP,hlt,hy])
def cg:FS:=λls p4=>∃(a:Addr)(xs:List D)(least kind:Int),ls=[.own a xs,.d (.int least),.d (.int kind)]/\c9 xs/\0<=least/\least<=1/\0<=kind/\kind<5 /\
 ∀(q:Rat)(ys:List D),c9 ys->0<=q->(least=1->0<q)->RB 60 q->p4 (.d (PH q)) [.own a ys,.d (.int least),.d (.int kind)]
def jz:W Fl:=(cQ (ba fC (ar (ak 4) (ar (ak 3) aJ))))
def jA:W Fl:=(aT (bo 4 (bE (au b7 (ak 1) (a7 aB 0 0 (gJ 0 (ar (au aM (l6 (ar (wC (.int 3)) (ar (wC (.int 10)) (ar (wC (.int 10)) (ar (wC (.int 40)) (ar (au zQ (wC (.int 10)) (wC (.int 12))) aJ)))))) (ak 2)) aJ))))))
  jz)
def iy:W Fl:=(aT (bo 3 (bE (au b7 (wC (.int 1)) (a7 aB 0 0 (gJ 0 (ar (au aM (l6 (ar (wC (.int 1)) (ar (wC (.int 1)) (ar (wC (.int 4)) (ar (wC (.int 12)) (ar (wC (.int 12)) aJ)))))) (ak 2)) aJ))))))
  jA)
theorem C2{t b:Int}(h0:0<=t)(h1:t<2^59)(h2:0<b)(h3:b<2^59):0<=Rat.divInt t b/\(0<t->0<Rat.divInt t b)/\RB 60 (Rat.divInt t b):=by
 have e:=Rat.divInt_nonneg (a:=t) (b:=b) h0 xL;refine⟨e,λht=>?_,RB.of_divInt xL ?_ ?_⟩
 .
  refine Rat.lt_of_le_of_ne e λz=>?_;have:Rat.divInt 0 1=Rat.divInt t b:=by rw[<- z];rfl
  rw[Rat.divInt_eq_divInt_iff x_ xL]at this;omega
 .
  have:(2:Int)^59=((2^59:Nat):Int):=by decide
  have:(2:Nat)^59<2^60:=by decide
  omega
 .
  have:(2:Int)^59=((2^59:Nat):Int):=by decide
  have:(2:Nat)^59<2^60:=by decide
  omega
theorem M6{k:Int}(h0:0<=k)(h1:k<5):∃m:Int,OV [D.int 1,.int 1,.int 4,.int 12,.int 12] k=some (.int m)/\1<=m/\m<=12:=by
 obtain rfl|rfl|rfl|rfl|rfl:k=0∨k=1∨k=2∨k=3∨k=4:=by omega
 all_goals exact⟨_,rfl,x_,x_⟩
theorem M7{k:Int}(h0:0<=k)(h1:k<5):∃m:Int,OV [D.int 3,.int 10,.int 10,.int 40,.int (10^12)] k=some (.int m)/\1<=m/\m<=10^12:=by
 obtain rfl|rfl|rfl|rfl|rfl:k=0∨k=1∨k=2∨k=3∨k=4:=by omega
 all_goals exact⟨_,rfl,x_,x_⟩
theorem qU:∀ls p4,ls.length=3->cg ls p4->iy (ls++List.replicate 2 .un) (aO ls p4):=by rintro ls p4 - ⟨a,xs,least,kind,rfl,hx,l0,l1,k0,k1,h⟩;obtain⟨m1,e1,m10,m11⟩:=M6 k0 k1;obtain⟨m2,e2,m20,m21⟩:=M7 k0 k1;unfold iy;walk_at "w";refine⟨x_,λ_=>⟨_,e1,a,xs,m1,rfl,hx,xL,xL,λr ys hy r0 r1=>⟨ys,rfl,?_⟩⟩⟩;unfold jA;walk_at "w";refine⟨x_,x_,x_,x_,λ_=>⟨_,e2,a,ys,m2,rfl,hy,xL,xL,λs zs hz s0 s1=>⟨zs,rfl,?_⟩⟩⟩;unfold jz;walk_at "w";obtain⟨a1,a2,a3⟩:=C2 (t:=least+s) (b:=1+r) xL xL xL xL;exact⟨_,_,rfl,xL,vN xL xL,_,dO v6 (aj (aj aX)),h _ zs hz a1 (λe=>a2 xL) a3⟩
def iz:FS:=λls p4=>∃(a:Addr)(xs:List D)(n:Nat)(kind:Int),ls=[.own a xs,.d (.int n),.d (.int kind)]/\c9 xs/\1<=n/\n<=1000/\0<=kind/\kind<5 /\
 ∀(qs:List Rat)(c:Addr)(ys:List D),c9 ys->qs.length=n->(∀q∈qs,0<q/\RB 60 q)->p4 (.own c (qs.map PH)) [.own a ys,.d (.int n),.d (.int kind)]
def kG:W Fl:=(aT (bo 6 (bE (a7 cg 0 0 (gJ 0 (ar (wC (.int 1)) (ar (ak 2) aJ))))))
  (nJ (Br 5 (au aM (l6 (ar (ak 4) (ar (ak 6) aJ))) (aR tS (ar (au lj (ak 3) (wC (.int 2))) aJ))))))
def kH:W Fl:=(cQ (pT 5))
def kI:W Fl:=(aT (mf (aZ (au yw (d6 5 (D1 5) (aR bJ (ar (ak 5) aJ))) (ak 1))) kG)
  kH)
def gv:W Fl:=(aT (bo 5 (l6 (ar (ak 4) aJ)))
  kI)
def kJ:W Fl:=(aT (Pi (aZ (au lj (ak 3) (wC (.int 0)))) (bo 4 (ko (ar (wC (.int 1)) (ar (wC (.int 1)) aJ)))) c8)
  gv)
def kK:W Fl:=(aT (bo 4 (bE (a7 cg 0 0 (gJ 0 (ar (wC (.int 1)) (ar (ak 2) aJ))))))
  kJ)
def jB:W Fl:=(aT (bo 3 (bE (a7 aB 0 0 (gJ 0 (ar (wC (.int 3)) aJ)))))
  kK)
theorem r6:∀ls p4,ls.length=3->iz ls p4->jB (ls++List.replicate 4 .un) (aO ls p4):=by
 rintro ls p4 - ⟨a,xs,n,kind,rfl,hx,n1,n2,k0,k1,h⟩;have one:PH 1=.tup [.int 1,.int 1]:=rfl
 have cL:∀(alike:Int)(p:Rat)(ys:List D),c9 ys->0<p->RB 60 p ->
   gv [.own a ys,.d (.int n),.d (.int kind),.d (.int alike),.d (PH p),.un,.un] (aO [.own a xs,.d (.int n),.d (.int kind)] p4):=by
  intro alike p ys hy hp hb;unfold gv;walk_at "w";refine⟨x_,λc=>?_⟩;unfold kI;walk_at "w";refine⟨λm Z=>∃(qs:List Rat)(zs:List D)(l:L),Z=[.own a zs,.d (.int n),.d (.int kind),.d (.int alike),.d (PH p),.own c (qs.map PH),l]/\c9 zs/\qs.length<=n/\m=n-qs.length/\∀q∈qs,0<q/\RB 60 q,⟨_,[p],ys,_,rfl,hy,n1,rfl,by intro q hq;rw[List.mem_singleton.mp hq];exact⟨hp,hb⟩⟩,?_⟩;rintro m Z ⟨qs,zs,l,rfl,hz,hl,rfl,hq⟩;walk_at "w"
  try rw[SH]
  split
  .
   rename_i hlt;unfold kG;walk_at "w";refine⟨a,zs,1,kind,rfl,hz,x_,x_,k0,k1,λq ws hw q0 q1 qb=>⟨ws,rfl,?_⟩⟩;walk_at "w";have hs:qs.length<sizeLine:=by exact SO (show qs.length<=1000 by omega) x_
   have more:∀q':Rat,0<q'->RB 60 q'->∃m,m<n-qs.length/\∃(qs':List Rat)(zs:List D)(l:L),[L.own a ws,.d (.int n),.d (.int kind),.d (.int alike),.d (PH p),.own c (qs.map PH++[PH q']),.d (PH q)]=[.own a zs,.d (.int n),.d (.int kind),.d (.int alike),.d (PH p),.own c (qs'.map PH),l]/\c9 zs/\qs'.length<=n/\m=n-qs'.length/\∀q∈qs',0<q/\RB 60 q:=by
    intro q' p0 pb;refine⟨n-(qs++[q']).length,by rw[List.length_append];simp only[List.length_singleton];omega,qs++[q'],ws,.d (PH q),by rw[List.map_append];rfl,hw,by rw[List.length_append];simp only[List.length_singleton];omega,rfl,λz hz=>?_⟩;rcases List.mem_append.mp hz with hz|hz
    . exact hq z hz
    . rw[List.mem_singleton.mp hz];exact⟨p0,pb⟩
   refine⟨x_,λ_=>?_⟩;by_cases h2:alike=2
   . refine⟨PH q,?_,hs,more q (q1 rfl) qb⟩;simp[h2,qg]
   . refine⟨PH p,?_,hs,more p hp hb⟩;simp[h2,qf]
  .
   have e:qs.length=n:=by omega
   unfold kH;walk_at "w";exact⟨_,dO v6 (aj (aj aX)),h qs c zs hz e hq⟩
 unfold jB;walk_at "w";refine⟨a,xs,3,rfl,hx,x_,x_,λr ys hy r0 r1=>⟨ys,rfl,?_⟩⟩;unfold kK;walk_at "w";refine⟨a,ys,1,kind,rfl,hy,x_,x_,k0,k1,λq zs hz q0 q1 qb=>⟨zs,rfl,?_⟩⟩;unfold kJ;walk_at "w";split
 . exact⟨x_,cL r 1 zs hz x_ ⟨x_,x_⟩⟩
 . exact cL r q zs hz (q1 rfl) qb
def jC:FS:=λls p4=>∃(a:Addr)(xs:List D)(shape k:Int)(n:Nat),ls=[.own a xs,.d (.int shape),.d (.int n),.d (.int k)]/\c9 xs/\2<=n/\n<=1000/\0<=k/\k<=1000 /\
 ∀(i j:Nat)(ys:List D),c9 ys->i<n->j<n->i≠j->p4 (.d (.tup [.int i,.int j])) [.own a ys,.d (.int shape),.d (.int n),.d (.int k)]
def mN:W Fl:=(cQ (ko (ar (ak 4) (ar (ak 5) aJ))))
def mO:W Fl:=(aT (Pi (aZ (au lj (ak 1) (wC (.int 3)))) (cQ (ko (ar (wC (.int 0)) (ar (bE (au b7 (wC (.int 1)) (au fK (ak 5) (au nL (ak 2) (wC (.int 1)))))) aJ)))) c8)
  mN)
def mP:W Fl:=(aT (Pi (aZ (au lj (ak 1) (wC (.int 2)))) (cQ (ko (ar (bE (au bc (au fK (ak 3) (wC (.int 2))) (au nL (ak 2) (wC (.int 1))))) (ar (bE (au bc (au nL (wC (.int 1)) (au fK (ak 3) (wC (.int 2)))) (au nL (ak 2) (wC (.int 1))))) aJ)))) c8)
  mO)
def mQ:W Fl:=(aT (Pi (aZ (au lj (ak 1) (wC (.int 1)))) (cQ (ko (ar (au fK (ak 3) (ak 2)) (ar (au fK (au b7 (ak 3) (au mi (ak 2) (wC (.int 2)))) (ak 2)) aJ)))) c8)
  mP)
def mR:W Fl:=(aT (bo 5 (au fK (au b7 (au b7 (ak 4) (wC (.int 1))) (a7 aB 0 0 (gJ 0 (ar (au nL (ak 2) (wC (.int 1))) aJ)))) (ak 2)))
  mQ)
def lT:W Fl:=(aT (bo 4 (bE (a7 aB 0 0 (gJ 0 (ar (ak 2) aJ)))))
  mR)
theorem uI:∀ls p4,ls.length=4->jC ls p4->lT (ls++List.replicate 2 .un) (aO ls p4):=by
 rintro ls p4 - ⟨a,xs,shape,k,n,rfl,hx,n2,n3,k0,k1,h⟩;have Ov:∀(ys:List D)(i j:Int)(Z:Ev),c9 ys->0<=i->i<n->0<=j->j<n->i≠j->.own a ys∈Z->aO [.own a xs,.d (.int shape),.d (.int n),.d (.int k)] p4 (.rt (.d (.tup [.int i,.int j]))) Z:=by intro ys i j Z hy i0 i1 j0 j1 hij hm;have:=h i.toNat j.toNat ys hy xL xL xL;rw[Int.toNat_of_nonneg i0,Int.toNat_of_nonneg j0]at this;exact⟨_,dO hm (aj (aj (aj aX))),this⟩
 unfold lT;walk_at "w";refine⟨a,xs,n,rfl,hx,xL,xL,λr ys hy r0 r1=>⟨ys,rfl,?_⟩⟩;unfold mR;walk_at "w";refine⟨a,ys,n-1,rfl,hy,xL,xL,λs zs hz s0 s1=>⟨zs,rfl,?_⟩⟩;walk_at "w";refine⟨xL,?_⟩;have e1:=Int.fmod_eq_emod_of_nonneg (r+1+s) (b:=n) xL;have e2:=Int.fmod_eq_emod_of_nonneg k (b:=n) xL;have e3:=Int.fdiv_eq_ediv_of_nonneg (n:Int) (b:=2) xL;have e4:=Int.fmod_eq_emod_of_nonneg (k+(n:Int) / 2) (b:=n) xL;have e5:=Int.fmod_eq_emod_of_nonneg k (b:=2) xL;have e6:=Int.fmod_eq_emod_of_nonneg ((r+1+s) % (n:Int)) (b:=(n:Int)-1) xL;rw[e1];have o0:=Int.emod_nonneg (r+1+s) (b:=n) xL;have o1:=Int.emod_lt_of_pos (r+1+s) (b:=n) xL
 have o2:(r+1+s) % (n:Int)≠r:=λz=>by
  by_cases q:r+1+s<n
  . rw[Int.emod_eq_of_lt xL q]at z;omega
  .
   have:(r+1+s) % (n:Int)=r+1+s-n:=by rw[<- Int.sub_emod_right,Int.emod_eq_of_lt xL xL]
   omega
 unfold mQ;walk_at "w";split
 .
  rw[e2,e3,e4];refine⟨xL,x_,x_,xL,x_,Ov zs _ _ _ hz (Int.emod_nonneg _ xL) (Int.emod_lt_of_pos _ xL) (Int.emod_nonneg _ xL) (Int.emod_lt_of_pos _ xL) (λz=>?_) v6⟩;have h1:(k+(n:Int) / 2-k) % n=0:=Int.emod_eq_emod_iff_emod_sub_eq_zero.mp z.symm;have e9:k+(n:Int) / 2-k=n / 2:=by omega
  rw[e9,Int.emod_eq_of_lt xL xL]at h1;omega
 .
  unfold mP;walk_at "w";split
  .
   rw[e5];have m0:=Int.emod_two_eq k;refine⟨x_,bA xL,bA xL,x_,bA xL,bA xL,x_,?_⟩;rcases m0 with m0|m0
   . rw[m0];exact Ov zs _ _ _ hz xL xL xL xL xL v6
   . rw[m0];exact Ov zs _ _ _ hz xL xL xL xL xL v6
  .
   unfold mO;walk_at "w";split
   . rw[e6];have p0:=Int.emod_nonneg ((r+1+s) % (n:Int)) (b:=(n:Int)-1) xL;have p1:=Int.emod_lt_of_pos ((r+1+s) % (n:Int)) (b:=(n:Int)-1) xL;exact⟨xL,x_,Ov zs _ _ _ hz xL xL xL xL xL v6⟩
   . unfold mN;walk_at "w";exact⟨x_,Ov zs _ _ _ hz xL xL xL xL (Ne.symm o2) v6⟩
structure Drawn (most count:Nat) (R:aV):Prop where
 ok:R.Ok
 hi:R.n<=most
 few:R.asks.length<=count
 nms:(∀a∈R.asks,Dp a.nm)/\(R.asks.map (·.nm)).Nodup
 tt:∀a∈R.asks,RB 60 a.size
def jD:FS:=λls p4=>∃(ns:List Int)(at_ most count:Nat),ls=[.d (.lst (ns.map .int)),.d (.int at_),.d (.int most),.d (.int count)]/\at_<=90/\2<=most/\most<=12/\count<=20 /\
 ∀R:aV,Drawn most count R->p4 (.d (aE R)) ls
def iA:W Fl:=(aT (D2 [13,14] (a7 jC 0 4 (gJ 4 (ar (ak 8) (ar (ak 5) (ar (ak 12) aJ))))))
  (nJ (Br 11 (ko (ar (au aM (ak 9) (ak 12)) (ar (ak 13) (ar (ak 14) (ar (bE (a7 cg 0 4 (gJ 4 (ar (wC (.int 0)) (ar (au aM (ak 7) (wC (.int 1))) aJ))))) aJ))))))))
def mS:W Fl:=(cQ (ko (ar (ak 10) (ar (ak 11) aJ))))
def mT:W Fl:=(aT (tQ (jb (ak 6)) (aW 12) iA)
  mS)
def mU:W Fl:=(aT (bo 11 (l6 aJ))
  mT)
def mV:W Fl:=(aT (bo 4 (ba cG (ar (ak 0) (ar (bE (au b7 (ak 1) (wC (.int 2)))) aJ))))
  mU)
def mW:W Fl:=(aT (bo 10 (bE (ba iz (ar (ba cG (ar (ak 0) (ar (bE (au b7 (ak 1) (wC (.int 1)))) aJ))) (ar (ak 5) (ar (au aM (ak 7) (wC (.int 0))) aJ))))))
  mV)
def mX:W Fl:=(aT (bo 9 (bE (a7 iw 0 4 (gJ 4 (ar (ak 6) aJ)))))
  mW)
def mY:W Fl:=(aT (bo 8 (bE (a7 aB 0 4 (gJ 4 (ar (wC (.int 6)) aJ)))))
  mX)
def mZ:W Fl:=(aT (bo 7 (bE (l6 (ar (bE (a7 aB 0 4 (gJ 4 (ar (wC (.int 5)) aJ)))) (ar (bE (a7 aB 0 4 (gJ 4 (ar (wC (.int 5)) aJ)))) aJ)))))
  mY)
def m7:W Fl:=(aT (bo 6 (bE (a7 aB 0 4 (gJ 4 (ar (bE (au b7 (ak 3) (wC (.int 1)))) aJ)))))
  mZ)
def m8:W Fl:=(aT (bo 5 (bE (au b7 (wC (.int 2)) (a7 aB 0 4 (gJ 4 (ar (au nL (ak 2) (wC (.int 1))) aJ))))))
  m7)
def lU:W Fl:=(aT (bo 4 (ba cG (ar (ak 0) (ar (ak 1) aJ))))
  m8)
theorem C3{S a1 m3 c3 rms:D}{b c:Addr}{n shape kind:Nat}{zs:List Str}{p4:Fl->Ev->Prop}(hn:2<=n)(hn2:n<=12)(hk:kind<5)(k0:Nat)(hzl:zs.length<=20)(hz:∀z∈zs,Dp z)(xs:List D)(hx:c9 xs)(x13 x14:L)
  (Ov:∀(as:List Qw)(ys:List D)(x12 x13 x14:L),(∀a∈as,rP n a/\RB 60 a.size)->as.map (·.nm)=zs->p4 .nx [.d S,.d a1,.d m3,.d c3,.own b ys,.d (.int n),.d (.int (zs.length:Int)),.d (.lst [.int k0,.int kind]),.d (.int shape),.d (.lst (zs.map .str)),.d rms,.own c (as.map rG),x12,x13,x14]) :
  mh (aW 12) iA ((List.range zs.length).map λ(i:Nat)=>D.int (i:Int)) [.d S,.d a1,.d m3,.d c3,.own b xs,.d (.int n),.d (.int (zs.length:Int)),.d (.lst [.int k0,.int kind]),.d (.int shape),.d (.lst (zs.map .str)),.d rms,.own c [],.un,x13,x14] p4:=by
 refine mw _ (λj Z=>∃(as:List Qw)(ys:List D)(x12 x13 x14:L),Z=[.d S,.d a1,.d m3,.d c3,.own b ys,.d (.int n),.d (.int (zs.length:Int)),.d (.lst [.int k0,.int kind]),.d (.int shape),.d (.lst (zs.map .str)),.d rms,.own c (as.map rG),x12,x13,x14]/\c9 ys/\(∀a∈as,rP n a/\RB 60 a.size)/\as.map (·.nm)=zs.take j) _ ⟨[],xs,_,_,_,rfl,hx,λa ha=>by simp at ha,rfl⟩ ?_ ?_
 .
  rintro j x Z hj ⟨as,ys,x12,x13,x14,rfl,hy,ha,hn'⟩ Q h1 h2 h3 h4;have hj':j<zs.length:=by have:=(SB.mp hj).1;simpa using this
  have ex:x=.int (j:Int):=by rw[List.getElem?_map,List.getElem?_range hj']at hj;exact(Option.some.inj hj).symm
  subst ex;unfold iA;walk_at "w";refine⟨b,ys,shape,j,n,rfl,hy,hn,xL,xL,xL,λi k ws hw i1 k1 hik=>⟨ws,rfl,?_⟩⟩;walk_at "w";refine⟨.str zs[j],bN hj',?_⟩;refine⟨b,ws,0,kind,rfl,hw,x_,x_,xL,xL,λq vs hv q0 _ qb=>⟨vs,rfl,?_⟩⟩;walk_at "w";have kz:as.length=j:=by have:=congrArg List.length hn';rw[SH,List.length_take]at this;omega
  refine⟨x_,by rw[kz];exact SD hj' (SJ hzl x_),h1 _ ⟨as++[⟨zs[j],i,k,q⟩],vs,_,_,_,by rw[List.map_append];rfl,hv,λa hm=>?_,?_⟩⟩
  .
   rcases List.mem_append.mp hm with hm|hm
   . exact ha a hm
   . rw[List.mem_singleton.mp hm];exact⟨⟨i1,k1,hik,q0,Fc qb,(hz _ (List.getElem_mem hj')).ok⟩,qb⟩
  . rw[List.map_append,hn',List.take_succ,so hj'];rfl
 . rintro Z ⟨as,ys,x12,x13,x14,rfl,hy,ha,hn'⟩;rw[SH,List.length_range,List.take_of_length_le (SN _)]at hn';exact Ov as ys x12 x13 x14 ha hn'
theorem uJ:∀ls p4,ls.length=4->jD ls p4->lU (ls++List.replicate 11 .un) (aO ls p4):=by
 rintro ls p4 - ⟨ns,at_,most,count,rfl,ha,m2,m12,c20,h⟩;unfold lU;walk_at "w";refine⟨ns,at_,rfl,xL,xL,λb xs hx=>?_⟩;unfold m8;walk_at "w";refine⟨b,xs,(most:Int)-1,rfl,hx,xL,xL,λr ys hy r0 r1=>⟨ys,rfl,?_⟩⟩;unfold m7;walk_at "w";refine⟨b,ys,(count:Int)+1,rfl,hy,xL,xL,λs zs hz s0 s1=>⟨zs,rfl,?_⟩⟩;unfold mZ;walk_at "w";refine⟨b,zs,5,rfl,hz,x_,x_,λk1 ws hw k10 k11=>⟨ws,rfl,?_⟩⟩;walk_at "w";refine⟨b,ws,5,rfl,hw,x_,x_,λk2 vs hv k20 k21=>⟨vs,rfl,?_⟩⟩;walk_at "w";refine⟨x_,λkk=>?_⟩;unfold mY;walk_at "w";refine⟨b,vs,6,rfl,hv,x_,x_,λsh us hu sh0 sh1=>⟨us,rfl,?_⟩⟩;unfold mX;walk_at "w";obtain⟨many,rfl⟩:=Int.eq_ofNat_of_zero_le s0;obtain⟨pl,epl⟩:∃pl:Nat,2+r=(pl:Int):=Int.eq_ofNat_of_zero_le xL;obtain⟨sh',rfl⟩:=Int.eq_ofNat_of_zero_le sh0;obtain⟨k1',rfl⟩:=Int.eq_ofNat_of_zero_le k10;obtain⟨k2',rfl⟩:=Int.eq_ofNat_of_zero_le k20;rw[epl];refine⟨b,us,many,rfl,hu,xL,λnms c ts ht hnl hnm hnd=>⟨ts,rfl,?_⟩⟩;unfold mW;walk_at "w";refine⟨ns,at_+1,rfl,xL,xL,λb2 xs2 hx2=>?_⟩;refine⟨b2,xs2,pl,k1',rfl,hx2,xL,xL,xL,xL,λqs c2 ys2 hy2 hql hq=>?_⟩;unfold mV;walk_at "w";refine⟨ns,at_+2,rfl,xL,xL,λb3 xs3 hx3=>?_⟩;unfold mU;walk_at "w";refine⟨x_,λc3=>?_⟩;unfold mT;walk_at "w";refine⟨⟨xL,xL⟩,?_⟩;rw[mx,Int.toNat_natCast,<- hnl];refine C3 (n:=pl) xL xL xL k1' xL hnm xs3 hx3 _ _ λas ys' x12 x13 x14 hao han=>?_;walk_at "w";unfold mS;walk_at "w";refine⟨x_,_,aj (aj (aj (aj aX))),h ⟨qs,as⟩ ?_⟩;have hal:as.length=nms.length:=by rw[<- han,SH]
 refine⟨⟨?_,?_,?_,hq,?_,MO (λa ha=>(hao a ha).2) (by show as.length<=20;omega)⟩,?_,?_,⟨?_,?_⟩,λa ha=>(hao a ha).2⟩
 . show 2<=qs.length;omega
 . show qs.length<=12;omega
 . show as.length<=20;omega
 . show ∀a∈as,rP qs.length a;rw[hql];exact λa ha=>(hao a ha).1
 . show qs.length<=most;omega
 . show as.length<=count;omega
 . intro a ha;exact hnm _ (by rw[<- han];exact List.mem_map_of_mem ha)
 . show(as.map (·.nm)).Nodup;rw[han];exact hnd
noncomputable def R4(R:aV):D:=.lst (R.asks.map λa=>D.lst ((Qy R.n a.one a.other).map λ(t:Nat)=>D.int (t:Int)))
def oh:FS:=λls p4=>∃(R:aV),ls=[.d (aE R)]/\R.Ok/\∀c,p4 (.own c (R.asks.map λa=>D.lst ((Qy R.n a.one a.other).map λ(t:Nat)=>D.int (t:Int)))) ls
def lV:W Fl:=(aT (nJ (Br 6 (ak 7)))
  (bo 7 (au fK (au b7 (ak 7) (wC (.int 1))) (aR bJ (ar (au aM (ak 0) (wC (.int 0))) aJ)))))
def qV:W Fl:=(aT (bo 6 (l6 aJ))
  (aT (bo 7 (ak 3))
  (aT (mf (aZ (au yz (ak 7) (ak 4))) lV)
  (nJ (Br 1 (ak 6))))))
def qW:W Fl:=(aT (bo 1 (l6 aJ))
  (aT (tQ (rL (au aM (ak 0) (wC (.int 1)))) (kg [2,3,4,5]) qV)
  (cQ (pT 1))))
theorem Jb{f:Nat->Nat}{s m:Nat}(h:s<m):((List.range m).map f).take (s+1)=((List.range m).map f).take s++[f s]:=by rw[List.take_succ,List.getElem?_map,List.getElem?_range h];rfl
theorem C4{n i j s f r:Nat}(hi:i<n)(hj:j<n)(hf:f=if i<=j then j-i else j+n-i)(hr:r=if i+s<n then i+s else i+s-n)(hs:s<=f):r=j↔s=f:=by
 by_cases hij:i<=j
 . rw[if_pos hij]at hf;rw[if_pos (by omega)]at hr;omega
 .
  rw[if_neg hij]at hf;by_cases h2:i+s<n
  . rw[if_pos h2]at hr;omega
  . rw[if_neg h2]at hr;omega
theorem Jc{R:aV}(hR:R.Ok){x1 x2 x5:L}{i j:Nat}(hi:i<R.n)(hj:j<R.n)(c:Addr){p4:Fl->Ev->Prop}(Ov:p4 .nx [.d (aE R),x1,x2,.d (.int i),.d (.int j),x5,.own c ((Qy R.n i j).map λ(t:Nat)=>D.int (t:Int)),.d (.int j)]) :
  mf (aZ (au yz (ak 7) (ak 4))) lV [.d (aE R),x1,x2,.d (.int i),.d (.int j),x5,.own c [],.d (.int i)] p4:=by
 have hhi:=hR.hi;have hlo:=hR.lo;refine⟨λm Z=>∃s,Z=[.d (aE R),x1,x2,.d (.int i),.d (.int j),x5,.own c (((Qy R.n i j).take s).map λ(t:Nat)=>D.int (t:Int)),.d (.int (((i+s) % R.n:Nat):Int))]/\s<=Qz R.n i j/\m=Qz R.n i j-s,⟨_,0,by rw[Nat.add_zero,Nat.mod_eq_of_lt hi];rfl,Nat.zero_le _,rfl⟩,?_⟩;rintro m Z ⟨s,rfl,hs,rfl⟩;have hf:Qz R.n i j<R.n:=Nat.mod_lt _ xL;have hfe:=ql hi hj
 have hm:(i+s) % R.n=if i+s<R.n then i+s else i+s-R.n:=mz xL
 walk_at "w";by_cases hne:(i+s) % R.n=j
 . have hs':s=Qz R.n i j:=(C4 hi hj hfe hm hs).mp hne;rw[if_neg (λz=>z (by rw[hne]))];rw[List.take_of_length_le (by rw[KZ];omega),hne];exact Ov
 .
  have hs':s<Qz R.n i j:=Nat.lt_of_le_of_ne hs λz=>hne ((C4 hi hj hfe hm hs).mpr z);rw[if_pos (λz=>hne (Int.ofNat_inj.mp z))];unfold lV;walk_at "w";refine⟨?_,xL,?_⟩
  . rw[List.length_take];exact SO (Nat.min_le_left _ _) (SD (show s<12 by omega) x_)
  refine⟨Qz R.n i j-(s+1),xL,s+1,?_,hs',rfl⟩;have e1:(Qy R.n i j).take (s+1)=(Qy R.n i j).take s++[(i+s) % R.n]:=Jb hs';have e2:((((i+s) % R.n:Nat):Int)+1).fmod (R.n:Int)=(((i+(s+1)) % R.n:Nat):Int):=by have:=Fd (n:=R.n) (i:=(i+s) % R.n) (s:=1);rw[Nat.mod_add_mod,Nat.add_assoc]at this;exact this
  rw[e1,List.map_append];rw[e2];rfl
theorem yd:∀ls p4,ls.length=1->oh ls p4->qW (ls++List.replicate 7 .un) (aO ls p4):=by
 rintro ls p4 - ⟨R,rfl,hR,h⟩;have few:=hR.few;unfold qW;walk_at "w";refine⟨x_,λc=>?_⟩;refine j4 (enc:=rG) R.asks (λpre Z=>∃x2 x3 x4 x5 x6 x7,Z=[.d (aE R),.own c (pre.map λa=>D.lst ((Qy R.n a.one a.other).map λ(t:Nat)=>D.int (t:Int))),x2,x3,x4,x5,x6,x7]) _ ⟨_,_,_,_,_,_,rfl⟩ ?_ ?_
 .
  rintro pre A suf Z hsp ⟨x2,x3,x4,x5,x6,x7,rfl⟩ Q h1 h2 h3 h4;have hA:rP R.n A:=hR.ask A (by rw[hsp];simp);have kz:pre.length<20:=by have:=congrArg List.length hsp;rw[List.length_append,List.length_cons]at this;omega
  unfold qV;walk_at "w";refine⟨x_,λc2=>?_⟩;refine Jc hR hA.one hA.other c2 ?_;walk_at "w";refine⟨SD kz x_,?_⟩;exact h1 _ ⟨_,_,_,_,_,_,by rw[List.map_append];rfl⟩
 . rintro Z ⟨x2,x3,x4,x5,x6,x7,rfl⟩;walk_at "w";exact⟨_,aj aX,h c⟩
def gw:FS:=λls p4=>∃(qs:List Rat),ls=[.d (.lst (qs.map PH))]/\qs.length<=20/\(∀q∈qs,RB 60 q)/\p4 (.d (.tup [.lst (qs.map λq=>D.int (d9 (QF qs) q)),.int (QF qs:Int)])) ls
def jE:W L:=(au bc (au aM (ak 0) (wC (.int 0))) (au mi (ak 1) (au aM (ak 0) (wC (.int 1)))))
def fE:W Fl:=(LH 3 4 (ak 4) (au fK (ak 3) (ak 4)))
def jF:W Fl:=(aT (bo 3 (ak 1))
  (aT (bo 4 (au aM (ak 2) (wC (.int 1))))
  (aT (mf (aZ (au yz (ak 4) (wC (.int 0)))) fE)
  (bo 1 (bE (au bc (au mi (ak 1) (ak 3)) (au aM (ak 2) (wC (.int 1)))))))))
def iB:W Fl:=(aT (bo 1 (wC (.int 1)))
  (aT (tQ (rL (ak 0)) (aW 2) jF)
  (cQ (ko (ar (bE (d5 1 [1] (rL (ak 0)) (aW 0) eX jE)) (ar (ak 1) aJ))))))
theorem Lp(qs:List Rat)(q:Rat):QF (qs++[q])=Nat.lcm (QF qs) q.den:=by unfold QF;rw[List.foldl_append];rfl
theorem FM{b d:Nat}{x0 x1 x2:L}{p4:Fl->Ev->Prop}(hd:0<d)(Ov:∀x4,p4 .nx [x0,x1,x2,.d (.int (Int.gcd b d:Nat)),x4]) :
  mf (aZ (au yz (ak 4) (wC (.int 0)))) fE [x0,x1,x2,.d (.int b),.d (.int d)] p4:=by
 refine⟨λn Z=>∃x y:Int,Z=[x0,x1,x2,.d (.int x),.d (.int y)]/\0<=x/\0<=y/\Int.gcd x y=Int.gcd b d/\n=y.natAbs,⟨_,b,d,rfl,xL,xL,rfl,rfl⟩,?_⟩;rintro n Z ⟨x,y,rfl,hx,hy0,hg,rfl⟩;walk_at "w";split
 .
  rename_i hy;have hy:y≠0:=by simpa using hy
  unfold fE;walk_at "w";have hr:=fO x (m:=y) xL;exact⟨hy,_,fZ x hy,y,x.fmod y,rfl,hy0,hr.1,by rw[tZ];exact hg,rfl⟩
 .
  rename_i hy;have hy:y=0:=by simpa using hy
  subst hy;have e:x=((Int.gcd b d:Nat):Int):=by rw[<- hg,Int.gcd_zero_right];omega
  rw[e];exact Ov _
theorem qX:∀ls p4,ls.length=1->gw ls p4->iB (ls++List.replicate 4 .un) (aO ls p4):=by
 rintro ls p4 - ⟨qs,rfl,hl,hb,h⟩;unfold iB;walk_at "w";refine j4 (enc:=PH) qs (λpre Z=>∃x2 x3 x4,Z=[.d (.lst (qs.map PH)),.d (.int (QF pre:Int)),x2,x3,x4]) _ ⟨_,_,_,rfl⟩ ?_ ?_
 .
  rintro pre q suf Z hsp ⟨x2,x3,x4,rfl⟩ Q h1 h2 h3 h4;have dq:=den_pos q;have hpre:∀p∈pre,RB 60 p:=λp hp=>hb p (by rw[hsp];simp[hp]);have hpl:pre.length<=20:=by have:=congrArg List.length hsp;rw[List.length_append,List.length_cons]at this;omega
  obtain⟨c0,c1⟩:=mG hpl hpre;have qb:=hb q (by rw[hsp];simp);have g0:0<Nat.gcd (QF pre) q.den:=Nat.gcd_pos_of_pos_right _ dq;have gl:Nat.gcd (QF pre) q.den<=q.den:=Nat.le_of_dvd dq (Nat.gcd_dvd_right _ _);unfold jF;walk_at "w";refine FM dq λx4=>?_;walk_at "w";have eg:(Int.gcd (QF pre:Int) (q.den:Int))=Nat.gcd (QF pre) q.den:=rfl;have c12:(2:Nat)^1200<2^1201:=Nat.pow_lt_pow_right x_ x_;have qd:=qb.2;have e1:(((Nat.gcd (QF pre) q.den:Nat):Int)).natAbs<2^9000:=by rw[Int.natAbs_natCast];exact SO gl (SD qd (SL x_ x_))
  have e2:((QF pre:Int).fdiv ((Nat.gcd (QF pre) q.den:Nat):Int)).natAbs<2^1201:=by rw[Int.fdiv_eq_ediv_of_nonneg _ xL,<- Int.natCast_ediv,Int.natAbs_natCast];exact SO (Nat.div_le_self _ _) xL
  have ll:=CB (a:=QF pre) dq;rw[eg]at ll ⊢;refine⟨xL,e1,aF e2 x_,qb.bd x_,?_⟩;rw[ll,<- Lp];exact h1 _ ⟨_,_,_,rfl⟩
 .
  rintro Z ⟨x2,x3,x4,rfl⟩;walk_at "w";obtain⟨c0,c1⟩:=mG hl hb;refine⟨SJ hl x_,cD (enc:=PH) (h:=λq=>D.int (d9 (QF qs) q)) qs _ _ (λq hq Q hQ=>?_) λl a=>?_⟩
  .
   unfold jE;have qb:=hb q hq;have dq:=den_pos q;have ed:(QF qs:Int).fdiv (q.den:Int)=((QF qs / q.den:Nat):Int):=by rw[Int.fdiv_eq_ediv_of_nonneg _ xL,<- Int.natCast_ediv]
   walk_at "w";rw[ed];have c12:(2:Nat)^1200<2^1201:=Nat.pow_lt_pow_right x_ x_;have e2:(((QF qs / q.den:Nat):Int)).natAbs<2^1201:=by rw[Int.natAbs_natCast];exact SO (Nat.div_le_self _ _) xL
   refine⟨xL,SD (show((q.den:Int)).natAbs<2^60 by simpa using qb.2) (SL x_ x_),qb.bn x_,aF e2 x_,?_⟩;exact hQ
  . walk_at "w";exact⟨x_,_,aj aX,h⟩
def lW:FS:=λls p4=>∃(R:aV)(f:Nat->Int)(b:Nat)(str:Nat->Rat),ls=[.d (aE R),.d (.lst (ff R.n f)),.d (.int (b:Int))]/\R.Ok/\(∀t,t<R.n->(f t).natAbs<2^2000)/\0<b/\b<=2^1200/\(∀t,t<R.n->str t=((f t:Int):Rat) / (b:Rat) / R.room t)/\p4 (.d (PH (AL R.n str))) ls
def oO:W Fl:=(aT (bo 5 (au aM (au aM (ak 0) (wC (.int 0))) (ak 4)))
  (aT (bo 6 (ko (ar (bE (au bc (au aM (ak 1) (ak 4)) (au aM (ak 5) (wC (.int 1))))) (ar (bE (au bc (ak 2) (au aM (ak 5) (wC (.int 0))))) aJ))))
  (Pi (aZ (au yw (au bc (au aM (ak 3) (wC (.int 0))) (au aM (ak 6) (wC (.int 1)))) (au bc (au aM (ak 6) (wC (.int 0))) (au aM (ak 3) (wC (.int 1)))))) (bo 3 (ak 6)) c8)))
def oi:W Fl:=(aT (bo 3 (ko (ar (wC (.int 0)) (ar (wC (.int 1)) aJ))))
  (aT (tQ (jb (aR bJ (ar (ak 1) aJ))) (aW 4) oO)
  (cQ (ba fC (ar (au aM (ak 3) (wC (.int 0))) (ar (au aM (ak 3) (wC (.int 1))) aJ))))))
theorem wk:∀ls p4,ls.length=3->lW ls p4->oi (ls++List.replicate 4 .un) (aO ls p4):=by
 rintro ls p4 - ⟨R,f,b,str,rfl,hR,hf,b0,b1,hs,h⟩;have hi:=hR.hi;unfold oi;walk_at "w";refine⟨x_,?_⟩;rw[mF];refine⟨⟨xL,xL⟩,?_⟩;rw[Int.toNat_natCast];refine fb _ (λj Z=>∃(p q:Int)(x4 x5 x6:L),Z=[.d (aE R),.d (.lst (ff R.n f)),.d (.int (b:Int)),.d (.tup [.int p,.int q]),x4,x5,x6]/\0<q/\p.natAbs<2^2060/\q.natAbs<2^2060/\Rat.divInt p q=AL j str) _ ⟨0,1,_,_,_,rfl,x_,x_,Nat.one_lt_two_pow x_,by rw[Rat.zero_divInt];rfl⟩ ?_ ?_
 .
  rintro j Z hj ⟨p,q,x4,x5,x6,rfl,q0,pb,qb,et⟩ Q h1 h2 h3 h4;obtain⟨r1,r2⟩:=ly hR hj;have n1:=xK r1;have se:=xM (f:=f j) b0 r1;rw[<- hs j hj]at se;have f1:=hf j hj;have d1:((R.room j).den:Int).natAbs<2^60:=by simpa using r2.2
  have bb:((b:Int)).natAbs<2^1201:=by rw[Int.natAbs_natCast];exact SO b1 (Nat.pow_lt_pow_right x_ x_)
  have m1:(f j*((R.room j).den:Int)).natAbs<2^2060:=by rw[Int.natAbs_mul];exact a8 (m:=2000) (n:=60) f1 d1
  have m2:((b:Int)*(R.room j).num).natAbs<2^2060:=by rw[Int.natAbs_mul];exact SD (a8 (m:=1201) (n:=60) bb r2.1) (SL x_ x_)
  have s0:0<(b:Int)*(R.room j).num:=Int.mul_pos xL n1;have ts:=qt j str;rw[<- et,se]at ts;have lt:=As (a:=p) (c:=f j*((R.room j).den:Int)) q0 s0;unfold oO;walk_at "w";refine⟨_,ug hj,?_⟩;walk_at "w";refine⟨_,qp hj,?_⟩;walk_at "w";refine⟨aF f1 x_,aF d1 x_,aF bb x_,aF r2.1 x_,x_,aF pb x_,aF m2 x_,aF m1 x_,aF qb x_,?_⟩;by_cases c:p*((b:Int)*(R.room j).num)<f j*((R.room j).den:Int)*q
  . rw[if_pos c];rw[if_pos (lt.mpr c)]at ts;exact h1 _ ⟨_,_,_,_,_,rfl,s0,m1,m2,ts.symm⟩
  . rw[if_neg c];rw[if_neg λz=>c (lt.mp z)]at ts;exact h1 _ ⟨_,_,_,_,_,rfl,q0,pb,qb,ts.symm⟩
 . rintro Z ⟨p,q,x4,x5,x6,rfl,q0,pb,qb,et⟩;walk_at "w";refine⟨p,q,rfl,xL,SD qb (SL x_ x_),?_⟩;rw[et];exact⟨_,aj (aj (aj aX)),h⟩
def eO:FS:=λls p4=>∃(R:aV)(zs:List Int)(ws:List Bool),ls=[.d (aE R),.d (.lst (R.asks.map λa=>D.lst ((Qy R.n a.one a.other).map λ(t:Nat)=>D.int (t:Int)))),.d (.lst (zs.map .int)),.d (iV ws)]/\R.Ok/\zs.length=R.asks.length/\ws.length=R.asks.length/\∀c,p4 (.own c (ff R.n (hZ R.n R.asks zs ws))) ls
def kM:W Fl:=(Pi (aZ (au lj (au (zW false) (ak 6) (au aM (ak 1) (ak 5))) (au lj (au aM (ak 3) (ak 5)) (wC (.str "on"))))) (xa 4 (ak 6) (au b7 (d6 4 (yB 4 (ak 6)) (au aM (ak 4) (ak 6))) (au aM (ak 2) (ak 5)))) c8)
def kN:W Fl:=(tQ (jb (d6 4 (D1 4) (aR bJ (ar (ak 4) aJ)))) (aW 6) kM)
def kO:W L:=(wC (.int 0))
def jG:W Fl:=(aT (bo 4 (d5 1 [] (rL (au aM (ak 0) (wC (.int 0)))) (aW 0) eX kO))
  (aT (tQ (jb (aR bJ (ar (ak 3) aJ))) (aW 5) kN)
  (cQ (pT 4))))
theorem Gw{R:aV}(hR:R.Ok){k t:Nat}(hk:k<R.asks.length)(ht:t<R.n):O5 (.int (t:Int)) ((Qy R.n R.asks[k].one R.asks[k].other).map λ(t:Nat)=>D.int (t:Int))=lu R.n R.asks[k] t:=by
 rw[zg];have:=Iu (hR.ask _ (List.getElem_mem hk)) true ht;cases e:lu R.n R.asks[k] t
 . rw[e]at this;refine decide_eq_false λz=>?_;have:=this.mp z;simp at this
 . rw[e]at this;exact decide_eq_true (this.mpr rfl)
theorem r9:∀ls p4,ls.length=4->eO ls p4->jG (ls++List.replicate 3 .un) (aO ls p4):=by
 rintro ls p4 - ⟨R,zs,ws,rfl,hR,hz,hw,h⟩;have few:=hR.few;have hi:=hR.hi;unfold jG;walk_at "w";refine⟨SJ hi x_,cD (enc:=PH) (h:=λ_=>D.int 0) R.rooms _ _ (λq hq Q hQ=>?_) λl c=>?_⟩
 . unfold kO;exact hQ
 have e0:R.rooms.map (λ_=>D.int 0)=ff R.n (hZ R.n (R.asks.take 0) (zs.take 0) (ws.take 0)):=by unfold ff;refine List.ext_getElem (by simp[aV.n]) λj h1 h2=>?_;simp[hZ]
 rw[List.nil_append,e0];unfold iV;walk_at "w";refine⟨⟨xL,xL⟩,?_⟩;rw[Int.toNat_natCast];refine fb _ (λk Z=>∃x5 x6,Z=[.d (aE R),.d (.lst (R.asks.map λa=>D.lst ((Qy R.n a.one a.other).map λ(t:Nat)=>D.int (t:Int)))),.d (.lst (zs.map .int)),.d (.lst (ws.map λw=>D.str (d8 w))),.own c (ff R.n (hZ R.n (R.asks.take k) (zs.take k) (ws.take k))),x5,x6]) _ ⟨_,_,rfl⟩ ?_ ?_
 .
  rintro k Z hk ⟨x5,x6,rfl⟩ Q h1 h2 h3 h4;have hka:k<R.asks.length:=by omega
  have hkz:k<zs.length:=by omega
  unfold kN;walk_at "w";rw[mF];refine⟨⟨xL,xL⟩,?_⟩;rw[Int.toNat_natCast]
  refine fb _ (λj Z=>∃x6,Z=[.d (aE R),.d (.lst (R.asks.map λa=>D.lst ((Qy R.n a.one a.other).map λ(t:Nat)=>D.int (t:Int)))),.d (.lst (zs.map .int)),.d (.lst (ws.map λw=>D.str (d8 w))),.own c (ff R.n λt=>if t<j then hZ R.n (R.asks.take (k+1)) (zs.take (k+1)) (ws.take (k+1)) t else hZ R.n (R.asks.take k) (zs.take k) (ws.take k) t),.d (.int (k:Int)),x6]) _ ⟨_,by congr⟩ ?_ ?_
  .
   rintro j Z hj ⟨x6,rfl⟩ Q g1 g2 g3 g4;have su:=CH (n:=R.n) (as:=R.asks) (zs:=zs) (ws:=ws) hka hkz hk j;unfold kM;walk_at "w";refine⟨_,bN hka,rfl,vV _,_,bN hk,?_⟩;walk_at "w";rw[Gw hR hka hj]
   have Ov:∀v:Int,v=hZ R.n (R.asks.take (k+1)) (zs.take (k+1)) (ws.take (k+1)) j->(ff R.n λt=>if t<j then hZ R.n (R.asks.take (k+1)) (zs.take (k+1)) (ws.take (k+1)) t else hZ R.n (R.asks.take k) (zs.take k) (ws.take k) t).set j (.int v)=ff R.n λt=>if t<j+1 then hZ R.n (R.asks.take (k+1)) (zs.take (k+1)) (ws.take (k+1)) t else hZ R.n (R.asks.take k) (zs.take k) (ws.take k) t:=λv ev=>by
    rw[Fs];refine nT λt _=>?_;by_cases e:t=j
    . subst e;simp[ev]
    .
     by_cases e2:t<j
     . simp[e,e2,show t<j+1 by omega]
     . simp[e,e2,show ¬t<j+1 by omega]
   have same:∀b:Bool,decide (b=true)=b:=λb=>by cases b<;>rfl
   rw[same];by_cases c1:lu R.n R.asks[k] j=ws[k]
   . rw[if_pos c1];rw[if_pos (by rw[c1];exact beq_self_eq_true _)]at su;refine⟨_,qp hj,_,bN hkz,?_⟩;walk_at "w";refine⟨j,CI hj,?_⟩;rw[if_neg (Nat.lt_irrefl j)];rw[Ov _ su.symm];exact g1 _ ⟨_,rfl⟩
   .
    rw[if_neg c1];rw[if_neg (by simpa using c1),Int.add_zero]at su
    have ei:(ff R.n λt=>if t<j then hZ R.n (R.asks.take (k+1)) (zs.take (k+1)) (ws.take (k+1)) t else hZ R.n (R.asks.take k) (zs.take k) (ws.take k) t)=ff R.n λt=>if t<j+1 then hZ R.n (R.asks.take (k+1)) (zs.take (k+1)) (ws.take (k+1)) t else hZ R.n (R.asks.take k) (zs.take k) (ws.take k) t:=nT λt ht=>by
     by_cases e:t=j
     . subst e;simp[su]
     .
      by_cases e2:t<j
      . simp[e2,show t<j+1 by omega]
      . simp[e2,show ¬t<j+1 by omega]
    rw[ei];exact g1 _ ⟨_,rfl⟩
  .
   rintro Z ⟨x6,rfl⟩;walk_at "w"
   have ei:(ff R.n λt=>if t<R.n then hZ R.n (R.asks.take (k+1)) (zs.take (k+1)) (ws.take (k+1)) t else hZ R.n (R.asks.take k) (zs.take k) (ws.take k) t)=ff R.n (hZ R.n (R.asks.take (k+1)) (zs.take (k+1)) (ws.take (k+1))):=nT λt ht=>by rw[if_pos ht]
   rw[ei];exact h1 _ ⟨_,_,rfl⟩
 . rintro Z ⟨x5,x6,rfl⟩;rw[List.take_of_length_le xL,List.take_of_length_le xL,List.take_of_length_le (SN _)];walk_at "w";exact⟨_,aj (aj (aj (aj aX))),h c⟩
def cV:FS:=λls p4=>∃n:Nat,ls=[.d (.int (n:Int))]/\n<=7/\∀c,p4 (.own c ((sW n).map iV)) ls
def gQ:W L:=(au b7 (ak 0) (l6 (ar (wC (.str "on")) aJ)))
def gR:W L:=(au b7 (ak 0) (l6 (ar (wC (.str "back")) aJ)))
def gS:W Fl:=(bo 1 (au b7 (d5 1 [] (rL (ak 1)) (aW 0) eX gQ) (d5 1 [] (rL (ak 1)) (aW 0) eX gR)))
def fF:W Fl:=(aT (bo 1 (l6 (ar (bE (l6 aJ)) aJ)))
  (aT (tQ (jb (ak 0)) (aW 2) gS)
  (cQ (pT 1))))
theorem oj:∀ls p4,ls.length=1->cV ls p4->fF (ls++List.replicate 2 .un) (aO ls p4):=by
 rintro ls p4 - ⟨n,rfl,hn,h⟩;unfold fF;walk_at "w";refine⟨x_,λc1=>⟨x_,λc2=>⟨⟨xL,xL⟩,?_⟩⟩⟩;rw[Int.toNat_natCast];refine fb _ (λj Z=>∃c x2,Z=[.d (.int (n:Int)),.own c ((sW j).map iV),x2]) _ ⟨_,_,rfl⟩ ?_ ?_
 .
  rintro j Z hj ⟨c,x2,rfl⟩ Q h1 h2 h3 h4;have hp:2^j<=2^6:=SL x_ xL;unfold gS;walk_at "w";have sl:(128:Nat)<=sizeLine:=by decide
  rw[j9];have one:∀v,v∈sW j->v.length+1<=sizeLine:=λv hv=>by rw[fQ.mp hv];omega
  refine⟨xL,cD (h:=λv=>iV (v++[true])) _ _ _ (λv hv Q hQ=>?_) λl c3=>⟨xL,cD (h:=λv=>iV (v++[false])) _ _ _ (λv hv Q hQ=>?_) λl c4=>?_⟩⟩
  .
   unfold gQ;have e:iV (v++[true])=.lst ((v.map λw=>D.str (d8 w))++[.str "on"]):=by rw[iV,List.map_append]; rfl
   rw[e]at hQ;unfold iV;walk_at "w";exact⟨x_,λ_=>⟨one v hv,λ_=>hQ⟩⟩
  .
   unfold gR;have e:iV (v++[false])=.lst ((v.map λw=>D.str (d8 w))++[.str "back"]):=by rw[iV,List.map_append]; rfl
   rw[e]at hQ;unfold iV;walk_at "w";exact⟨x_,λ_=>⟨one v hv,λ_=>hQ⟩⟩
  rw[List.nil_append,List.nil_append,SH,SH,j9];refine⟨xL,λc5=>h1 _ ⟨c5,.d (.int (j:Int)),?_⟩⟩;rw[sW,List.map_append,List.map_map,List.map_map];rfl
 . rintro Z ⟨c,x2,rfl⟩;walk_at "w";exact⟨_,aj aX,h _⟩
def jH:FS:=λls p4=>∃(a:Addr)(xs:List D)(R:aV),ls=[.own a xs,.d (aE R),.d (cA R),.d (cB R)]/\c9 xs/\R.Ok/\(∀a∈R.asks,RB 60 a.size)/\R.asks.length<=7 /\
 ∀(w:j8)(ys:List D),c9 ys->RB 1750 w.top->w.elder.length=R.asks.length->w.most<=9->p4 (.d (aP w)) [.own a ys,.d (aE R),.d (cA R),.d (cB R)]
def m9:W Fl:=(cQ (ko (ar (ak 7) (ar (J3 (ak 9) (au lj (ak 8) (wC (.int 0)))) (ar (ak 10) (ar (ak 11) aJ))))))
def nc:W L:=(au aM (l6 (ar (wC (.str "on")) (ar (wC (.str "back")) (ar (wC .non) aJ)))) (a7 aB 0 1 (gJ 1 (ar (wC (.int 3)) aJ))))
def ng:W Fl:=(aT (bo 11 (bE (a7 aB 0 0 (gJ 0 (ar (bE (au b7 (ak 4) (wC (.int 2)))) aJ)))))
  m9)
def iC:W Fl:=(aT (bo 10 (d5 1 [0] (jb (ak 4)) (aW 0) eX nc))
  ng)
def nh:W Fl:=(aT (Pi (aZ (au lj (ak 8) (wC (.int 4)))) (bo 7 (bE (a7 cg 0 0 (gJ 0 (ar (wC (.int 0)) (ar (wC (.int 2)) aJ)))))) c8)
  iC)
def nk:W Fl:=(aT (bo 7 (au aM (l6 (ar (ak 6) (ar (ak 6) (ar (au aM (ak 5) (a7 aB 0 0 (gJ 0 (ar (bE (aR bJ (ar (ak 5) aJ))) aJ)))) (ar (bE (ba fC (ar (bE (au bc (au aM (ak 6) (wC (.int 0))) (wC (.int 3)))) (ar (bE (au bc (au aM (ak 6) (wC (.int 1))) (wC (.int 4)))) aJ)))) aJ))))) (aR Bq (ar (ak 8) (ar (wC (.int 3)) aJ)))))
  nh)
def nq:W Fl:=(aT (bo 9 (au lj (a7 aB 0 0 (gJ 0 (ar (wC (.int 2)) aJ))) (wC (.int 0))))
  nk)
def nr:W Fl:=(Pi (aZ (au yw (au bc (au aM (ak 7) (wC (.int 0))) (au aM (ak 6) (wC (.int 1)))) (au bc (au aM (ak 6) (wC (.int 0))) (au aM (ak 7) (wC (.int 1)))))) (bo 6 (ak 7)) c8)
def iD:W Fl:=(aT (bo 8 (bE (a7 aB 0 0 (gJ 0 (ar (wC (.int 5)) aJ)))))
  nq)
def nu:W Fl:=(aT (tQ (rL (ak 5)) (aW 7) nr)
  iD)
def ny:W L:=(ba lW (ar (ak 1) (ar (bE (ba eO (ar (ak 1) (ar (ak 2) (ar (au aM (ak 3) (wC (.int 0))) (ar (ak 0) aJ)))))) (ar (au aM (ak 3) (wC (.int 1))) aJ))))
def nB:W Fl:=(aT (bo 6 (au aM (ak 5) (wC (.int 0))))
  nu)
def nC:W Fl:=(aT (bo 5 (d5 1 [1,2,3] (rL (ba cV (ar (ak 4) aJ))) (aW 0) eX ny))
  nB)
def lX:W Fl:=(aT (bo 4 (bE (aR bJ (ar (au aM (ak 1) (wC (.int 1))) aJ))))
  nC)
theorem NA{a:Addr}{xs:List D}{d1 d2 d3:D}{n:Nat}{x5 x6:L}{b9:Bool}{r1:Int}{p4:L->List L->Prop}(h7:n<=7)
  (h:∀(w:j8)(ys:List D),c9 ys->RB 1750 w.top->w.elder.length=n->w.most<=9->p4 (.d (aP w)) [.own a ys,.d d1,.d d2,.d d3]) {q:Rat} {yy:List D} (hq:RB 1750 q) (hy:c9 yy) :
  iC [.own a yy,.d d1,.d d2,.d d3,.d (.int (n:Int)),x5,x6,.d (PH q),.d (.int r1),.d (.bl b9),.un,.un] (aO [.own a xs,.d d1,.d d2,.d d3] p4):=by
 unfold iC;walk_at "w";rw[Int.toNat_natCast,mx];refine⟨⟨xL,xL⟩,by rw[SH,List.length_range];exact SJ h7 x_,?_⟩;refine t9 _ (λj Z acc=>∃(l:L)(ys:List D)(el:List (Option Bool)),Z=[l,.own a ys]/\c9 ys/\el.length=j/\acc=el.map oG) _ _ ⟨_,yy,[],rfl,hy,rfl,rfl⟩ ?_ ?_
 .
  rintro j x Z acc hj ⟨l,ys,el,rfl,hy,he,rfl⟩ Q hQ;unfold nc;walk_at "w";simp only[eX,if_true];walk_at "w";refine⟨x_,λ_=>⟨a,ys,3,rfl,hy,x_,x_,λr zs hz r0 r1=>⟨zs,rfl,?_⟩⟩⟩;walk_at "w";have hr:r=0∨r=1∨r=2:=by omega
  rcases hr with rfl|rfl|rfl
  . exact⟨_,qf,hQ _ _ ⟨_,zs,el++[some true],rfl,hz,by simp[he],by rw[List.map_append];rfl⟩⟩
  . exact⟨_,qg,hQ _ _ ⟨_,zs,el++[some false],rfl,hz,by simp[he],by rw[List.map_append];rfl⟩⟩
  . exact⟨_,EE,hQ _ _ ⟨_,zs,el++[none],rfl,hz,by simp[he],by rw[List.map_append];rfl⟩⟩
 rintro Z acc ⟨l,ys,el,rfl,hys,he,rfl⟩;rw[SH,List.length_range]at he;intro c3;walk_at "w";unfold ng;walk_at "w";refine⟨a,ys,_,rfl,hys,xL,xL,λr5 y5 z5 r50 r51=>⟨y5,rfl,?_⟩⟩;obtain⟨mo,rfl⟩:=Int.eq_ofNat_of_zero_le r50;walk_at "w";unfold m9;walk_at "w";split
 . exact⟨x_,_,dO SE (aj (aj (aj aX))),h ⟨q,true,el,mo⟩ y5 z5 hq he (by show mo<=9;omega)⟩
 . exact⟨x_,_,dO SE (aj (aj (aj aX))),h ⟨q,decide (r1=0),el,mo⟩ y5 z5 hq he (by show mo<=9;omega)⟩
theorem Oc{a:Addr}{zs xs:List D}{d1 d2 d3:D}{n:Nat}{x7:L}{Ts:List Rat}{T:Rat}{p4:L->List L->Prop}(h7:n<=7)(hx:c9 xs)(hn:0<Ts.length)(hl:Ts.length<=128)(hT:∀t∈Ts,RB 1325 t)(sb:RB 1325 T)
  (h:∀(w:j8)(ys:List D),c9 ys->RB 1750 w.top->w.elder.length=n->w.most<=9->p4 (.d (aP w)) [.own a ys,.d d1,.d d2,.d d3]) :
  iD [.own a xs,.d d1,.d d2,.d d3,.d (.int (n:Int)),.d (.lst (Ts.map PH)),.d (PH T),x7,.un,.un,.un,.un] (aO [.own a zs,.d d1,.d d2,.d d3] p4):=by
 unfold iD;walk_at "w";refine⟨a,xs,5,rfl,hx,x_,x_,λr1 y1 z1 r10 r11=>⟨y1,rfl,?_⟩⟩;walk_at "w";unfold nq;walk_at "w";refine⟨a,y1,2,rfl,z1,x_,x_,λr2 y2 z2 r20 r21=>⟨y2,rfl,?_⟩⟩;walk_at "w";unfold nk;walk_at "w";refine⟨a,y2,_,rfl,z2,xL,xL,λr3 y3 z3 r30 r31=>⟨y3,rfl,?_⟩⟩;obtain⟨k,rfl⟩:=Int.eq_ofNat_of_zero_le r30;have hk:k<Ts.length:=by omega
 have tk:=hT _ (List.getElem_mem hk);walk_at "w";have dn:T.den≠0:=T.den_nz;have e3:(T.num*3).natAbs<2^1330:=by rw[Int.natAbs_mul];exact SD (Nat.mul_lt_mul_of_lt_of_le sb.1 (show(3:Int).natAbs<=2^5 by decide) x_) (by rw[<- Nat.pow_add];exact SN _)
 have e4:((T.den:Int)*4).natAbs<2^1330:=by rw[Int.natAbs_mul,Int.natAbs_natCast];exact SD (Nat.mul_lt_mul_of_lt_of_le sb.2 (show(4:Int).natAbs<=2^5 by decide) x_) (by rw[<- Nat.pow_add];exact SN _)
 refine⟨_,bN hk,aF sb.1 x_,bA x_,aF (by simpa using sb.2) x_,bA x_,_,_,rfl,xL,SD e4 (SL x_ x_),?_⟩;have lb:RB 1330 (Rat.divInt (T.num*3) ((T.den:Int)*4)):=RB.of_divInt xL e3 e4;walk_at "w"
 obtain⟨q,eq,hq⟩:∃q:Rat,OV [PH T,PH T,PH Ts[k],PH (Rat.divInt (T.num*3) ((T.den:Int)*4))] (if(3:Int)<r1 then 3 else r1)=some (PH q)/\RB 1750 q:=by
  have:r1=0∨r1=1∨r1=2∨r1=3∨r1=4:=by omega
  rcases this with rfl|rfl|rfl|rfl|rfl
  . exact⟨_,rfl,sb.mono x_⟩
  . exact⟨_,rfl,sb.mono x_⟩
  . exact⟨_,rfl,tk.mono x_⟩
  . exact⟨_,rfl,lb.mono x_⟩
  . exact⟨_,rfl,lb.mono x_⟩
 refine⟨x_,λ_=>⟨_,eq,?_⟩⟩;unfold nh;walk_at "w";split
 . refine⟨a,y3,0,2,rfl,z3,x_,x_,x_,x_,λq2 y4 z4 q20 _ q21=>⟨y4,rfl,?_⟩⟩;walk_at "w";exact NA h7 h (q21.mono x_) z4
 . exact NA h7 h hq z3
theorem uK:∀ls p4,ls.length=4->jH ls p4->lX (ls++List.replicate 8 .un) (aO ls p4):=by
 rintro ls p4 - ⟨a,xs,R,rfl,hx,hR,hT,h7,h⟩;obtain⟨b0,b1⟩:=CM hR hT;have few:=hR.few;unfold lX;walk_at "w";unfold nC;walk_at "w";refine⟨_,rfl,h7,λc1=>?_⟩;walk_at "w";have hp:2^R.asks.length<=2^7:=SL x_ h7;refine⟨by rw[j9];exact SJ hp x_,cD (h:=λws=>PH (Gp R ws)) _ _ _ (λvs hm Q hq=>?_) λl c2=>?_⟩
 . have hv:vs.length=R.asks.length:=fQ.mp hm;unfold ny cB at *;walk_at "w";refine⟨R,rH R,vs,rfl,hR,by simp[rH,QN],hv,λc2=>?_⟩;walk_at "w";refine⟨R,_,_,Au R vs,rfl,hR,λt ht=>SD (qq hR hT vs t) (SL x_ x_),b0,b1,λt ht=>uk hR hT hv t,?_⟩;rw[K8 hR hT hv];exact hq
 walk_at "w";unfold nB;walk_at "w";have hn:0<(sW R.asks.length).length:=by rw[j9];exact Nat.pow_pos x_
 have h0:((sW R.asks.length)[0]).length=R.asks.length:=fQ.mp (List.getElem_mem hn);refine⟨_,bN (k:=0) hn,?_⟩;unfold nu;walk_at "w";refine j4 (enc:=λws=>PH (Gp R ws)) (sW R.asks.length) (λpre Z=>∃(ws:List Bool)(x7:L),ws.length=R.asks.length/\Z=[.own a xs,.d (aE R),.d (cA R),.d (cB R),.d (.int (R.asks.length:Int)),.d (.lst ((sW R.asks.length).map λws=>PH (Gp R ws))),.d (PH (Gp R ws)),x7,.un,.un,.un,.un]) _ ⟨_,_,h0,rfl⟩ ?_ ?_
 .
  rintro pre vs suf Z hsp ⟨ws,x7,hw,rfl⟩ Q h1 h2 h3 h4;have hv:vs.length=R.asks.length:=fQ.mp (by rw[hsp];simp);have tb:=um hR hT hv;have sb:=um hR hT hw;unfold nr;walk_at "w";refine⟨aF tb.1 x_,aF (by simpa using sb.2) x_,aF sb.1 x_,aF (by simpa using tb.2) x_,?_⟩;split
  . exact h1 _ ⟨vs,_,hv,rfl⟩
  . exact h1 _ ⟨ws,_,hw,rfl⟩
 rintro Z ⟨ws,x7,hw,rfl⟩;have sb:=um hR hT hw;rw[show((sW R.asks.length).map λws=>PH (Gp R ws))=((sW R.asks.length).map (Gp R)).map PH by rw[List.map_map];rfl];refine Oc h7 hx (by rw[SH];exact hn) (by rw[SH,j9];exact hp) (λt ht=>?_) sb h;obtain⟨vs,hv,rfl⟩:=List.mem_map.mp ht;exact um hR hT (fQ.mp hv)
def iE:FS:=λls p4=>∃(R:aV)(w:j8)(F:List (Nat×Bool))(c:Nat×Nat),ls=[.d (aE R),.d (cA R),.d (cB R),.d (aP w),.d (QR F),.d (.int (c.1:Int)),.d (.int (c.2:Int))]/\R.Ok/\(∀a∈R.asks,RB 60 a.size)/\RB 2000 w.top/\lx R.n c/\p4 (.d (.bl (dD w.strict (qr R w.top (jg R.asks.length F) c) (QH R w.top c.1+QH R w.top c.2)))) ls
def kP:W Fl:=(cQ (J3 (au AI (ak 9) (ak 14)) (ma (au aM (ak 3) (wC (.int 1))) (au lj (ak 9) (ak 14)))))
def kQ:W Fl:=(aT (bo 14 (bE (au bc (au bc (au aM (au aM (ak 3) (wC (.int 0))) (wC (.int 0))) (au b7 (au bc (au aM (ak 12) (wC (.int 0))) (au aM (ak 13) (wC (.int 1)))) (au bc (au aM (ak 13) (wC (.int 0))) (au aM (ak 12) (wC (.int 1)))))) (ak 8))))
  kP)
def gy:W Fl:=(aT (bo 9 (bE (au bc (au bc (au bc (ak 9) (au aM (ak 12) (wC (.int 1)))) (au aM (ak 13) (wC (.int 1)))) (au aM (au aM (ak 3) (wC (.int 0))) (wC (.int 1))))))
  kQ)
def gz:W Fl:=(aT (bo 13 (au aM (au aM (ak 0) (wC (.int 0))) (ak 6)))
  gy)
def kR:W L:=(au lj (au (zW false) (ak 0) (au aM (ak 1) (ak 2))) (au lj (B3 3 (ar (ak 2) (ar (wC (.str "on")) aJ))) (wC (.str "on"))))
def gU:W Fl:=(Pi (aZ (Jn false 4 (ak 10))) (bo 9 (bE (au b7 (ak 9) (au bc (au aM (ak 7) (ak 10)) (au b7 (aR tS (ar (au aM (ak 11) (wC (.int 0))) aJ)) (aR tS (ar (au aM (ak 11) (wC (.int 1))) aJ))))))) (Pi (aZ (au yz (au aM (ak 11) (wC (.int 0))) (au aM (ak 11) (wC (.int 1))))) (bo 9 (bE (au b7 (ak 9) (au aM (ak 7) (ak 10))))) c8))
def gA:W Fl:=(aT (bo 11 (d5 1 [1,10,4] (rL (ko (ar (ak 5) (ar (ak 6) aJ)))) (aW 0) eX kR))
  gU)
def kT:W Fl:=(aT (bo 12 (au aM (au aM (ak 0) (wC (.int 0))) (ak 5)))
  gz)
def kU:W Fl:=(aT (tQ (jb (aR bJ (ar (ak 7) aJ))) (aW 10) gA)
  kT)
def kW:W Fl:=(aT (bo 9 (wC (.int 0)))
  kU)
def jI:W Fl:=(aT (D2 [7,8] (ak 2))
  kW)
theorem Jd(o:Option Bool):(o.map λb=>D.str (d8 b)).getD (.str (Str.ofString "on"))=.str (d8 (o.getD true)):=by cases o <;> rfl
theorem Lq(b:Bool):Pp (.str (d8 b)) (.str (Str.ofString "on"))=b:=by rw[xc];cases b<;>decide +kernel
theorem Je(a b:Bool):decide (a=b)=(a == b):=by cases a<;>cases b<;>rfl
theorem Jf{R:aV}{F:List (Nat×Bool)}{c:Nat×Nat}(hR:R.Ok)(hc:lx R.n c){k:Nat}(hk:k<R.asks.length){x0 x2 x3 x8 x11 x12 x13 x14:L}{u:List Int}{l:Int}(hu:u.length=R.asks.length)(hb:∀i,cn (u.getD i 0)){Q:Fl->Ev->Prop}
  (h:∀x11,Q .nx [x0,.d (cA R),x2,x3,.d (QR F),.d (.int (c.1:Int)),.d (.int (c.2:Int)),.d (.lst (u.map .int)),x8,.d (.int (l+u.getD k 0*QM R (jg R.asks.length F) c k)),.d (.int (k:Int)),x11,x12,x13,x14]) :
  gA [x0,.d (cA R),x2,x3,.d (QR F),.d (.int (c.1:Int)),.d (.int (c.2:Int)),.d (.lst (u.map .int)),x8,.d (.int l),.d (.int (k:Int)),x11,x12,x13,x14] Q:=by
 have c1:=hc.1;have c2:=hc.2;unfold gA QR;walk_at "w";refine⟨x_,x_,cD (enc:=λ(t:Nat)=>D.int (t:Int)) (h:=λt=>.bl (QA R k t == (F.lookup k).getD true)) [c.1,c.2] [] _ (λt ht Q q=>?_) λl'=>?_⟩
 .
  have htn:t<R.n:=by simp only[SK,List.not_mem_nil,or_false]at ht;rcases ht with rfl|rfl<;>omega
  have hin:=Gw hR hk htn;have ho:QA R k t=lu R.n R.asks[k] t:=by unfold QA;rw[fP hk]
  rw[ho]at q;unfold cA at q;unfold kR cA;walk_at "w";refine⟨_,bN hk,rfl,?_⟩;walk_at "w";rw[sX,Jd,hin,Lq,Je];exact⟨vV _,gN _,q⟩
 .
  walk_at "w";intro _;unfold gU;walk_at "w";have hku:k<u.length:=by omega
  have eu:u.getD k 0=u[k]:=by rw[SA,so hku];rfl
  have ht:=CU hR hk (F:=F) hc;have b1:=hb k;rw[eu]at b1 h;rw[sX,Option.isSome_map];unfold QR at h
  cases e:F.lookup k with
  | some b =>
   rw[e]at ht;rw[ht]at h;simp only[Option.isSome_some,Option.getD_some,if_true];refine⟨_,bN hku,b1,?_,h _⟩;show Int.natAbs _<2^1000000;refine SD (show _<2^3 from ?_) (SL x_ x_);split<;>split<;>decide
  | none =>
   rw[e]at ht;rw[ht]at h;simp only[Option.isSome_none,Option.getD_none,Bool.false_eq_true,if_false];by_cases d:(QA R k c.1 == true)=(QA R k c.2 == true)
   .
    have d2:(QA R k c.1 != QA R k c.2)=false:=by revert d;cases QA R k c.1<;>cases QA R k c.2<;>decide
    rw[d2]at h;rw[if_neg (by simpa using d)];have:=h (.d (.lst [.bl (QA R k c.1 == true),.bl (QA R k c.2 == true)]));simpa using this
   .
    have d2:(QA R k c.1 != QA R k c.2)=true:=by revert d;cases QA R k c.1<;>cases QA R k c.2<;>decide
    rw[d2]at h;rw[if_pos d];refine⟨_,bN hku,?_⟩;have:=h (.d (.lst [.bl (QA R k c.1 == true),.bl (QA R k c.2 == true)]));simpa using this
theorem Od{w:j8}(hw:RB 2000 w.top){S B:Int}(sab:S.natAbs<2^1300)(bb:B.natAbs<2^1201){r1 r2:Rat}(g2:RB 60 r1)(h2:RB 60 r2){x0 x1 x2 x4 x5 x6 x7 x10 x11 x14:L}{Q:Fl->Ev->Prop}
  (h:∀x9 x14,Q (.rt (.d (.bl (dD w.strict (S*(r1.den:Int)*(r2.den:Int)*(w.top.den:Int)) (w.top.num*(r1.num*(r2.den:Int)+r2.num*(r1.den:Int))*B))))) [x0,x1,x2,.d (aP w),x4,x5,x6,x7,.d (.int B),x9,x10,x11,.d (PH r1),.d (PH r2),x14]) :
  gy [x0,x1,x2,.d (aP w),x4,x5,x6,x7,.d (.int B),.d (.int S),x10,x11,.d (PH r1),.d (PH r2),x14] Q:=by
 unfold gy aP;walk_at "w";have d1:(r1.den:Int).natAbs<2^60:=by simpa using g2.2
 have d2:(r2.den:Int).natAbs<2^60:=by simpa using h2.2
 have dt:(w.top.den:Int).natAbs<2^2000:=by simpa using hw.2
 have m1:(S*(r1.den:Int)).natAbs<2^1360:=by rw[Int.natAbs_mul];exact a8 sab d1
 have m2:(S*(r1.den:Int)*(r2.den:Int)).natAbs<2^1420:=by rw[Int.natAbs_mul];exact a8 m1 d2
 have m3:(r1.num*(r2.den:Int)).natAbs<2^120:=by rw[Int.natAbs_mul];exact a8 g2.1 d2
 have m4:(r2.num*(r1.den:Int)).natAbs<2^120:=by rw[Int.natAbs_mul];exact a8 h2.1 d1
 have m5:(r1.num*(r2.den:Int)+r2.num*(r1.den:Int)).natAbs<2^121:=by have:=Int.natAbs_add_le (r1.num*(r2.den:Int)) (r2.num*(r1.den:Int));omega
 have m6:(w.top.num*(r1.num*(r2.den:Int)+r2.num*(r1.den:Int))).natAbs<2^2121:=by rw[Int.natAbs_mul];exact a8 hw.1 m5
 refine⟨aF sab x_,aF d1 x_,aF m1 x_,aF d2 x_,aF m2 x_,aF dt x_,?_⟩;unfold kQ;walk_at "w";refine⟨aF g2.1 x_,aF d2 x_,aF h2.1 x_,aF d1 x_,aF hw.1 x_,aF m5 x_,aF m6 x_,aF bb x_,?_⟩;clear m1 m2 m3 m4 m5 m6 sab;unfold aP at h
 revert h
 generalize S*(r1.den:Int)*(r2.den:Int)*(w.top.den:Int)=P;generalize w.top.num*(r1.num*(r2.den:Int)+r2.num*(r1.den:Int))*B=M;intro h;unfold kP;walk_at "w";unfold dD at h;by_cases e1:M<P
 . rw[decide_eq_true e1,Bool.true_or]at h;rw[if_pos e1];exact h _ _
 .
  rw[decide_eq_false e1,Bool.false_or]at h;rw[if_neg e1]
  cases es:w.strict with
  | true =>
   rw[es,Bool.true_and]at h;simp only[if_true];exact h _ _
  | false =>
   rw[es,Bool.false_and]at h;simp only[Bool.false_eq_true,if_false];exact h _ _
theorem sf:∀ls p4,ls.length=7->iE ls p4->jI (ls++List.replicate 8 .un) (aO ls p4):=by
 rintro ls p4 - ⟨R,w,F,c,rfl,hR,hT,hw,hc,h⟩;unfold jI cB;walk_at "w";unfold kW;walk_at "w";unfold kU;walk_at "w";have few:=hR.few;have ul:(rH R).length=R.asks.length:=by simp[rH,QN]
 refine⟨⟨xL,xL⟩,?_⟩;rw[Int.toNat_natCast,ul];obtain⟨b0,b1⟩:=CM hR hT;have un:∀i,i<R.asks.length->(rH R).getD i 0=d9 (QF (QN R)) (ck R i).size/\RB 60 (ck R i).size/\(ck R i).size.den∣QF (QN R):=λi hi=>by have e1:ck R i=R.asks[i]:=fP hi;have m1:R.asks[i].size∈QN R:=List.mem_map.mpr ⟨_,List.getElem_mem hi,rfl⟩;refine⟨?_,by rw[e1];exact hT _ (List.getElem_mem hi),by rw[e1];exact vX m1⟩;rw[e1,SA];simp[rH,QN,hi]
 have uab:∀i,((rH R).getD i 0).natAbs<=2^1260:=λi=>by
  by_cases hi:i<R.asks.length
  . rw[(un i hi).1];exact vZ (un i hi).2.1 b1
  . rw[SA,List.getElem?_eq_none xL];exact Nat.zero_le _
 have ub:∀i,cn ((rH R).getD i 0):=λi=>aF (n:=1261) (SO (uab i) (Nat.pow_lt_pow_right x_ x_)) x_;have c1:=hc.1;have c2:=hc.2;obtain⟨g1,g2⟩:=ly hR (t:=c.1) xL;obtain⟨h1,h2⟩:=ly hR (t:=c.2) xL;refine fb _ (λk Z=>∃x10 x11,Z=[.d (aE R),.d (cA R),.d (.tup [.lst ((rH R).map D.int),.int (QF (QN R):Int)]),.d (aP w),.d (QR F),.d (.int (c.1:Int)),.d (.int (c.2:Int)),.d (.lst ((rH R).map D.int)),.d (.int (QF (QN R):Int)),.d (.int (l7 k λi=>(rH R).getD i 0*QM R (jg R.asks.length F) c i)),x10,x11,.un,.un,.un]) _ ⟨_,_,rfl⟩ ?_ ?_
 . rintro k Z hk ⟨x10,x11,rfl⟩ Q h1 h2 h3 h4;walk_at "w";exact Jf hR hc hk ul ub λx11=>h1 _ ⟨_,_,rfl⟩
 .
  rintro Z ⟨x10,x11,rfl⟩;walk_at "w";unfold kT;walk_at "w";have hS:((CT R (λi=>(rH R).getD i 0) (jg R.asks.length F) c:Int):Rat)=v3 R (jg R.asks.length F) c R.asks.length*((QF (QN R):Nat):Rat):=v5 λi hi=>by rw[(un i hi).1];exact mE (un i hi).2.2
  have se:=FG (w:=w) b0 hR hc hS
  have sab:(CT R (λi=>(rH R).getD i 0) (jg R.asks.length F) c).natAbs<2^1300:=by
   have:=FF (n:=R.asks.length) (M:=2^1260*2) (f:=λi=>(rH R).getD i 0*QM R (jg R.asks.length F) c i) λi _=>by rw[Int.natAbs_mul];have:=Ld R (jg R.asks.length F) c i;exact Nat.mul_le_mul (uab i) xL
   refine SO this (SO (Nat.mul_le_mul_right _ few) ?_);decide +kernel
  rw[<- se]at h;show ∃v,_;refine⟨_,ug xL,?_⟩;change gz [_,_,_,_,_,_,_,_,_,.d (.int (CT R (λi=>(rH R).getD i 0) (jg R.asks.length F) c)),_,_,_,_,_] _
  revert h sab
  generalize CT R (λi=>(rH R).getD i 0) (jg R.asks.length F) c=S;intro h sab;clear se hS;unfold gz;walk_at "w";refine⟨_,ug xL,?_⟩;have bb:((QF (QN R):Nat):Int).natAbs<2^1201:=by rw[Int.natAbs_natCast];exact SO b1 (Nat.pow_lt_pow_right x_ x_)
  exact Od hw sab bb g2 h2 λ_ _=>⟨_,aj (aj (aj (aj (aj (aj (aj aX)))))),h⟩
noncomputable def R5(R:aV)(w:j8)(F:List (Nat×Bool))(c:Nat×Nat):Bool:=dD w.strict (qr R w.top (jg R.asks.length F) c) (QH R w.top c.1+QH R w.top c.2)
def fG:FS:=λls p4=>∃(R:aV)(w:j8)(F:List (Nat×Bool)),ls=[.d (aE R),.d (cA R),.d (cB R),.d (aP w),.d (QR F)]/\R.Ok/\(∀a∈R.asks,RB 60 a.size)/\RB 2000 w.top/\∀a,p4 (.own a (((hX R.n).filter (R5 R w F)).map iW)) ls
def eF:W Fl:=(Pi (aZ (ba iE (ar (ak 0) (ar (ak 1) (ar (ak 2) (ar (ak 3) (ar (ak 4) (ar (ak 6) (ar (ak 7) aJ))))))))) (nJ (Br 5 (ko (ar (ak 6) (ar (ak 7) aJ))))) c8)
def iS:W Fl:=(tQ (DU (ak 6) (aR bJ (ar (au aM (ak 0) (wC (.int 0))) aJ))) (aW 7) eF)
def gB:W Fl:=(aT (bo 5 (l6 aJ))
  (aT (tQ (jb (aR bJ (ar (au aM (ak 0) (wC (.int 0))) aJ))) (aW 6) iS)
  (cQ (pT 5))))
noncomputable def uL(n j:Nat):List (Nat×Nat):=(List.range j).flatMap λg=>(List.range (n-g)).map λi=>(g,g+i)
theorem tq(n j:Nat):uL n (j+1)=uL n j++(List.range (n-j)).map λi=>(j,j+i):=by unfold uL;rw[List.range_succ,List.flatMap_append];simp
theorem uM(n:Nat):∀j,(uL n j).length<=n*j
 |0=>Nat.zero_le _
 | j+1=>by have:=uM n j;rw[tq,List.length_append,SH,List.length_range,Nat.mul_succ];omega
theorem FN(j i:Nat):(List.range (i+1)).map (λi=>(j,j+i))=(List.range i).map (λi=>(j,j+i))++[(j,j+i)]:=by rw[List.range_succ,List.map_append];rfl
theorem Jg{R:aV}{w:j8}{F:List (Nat×Bool)}(hR:R.Ok)(hT:∀a∈R.asks,RB 60 a.size)(hw:RB 2000 w.top){a:Addr}{ds:List D}{c:Nat×Nat}(hc:lx R.n c)(hl:ds.length<=1000){Q:Fl->Ev->Prop}
  (h:Q .nx [.d (aE R),.d (cA R),.d (cB R),.d (aP w),.d (QR F),.own a (ds++([c].filter (R5 R w F)).map iW),.d (.int (c.1:Int)),.d (.int (c.2:Int))]) :
  eF [.d (aE R),.d (cA R),.d (cB R),.d (aP w),.d (QR F),.own a ds,.d (.int (c.1:Int)),.d (.int (c.2:Int))] Q:=by
 unfold eF;walk_at "w";refine⟨R,w,F,c,rfl,hR,hT,hw,hc,?_⟩;have e:sizeLine=16777216:=by decide
 show if R5 R w F c=true then _ else _
 cases hs:R5 R w F c with
 | true =>
  rw[List.filter_cons,if_pos hs]at h;rw[if_pos rfl];exact⟨xL,xL,h⟩
 | false =>
  rw[List.filter_cons,if_neg (by rw[hs];decide),List.filter_nil,List.map_nil,List.append_nil]at h;rw[if_neg (by decide)];exact h
theorem ph:∀ls p4,ls.length=5->fG ls p4->gB (ls++List.replicate 3 .un) (aO ls p4):=by
 rintro ls p4 - ⟨R,w,F,rfl,hR,hT,hw,h⟩;have hi:=hR.hi;unfold gB;walk_at "w";refine⟨x_,λa=>?_⟩;walk_at "w";refine⟨⟨xL,xL⟩,?_⟩;rw[Int.toNat_natCast];refine fb _ (λj Z=>∃x6 x7,Z=[.d (aE R),.d (cA R),.d (cB R),.d (aP w),.d (QR F),.own a (((uL R.n j).filter (R5 R w F)).map iW),x6,x7]) _ ⟨_,_,rfl⟩ ?_ ?_
 .
  rintro j Z hj ⟨x6,x7,rfl⟩ Q h1 h2 h3 h4;unfold iS;walk_at "w";refine⟨⟨xL,xL⟩,⟨xL,xL⟩,?_⟩;rw[show((R.n:Int)-(j:Int)).toNat=R.n-j by omega];refine ua (j:Int) (R.n-j) (λi Z=>∃x7,Z=[.d (aE R),.d (cA R),.d (cB R),.d (aP w),.d (QR F),.own a (((uL R.n j++(List.range i).map λi=>(j,j+i)).filter (R5 R w F)).map iW),.d (.int (j:Int)),x7]) _ ⟨_,by rw[List.range_zero,List.map_nil,List.append_nil]⟩ ?_ ?_
  .
   rintro i Z hi' ⟨x7,rfl⟩ Q2 g1 g2 g3 g4;have hc:lx R.n (j,j+i):=⟨by show j<=j+i;omega,by show j+i<R.n;omega⟩;have ln:((uL R.n j++(List.range i).map λi=>(j,j+i)).filter (R5 R w F)).length<=1000:=by refine SJ (List.length_filter_le _ _) ?_;have l1:=uM R.n j;have l2:R.n*j<=12*12:=Nat.mul_le_mul hi xL;rw[List.length_append,SH,List.length_range];omega
   have hn:=g1 [.d (aE R),.d (cA R),.d (cB R),.d (aP w),.d (QR F),.own a (((uL R.n j++(List.range (i+1)).map λi=>(j,j+i)).filter (R5 R w F)).map iW),.d (.int (j:Int)),.d (.int ((j+i:Nat):Int))] ⟨_,rfl⟩;rw[FN,<- List.append_assoc,List.filter_append,List.map_append]at hn;walk_at "w";rw[<- Int.natCast_add];exact Jg hR hT hw hc (by rw[SH];exact ln) hn
  . rintro Z ⟨x7,rfl⟩;exact h1 _ ⟨_,_,by rw[tq]⟩
 . rintro Z ⟨x6,x7,rfl⟩;walk_at "w";exact⟨_,aj (aj (aj (aj (aj aX)))),h a⟩
structure R6 (R:aV) (w:j8) (F:List (Nat×Bool)) (T:Tr):Prop where
 wf:QS R T
 s:T.size+1<=2^(R.asks.length-F.length+1)
 ok:(∀ws,Ar (jg R.asks.length F) ws->¬oH R w ws)->T.Ok R w (jg R.asks.length F)
def br(n:Nat):FS:=λls p4=>∃(a:Addr)(xs:List D)(R:aV)(w:j8)(F:List (Nat×Bool)),ls=[.own a xs,.d (aE R),.d (cA R),.d (cB R),.d (aP w),.d (QR F)]/\c9 xs/\R.Ok/\(∀a∈R.asks,RB 60 a.size)/\RB 1750 w.top/\w.elder.length=R.asks.length/\QT R.asks.length F/\R.asks.length-F.length<n /\
 ∀(T:Tr)(ys:List D),c9 ys->R6 R w F T->p4 (.d (QL T)) [.own a ys,.d (aE R),.d (cA R),.d (cB R),.d (aP w),.d (QR F)]
theorem uN(ls:List L)(p4:L->List L->Prop):¬br 0 ls p4:=by rintro⟨_,_,_,_,_,_,_,_,_,_,_,_,h,_⟩;omega
abbrev nD:FS:=br 9
def gW(self:FS):W Fl:=(nJ (Br 10 (a7 self 0 0 (gJ 0 (ar (ak 1) (ar (ak 2) (ar (ak 3) (ar (ak 4) (ar (LU 12) aJ)))))))))
def gX(self:FS):W Fl:=(aT (Es 12 (ak 9) (ak 11))
  (gW self))
def gC(self:FS):W Fl:=(aT (bo 12 (LV 5))
  (gX self))
def gD(self:FS):W Fl:=(cQ (ko (ar (wC (.str "split")) (ar (ak 9) (ar (d6 10 (yB 10 (wC (.int 0))) (au aM (ak 10) (wC (.int 0)))) (ar (d6 10 (yB 10 (wC (.int 1))) (au aM (ak 10) (wC (.int 1)))) aJ))))))
def gE(self:FS):W Fl:=(aT (tQ (rL (ko (ar (wC (.str "on")) (ar (wC (.str "back")) aJ)))) (aW 11) (gC self))
  (gD self))
def kX(self:FS):W Fl:=(aT (bo 10 (l6 aJ))
  (gE self))
def cT(self:FS):W Fl:=(aT (bo 9 (au aM (ak 8) (a7 aB 0 0 (gJ 0 (ar (bE (aR bJ (ar (ak 8) aJ))) aJ)))))
  (kX self))
def cj(self:FS):W Fl:=(aT (Pi (aZ (au lj (ak 8) (l6 aJ))) (cQ (au aM (l6 (ar (ko (ar (wC (.str "turned")) aJ)) (ar (ko (ar (wC (.str "cut")) (ar (wC (.int 0)) (ar (wC (.int 0)) aJ)))) aJ))) (aR tS (ar (au Dl (aR bJ (ar (ak 6) aJ)) (au aM (ak 4) (wC (.int 3)))) aJ)))) c8)
  (cT self))
def kY(self:FS):W L:=(ak 0)
def dR(self:FS):W Fl:=(aT (Pi (DO (aZ (au yz (ak 7) (l6 aJ))) (Pf (aZ (au lj (ak 8) (l6 aJ))) (aZ (au AI (a7 aB 0 0 (gJ 0 (ar (wC (.int 5)) aJ))) (wC (.int 0)))))) (cQ (au yN (ko (ar (wC (.str "cut")) aJ)) (au aM (ak 7) (a7 aB 0 0 (gJ 0 (ar (bE (aR bJ (ar (ak 7) aJ))) aJ)))))) c8)
  (cj self))
def dS(self:FS):W Fl:=(aT (bo 8 (d5 1 [5] (jb (aR bJ (ar (au aM (ak 1) (wC (.int 1))) aJ))) (aW 0) (aZ (Jn true 1 (ak 0))) (kY self)))
  (dR self))
def dU(self:FS):W Fl:=(aT (bo 7 (bE (ba fG (ar (ak 1) (ar (ak 2) (ar (ak 3) (ar (ak 4) (ar (ak 5) aJ))))))))
  (dS self))
def kZ(self:FS):W L:=(ak 0)
def dW(self:FS):W Fl:=(aT (Pi (DO (aZ (au AI (aR bJ (ar (ak 6) aJ)) (au aM (ak 4) (wC (.int 3))))) (aZ (au lj (a7 aB 0 0 (gJ 0 (ar (wC (.int 2)) aJ))) (wC (.int 0))))) (cQ (ko (ar (wC (.str "turned")) aJ))) c8)
  (dU self))
def fW(self:FS):W Fl:=(aT (bo 6 (d5 1 [4,5] (HY (ak 5)) (aW 0) (DO (aZ (au (zW false) (au aM (au aM (ak 1) (wC (.int 2))) (ak 0)) (ko (ar (wC (.str "on")) (ar (wC (.str "back")) aJ))))) (aZ (au yz (au aM (au aM (ak 1) (wC (.int 2))) (ak 0)) (HV 2 (ak 0))))) (kZ self)))
  (dW self))
noncomputable def bg(n:Nat)(F:List (Nat×Bool)):List Nat:=(List.range n).filter λk=>(F.lookup k).isNone
theorem QT.len{n:Nat}{F:List (Nat×Bool)}(h:QT n F):F.length<=n:=by
 have nd2:((List.range n).filter λk=>(F.lookup k).isSome).Nodup:=List.Nodup.sublist List.filter_sublist List.nodup_range
 have key:∀k,k∈F.map (·.1)↔k∈(List.range n).filter λk=>(F.lookup k).isSome:=λk=>by
  rw[List.mem_filter,List.mem_range,pJ];constructor
  . intro hk;obtain⟨p,hp,rfl⟩:=List.mem_map.mp hk;exact⟨h.lt p hp,hk⟩
  . exact λz=>z.2
 have:=((List.perm_ext_iff_of_nodup h.nd nd2).mpr key).length_eq;rw[SH]at this;rw[this];exact SJ (List.length_filter_le _ _) (by rw[List.length_range];exact SN n)
theorem nE{α:Type}{p:α->Bool}{f:α->D}:∀xs:List α,(xs.filterMap λx=>if p x then some (f x)else none)=(xs.filter p).map f
 |[]=>rfl
 | x::xs=>by
  rw[List.filterMap_cons,List.filter_cons]
  cases e:p x with
  |true=>simp only[if_true,List.map_cons,nE xs]
  |false=>simp only[Bool.false_eq_true,if_false,nE xs]
theorem gY{R:aV}{F:List (Nat×Bool)}{T:Tr}(h:T.size=1):T.size+1<=2^(R.asks.length-F.length+1):=by rw[h,Nat.pow_succ];have:=Nat.pow_pos (n:=R.asks.length-F.length) (show 0<2 by decide);omega
noncomputable def R7(w:j8)(F:List (Nat×Bool)):D:=.lst ((F.filter (QU w.elder)).map λp=>.int (p.1:Int))
section
variable{self:FS}{a a6:Addr}{xs:List D}{R:aV}{w:j8}{F:List (Nat×Bool)}{p4:L->List L->Prop}{x6 x7 x8 x9 x10 x11 x12:L}
structure GS (a:Addr) (R:aV) (w:j8) (F:List (Nat×Bool)) (p4:L->List L->Prop):Prop where
 ok:R.Ok
 sz:∀a∈R.asks,RB 60 a.size
 top:RB 1750 w.top
 el:w.elder.length=R.asks.length
 f:QT R.asks.length F
 h:∀(T:Tr)(ys:List D),c9 ys->R6 R w F T->p4 (.d (QL T)) [.own a ys,.d (aE R),.d (cA R),.d (cB R),.d (aP w),.d (QR F)]
theorem GS.ret(g:GS a R w F p4){T:Tr}{ys:List D}(hy:c9 ys)(ht:R6 R w F T){Z:Ev}(hρ:Z=.own a ys::.d (aE R)::.d (cA R)::.d (cB R)::.d (aP w)::.d (QR F)::[x6,x7,x8,x9,x10,x11,x12]):aO [.own a xs,.d (aE R),.d (cA R),.d (cB R),.d (aP w),.d (QR F)] p4 (.rt (.d (QL T))) Z:=by subst hρ;exact⟨_,dO v6 (aj (aj (aj (aj (aj aX))))),g.h T ys hy ht⟩
theorem FO(g:GS a R w F p4){ys:List D}(hk:∀a6,dW self [.own a ys,.d (aE R),.d (cA R),.d (cB R),.d (aP w),.d (QR F),.own a6 ((F.filter (QU w.elder)).map λp=>.int (p.1:Int)),.un,.un,.un,.un,.un,.un] (aO [.own a xs,.d (aE R),.d (cA R),.d (cB R),.d (aP w),.d (QR F)] p4)) :
  fW self [.own a ys,.d (aE R),.d (cA R),.d (cB R),.d (aP w),.d (QR F),.un,.un,.un,.un,.un,.un,.un] (aO [.own a xs,.d (aE R),.d (cA R),.d (cB R),.d (aP w),.d (QR F)] p4):=by
 have e:sizeLine=16777216:=by decide
 have few:=g.ok.few;have fl:=g.f.len;unfold fW QR;walk_at "w";refine⟨xL,?_⟩;rw[List.map_map]
 refine d7 (α:=Nat×Bool) (enc:=λp=>D.int (p.1:Int)) (h:=λp=>if QU w.elder p then some (.int (p.1:Int))else none) F [] _ (λp hp Q q=>?_) λl'=>?_
 .
  have hlt:=g.f.lt p hp;have lk:=(qw g.f.nd).mp (show(p.1,p.2)∈F from hp);have el:=g.el;unfold aP QJ at q;unfold kZ aP QJ;walk_at "w";refine⟨_,Fz xL,xL,?_⟩
  cases o:w.elder.getD p.1 none with
  | none =>
   have tf:QU w.elder p=false:=by unfold QU;rw[o];rfl
   rw[tf]at q;exact⟨rfl,rfl,q⟩
  | some c =>
   have ew:=IR (d8 c);rw[FC]at ew;have et:QU w.elder p=!(c == p.2):=by unfold QU;rw[o];cases c<;>cases p.2<;>rfl
   have eo:=xJ (some c) p.2;rw[et]at q;unfold oG at eo ⊢;refine⟨rfl,rfl,?_⟩;rw[if_pos ew,sX,lk];refine⟨_,Fz xL,_,rfl,?_⟩;rw[o];unfold oG;refine⟨gN _,gN _,?_⟩;dsimp only;rw[eo]
   revert q
   cases c<;>cases p.2<;>exact λq=>q
 . rw[nE];walk_at "w";exact hk
theorem R8(g:GS a R w F p4){ys:List D}(hy:c9 ys)(hk:∀ys,c9 ys->dU self [.own a ys,.d (aE R),.d (cA R),.d (cB R),.d (aP w),.d (QR F),.d (R7 w F),.un,.un,.un,.un,.un,.un] (aO [.own a xs,.d (aE R),.d (cA R),.d (cB R),.d (aP w),.d (QR F)] p4)) :
  dW self [.own a ys,.d (aE R),.d (cA R),.d (cB R),.d (aP w),.d (QR F),.own a6 ((F.filter (QU w.elder)).map λp=>.int (p.1:Int)),.un,.un,.un,.un,.un,.un] (aO [.own a xs,.d (aE R),.d (cA R),.d (cB R),.d (aP w),.d (QR F)] p4):=by
 have tc:=zw g.el g.f;have hk1:=hk;have gr:∀{ys:List D},c9 ys->w.most<(F.filter (QU w.elder)).length->aO [.own a xs,.d (aE R),.d (cA R),.d (cB R),.d (aP w),.d (QR F)] p4 (.rt (.d (QL .turned))) [.own a ys,.d (aE R),.d (cA R),.d (cB R),.d (aP w),.d (QR F),.d (R7 w F),.un,.un,.un,.un,.un,.un]:=λhy hm=>g.ret (T:=.turned) hy ⟨trivial,gY rfl,λ_=>by show w.most<(ef w.elder (jg R.asks.length F)).length;omega⟩ rfl;unfold aP R7 at *;unfold dW;walk_at "w";by_cases c:w.most<(F.filter (QU w.elder)).length
 .
  rw[if_pos (by omega)];refine⟨a,ys,2,rfl,hy,x_,x_,λr y1 h1 r0 r1=>⟨y1,rfl,?_⟩⟩;walk_at "w";by_cases d:r=0
  . rw[if_pos d];exact⟨x_,gr h1 c⟩
  . rw[if_neg d];exact hk1 _ h1
 . rw[if_neg (by omega)];exact hk1 _ hy
theorem R9(g:GS a R w F p4){ys:List D}(hk:dS self [.own a ys,.d (aE R),.d (cA R),.d (cB R),.d (aP w),.d (QR F),.d (R7 w F),.d (.lst (((hX R.n).filter (R5 R w F)).map iW)),.un,.un,.un,.un,.un] (aO [.own a xs,.d (aE R),.d (cA R),.d (cB R),.d (aP w),.d (QR F)] p4)) :
  dU self [.own a ys,.d (aE R),.d (cA R),.d (cB R),.d (aP w),.d (QR F),.d (R7 w F),.un,.un,.un,.un,.un,.un] (aO [.own a xs,.d (aE R),.d (cA R),.d (cB R),.d (aP w),.d (QR F)] p4):=by
 unfold dU;walk_at "w";refine⟨R,w,F,rfl,g.ok,g.sz,g.top.mono x_,λb=>?_⟩;walk_at "w";exact hk
theorem Sa(g:GS a R w F p4){ys:List D}(hk:∀b,dR self [.own a ys,.d (aE R),.d (cA R),.d (cB R),.d (aP w),.d (QR F),.d (R7 w F),x7,.own b ((bg R.asks.length F).map λ(k:Nat)=>.int (k:Int)),.un,.un,.un,.un] (aO [.own a xs,.d (aE R),.d (cA R),.d (cB R),.d (aP w),.d (QR F)] p4)) :
  dS self [.own a ys,.d (aE R),.d (cA R),.d (cB R),.d (aP w),.d (QR F),.d (R7 w F),x7,.un,.un,.un,.un,.un] (aO [.own a xs,.d (aE R),.d (cA R),.d (cB R),.d (aP w),.d (QR F)] p4):=by
 have few:=g.ok.few;have e:sizeLine=16777216:=by decide
 have er:rM 0 R.asks.length=(List.range R.asks.length).map λ(k:Nat)=>D.int (k:Int):=by simp[rM]
 unfold QR at *;unfold dS;walk_at "w";refine⟨⟨xL,xL⟩,?_⟩;rw[Int.toNat_natCast,er]
 refine⟨by simp;omega,d7 (α:=Nat) (enc:=λk=>D.int (k:Int)) (h:=λk=>if(F.lookup k).isNone then some (.int (k:Int))else none) _ [] _ (λk hk' Q q=>?_) λl'=>?_⟩
 .
  unfold kY;walk_at "w";rw[sX,Option.isSome_map]
  revert q
  cases F.lookup k<;>exact λq=>q
 . rw[nE];walk_at "w";exact hk
theorem uO{n k:Nat}{F:List (Nat×Bool)}:k∈bg n F↔k<n/\F.lookup k=none:=by unfold bg;rw[List.mem_filter,List.mem_range,Option.isNone_iff_eq_none]
theorem C5(g:GS a R w F p4){ys:List D}(hy:c9 ys){c:Nat×Nat}(hc:c∈((hX R.n).filter (R5 R w F))):aO [.own a xs,.d (aE R),.d (cA R),.d (cB R),.d (aP w),.d (QR F)] p4 (.rt (.d (QL (.cut c)))) [.own a ys,.d (aE R),.d (cA R),.d (cB R),.d (aP w),.d (QR F),.d (R7 w F),x7,x8,x9,x10,x11,x12]:=by obtain⟨h1,h2⟩:=List.mem_filter.mp hc;have h3:=zh.mp h1;exact g.ret (T:=.cut c) hy ⟨h3,gY rfl,λ_=>⟨h3,h2⟩⟩ rfl
theorem Lr{cs:List (Nat×Nat)}{r:Int}(r0:0<=r)(r1:r<(cs.length:Int)):∃c∈cs,OV (cs.map iW) r=some (iW c):=by
 obtain⟨k,rfl⟩:=Int.eq_ofNat_of_zero_le r0;have hk:k<cs.length:=by omega
 exact⟨cs[k],List.getElem_mem hk,bN hk⟩
theorem Ls(hR:R.Ok):(((hX R.n).filter (R5 R w F))).length<=1000:=by have hi:=hR.hi;refine SJ (List.length_filter_le _ _) ?_;have l1:=uM R.n R.n;have l2:R.n*R.n<=12*12:=Nat.mul_le_mul hi hi;have:hX R.n=uL R.n R.n:=rfl;rw[this];omega
theorem wm(hR:R.Ok):(bg R.asks.length F).length<=20:=by have few:=hR.few;unfold bg;exact SJ (List.length_filter_le _ _) (by rw[List.length_range];exact few)
theorem pM(ks:List Nat):cq (.lst (ks.map λ(k:Nat)=>D.int (k:Int))):=Am ks
theorem Sb(g:GS a R w F p4){ys:List D}(hy:c9 ys)(hk:∀ys,c9 ys->(((hX R.n).filter (R5 R w F))=[]∨bg R.asks.length F≠[])->cj self [.own a ys,.d (aE R),.d (cA R),.d (cB R),.d (aP w),.d (QR F),.d (R7 w F),.d (.lst (((hX R.n).filter (R5 R w F)).map iW)),.d (.lst ((bg R.asks.length F).map λ(k:Nat)=>D.int (k:Int))),.un,.un,.un,.un] (aO [.own a xs,.d (aE R),.d (cA R),.d (cB R),.d (aP w),.d (QR F)] p4))(hk2:∀ys,c9 ys->((hX R.n).filter (R5 R w F))=[]->cj self [.own a ys,.d (aE R),.d (cA R),.d (cB R),.d (aP w),.d (QR F),.d (R7 w F),.d (.lst (((hX R.n).filter (R5 R w F)).map iW)),.own a6 ((bg R.asks.length F).map λ(k:Nat)=>D.int (k:Int)),.un,.un,.un,.un] (aO [.own a xs,.d (aE R),.d (cA R),.d (cB R),.d (aP w),.d (QR F)] p4)) :
  dR self [.own a ys,.d (aE R),.d (cA R),.d (cB R),.d (aP w),.d (QR F),.d (R7 w F),.d (.lst (((hX R.n).filter (R5 R w F)).map iW)),.own a6 ((bg R.asks.length F).map λ(k:Nat)=>D.int (k:Int)),.un,.un,.un,.un] (aO [.own a xs,.d (aE R),.d (cA R),.d (cB R),.d (aP w),.d (QR F)] p4):=by
 have e:sizeLine=16777216:=by decide
 have cf:=Ls (w:=w) (F:=F) g.ok;have s0:cq (.lst []):=dh (n:=1) rfl x_;unfold dR;walk_at "w";refine⟨xL,λ_=>⟨Ao _,s0,?_⟩⟩;rw[uj];by_cases hc:((hX R.n).filter (R5 R w F))=[]
 . rw[if_neg (by rw[hc];decide)];exact hk2 _ hy hc
 .
  have ce:(((hX R.n).filter (R5 R w F)).map iW).isEmpty=false:=by
   cases hcs:((hX R.n).filter (R5 R w F))with
   |nil=>exact absurd hcs hc
   |cons _ _=>rfl
  rw[if_pos ce];have cl:0<(((hX R.n).filter (R5 R w F))).length:=List.length_pos_iff.mpr hc;refine⟨xL,λ_=>⟨pM _,s0,?_⟩⟩;rw[uj];have big:(1000:Int)<=10^60:=by decide
  by_cases hl:bg R.asks.length F=[]
  . rw[hl];refine⟨xL,a,ys,_,rfl,hy,xL,xL,λr y1 h1 r0 r1=>⟨y1,rfl,?_⟩⟩;walk_at "w";obtain⟨c,hcm,ec⟩:=Lr r0 r1;refine⟨_,ec,?_⟩;unfold iW;walk_at "w";exact⟨v6,v6,xL,C5 g h1 hcm⟩
  .
   have le:(((bg R.asks.length F).map λ(k:Nat)=>D.int (k:Int))).isEmpty=false:=by
    cases hls:bg R.asks.length F with
    |nil=>exact absurd hls hl
    |cons _ _=>rfl
   rw[le];simp only[Bool.false_eq_true,if_false];refine⟨a,ys,5,rfl,hy,x_,x_,λq y0 h0 q0 q1=>⟨y0,rfl,?_⟩⟩;walk_at "w";by_cases d:0<q
   . rw[if_pos d];refine⟨xL,a,y0,_,rfl,h0,xL,xL,λr y1 h1 r0 r1=>⟨y1,rfl,?_⟩⟩;walk_at "w";obtain⟨c,hcm,ec⟩:=Lr r0 r1;refine⟨_,ec,?_⟩;unfold iW;walk_at "w";exact⟨v6,v6,xL,C5 g h1 hcm⟩
   . rw[if_neg d];exact hk _ h0 (.inr hl)
theorem NB(g:GS a R w F p4){ys:List D}(hy:c9 ys)(hc:((hX R.n).filter (R5 R w F))=[]∨bg R.asks.length F≠[])
  (hk:∀ys,c9 ys->bg R.asks.length F≠[]->cT self [.own a ys,.d (aE R),.d (cA R),.d (cB R),.d (aP w),.d (QR F),.d (R7 w F),x7,.d (.lst ((bg R.asks.length F).map λ(k:Nat)=>D.int (k:Int))),.un,.un,.un,.un] (aO [.own a xs,.d (aE R),.d (cA R),.d (cB R),.d (aP w),.d (QR F)] p4)) :
  cj self [.own a ys,.d (aE R),.d (cA R),.d (cB R),.d (aP w),.d (QR F),.d (R7 w F),x7,.d (.lst ((bg R.asks.length F).map λ(k:Nat)=>D.int (k:Int))),.un,.un,.un,.un] (aO [.own a xs,.d (aE R),.d (cA R),.d (cB R),.d (aP w),.d (QR F)] p4):=by
 have e:sizeLine=16777216:=by decide
 have s0:cq (.lst []):=dh (n:=1) rfl x_;have hn:2<=R.n:=g.ok.lo;have tc:=zw g.el g.f;have key:0<=sizeLine/\∀_:Addr,cq (.lst ((bg R.asks.length F).map λ(k:Nat)=>D.int (k:Int)))/\cq (.lst [])/\True:=⟨xL,λ_=>⟨pM _,s0,trivial⟩⟩
 have Ov:∀{x8:L}(T:Tr),(T=.turned/\w.most<(F.filter (QU w.elder)).length∨T=.cut (0,0)/\¬w.most<(F.filter (QU w.elder)).length)->bg R.asks.length F=[]->aO [.own a xs,.d (aE R),.d (cA R),.d (cB R),.d (aP w),.d (QR F)] p4 (.rt (.d (QL T))) [.own a ys,.d (aE R),.d (cA R),.d (cB R),.d (aP w),.d (QR F),.d (R7 w F),x7,x8,.un,.un,.un,.un]:=by
  intro x8 T hT hl;have cs0:((hX R.n).filter (R5 R w F))=[]:=hc.resolve_right (λz=>z hl)
  have fullt:(∀ws,Ar (jg R.asks.length F) ws->¬oH R w ws)->w.most<(ef w.elder (jg R.asks.length F)).length:=xO g.ok (qv _ _) (λi hi=>by
   rw[xN hi]
   cases hlk:F.lookup i with
   |some _=>rfl
   | none =>
    have:=uO.mpr ⟨hi,hlk⟩;rw[hl]at this
    cases this) λt ht=>by
   have:=List.filter_eq_nil_iff.mp cs0 (t,t) (zh.mpr ⟨SN _,ht⟩);exact Bool.eq_false_iff.mpr this
  rcases hT with⟨rfl,hm⟩|⟨rfl,hm⟩
  . exact g.ret (T:=.turned) hy ⟨trivial,gY rfl,λ_=>by show w.most<(ef w.elder (jg R.asks.length F)).length;omega⟩ rfl
  . exact g.ret (T:=.cut (0,0)) hy ⟨⟨SN _,by show 0<R.n;omega⟩,gY rfl,λz=>absurd (fullt z) xL⟩ rfl
 unfold aP R7 at *;unfold cj;walk_at "w";refine⟨xL,λ_=>⟨pM _,s0,?_⟩⟩;rw[uj];by_cases hl:bg R.asks.length F=[]
 .
  rw[if_pos (by rw[hl];rfl)];refine⟨xL,xL,xL,λ_=>?_⟩;by_cases m:(F.filter (QU w.elder)).length<=w.most
  . rw[if_pos (by omega)];exact⟨_,qg,Ov (.cut (0,0)) (.inr ⟨rfl,xL⟩) hl⟩
  . rw[if_neg (by omega)];exact⟨_,qf,Ov .turned (.inl ⟨rfl,xL⟩) hl⟩
 .
  have le:((bg R.asks.length F).map λ(k:Nat)=>D.int (k:Int)).isEmpty=false:=by
   cases hls:bg R.asks.length F with
   |nil=>exact absurd hls hl
   |cons _ _=>rfl
  rw[le];exact hk _ hy hl
theorem Sd(g:GS a R w F p4){ys:List D}(hy:c9 ys)(hc:((hX R.n).filter (R5 R w F))=[]∨bg R.asks.length F≠[]){lo:L}(hlo:lo=.d (.lst ((bg R.asks.length F).map λ(k:Nat)=>D.int (k:Int)))∨∃b,lo=.own b ((bg R.asks.length F).map λ(k:Nat)=>D.int (k:Int)))
  (hk:∀ys,c9 ys->bg R.asks.length F≠[]->cT self [.own a ys,.d (aE R),.d (cA R),.d (cB R),.d (aP w),.d (QR F),.d (R7 w F),x7,.d (.lst ((bg R.asks.length F).map λ(k:Nat)=>D.int (k:Int))),.un,.un,.un,.un] (aO [.own a xs,.d (aE R),.d (cA R),.d (cB R),.d (aP w),.d (QR F)] p4)) :
  cj self [.own a ys,.d (aE R),.d (cA R),.d (cB R),.d (aP w),.d (QR F),.d (R7 w F),x7,lo,.un,.un,.un,.un] (aO [.own a xs,.d (aE R),.d (cA R),.d (cB R),.d (aP w),.d (QR F)] p4):=by
 rcases hlo with rfl|⟨b,rfl⟩
 . exact NB g hy hc hk
 . exact NB g hy hc hk
theorem Se(g:GS a R w F p4){ys:List D}(hy:c9 ys){k:Nat}(hk:k<R.asks.length)(hn:F.lookup k=none){p q:Tr}(hp:R6 R w (F++[(k,true)]) p)(hq:R6 R w (F++[(k,false)]) q){c:Addr} :
  gD self [.own a ys,.d (aE R),.d (cA R),.d (cB R),.d (aP w),.d (QR F),x6,x7,x8,.d (.int (k:Int)),.own c [QL p,QL q],x11,x12] (aO [.own a xs,.d (aE R),.d (cA R),.d (cB R),.d (aP w),.d (QR F)] p4):=by
 have e:sizeLine=16777216:=by decide
 have fl:=(g.f.put (b:=true) hk hn).len;rw[List.length_append,List.length_cons,List.length_nil]at fl;have s1:=hp.s;have s2:=hq.s;rw[List.length_append,List.length_cons,List.length_nil]at s1 s2
 have gt:R6 R w F (.split k p q):=⟨⟨hk,hp.wf,hq.wf⟩,by
  have sz:(Tr.split k p q).size=p.size+q.size+1:=rfl;rw[sz,Nat.pow_succ];have ee:R.asks.length-(F.length+(0+1))+1=R.asks.length-F.length:=by omega
  rw[ee]at s1 s2
  omega,λno=>⟨by rw[qv];exact hk,by rw[xN hk];exact hn,by
   rw[<- Gs hk hn]
   exact hp.ok λws hc=>no ws (zu hk hn hc),by
   rw[<- Gs hk hn]
   exact hq.ok λws hc=>no ws (zu hk hn hc)⟩⟩
 unfold gD;walk_at "w";refine⟨xL,?_⟩;exact g.ret (T:=.split k p q) hy gt rfl
theorem Lu{n:Nat}(g:GS a R w F p4)(hlt:R.asks.length-F.length<n+1){ys Ts:List D}(hy:c9 ys){k:Nat}(hk:k<R.asks.length)(hn:F.lookup k=none){b:Bool}{c:Addr}(hTs:Ts.length<=5){Q:Fl->Ev->Prop}
  (h:∀(T:Tr)(ys:List D) x12,c9 ys->R6 R w (F++[(k,b)]) T->Q .nx [.own a ys,.d (aE R),.d (cA R),.d (cB R),.d (aP w),.d (QR F),x6,x7,x8,.d (.int (k:Int)),.own c (Ts++[QL T]),.d (.str (d8 b)),x12]) :
  gC (br n) [.own a ys,.d (aE R),.d (cA R),.d (cB R),.d (aP w),.d (QR F),x6,x7,x8,.d (.int (k:Int)),.own c Ts,.d (.str (d8 b)),x12] Q:=by
 have e:sizeLine=16777216:=by decide
 have few:=g.ok.few;have fl:=g.f.len;have fp:=g.f.put (b:=b) hk hn;have fl2:=fp.len;rw[List.length_append,List.length_cons,List.length_nil]at fl2;have pd:=Gu (b:=b) hn;have ul:((F.map λp=>(Sum.inl (p.1:Int):Of)).zip (F.map λp=>D.str (d8 p.2))).length=F.length:=by simp
 unfold gC;unfold QR at *;walk_at "w";intro a12;unfold gX;walk_at "w";rw[ul,pd];refine⟨xL,?_⟩;have zf:((((F++[(k,b)]).map λp=>(Sum.inl (p.1:Int):Of)).zip ((F++[(k,b)]).map λp=>D.str (d8 p.2))).map (·.1))=(F++[(k,b)]).map λp=>(Sum.inl (p.1:Int):Of):=List.map_fst_zip v6;have zs:((((F++[(k,b)]).map λp=>(Sum.inl (p.1:Int):Of)).zip ((F++[(k,b)]).map λp=>D.str (d8 p.2))).map (·.2))=(F++[(k,b)]).map λp=>D.str (d8 p.2):=List.map_snd_zip v6;unfold gW;walk_at "w";rw[zf,zs];refine⟨a,ys,R,w,F++[(k,b)],rfl,hy,g.ok,g.sz,g.top,g.el,fp,by rw[List.length_append,List.length_cons,List.length_nil];omega,λT zs' hz hT=>⟨zs',rfl,?_⟩⟩;walk_at "w";exact⟨xL,h T zs' _ hz hT⟩
theorem Sf{n:Nat}(g:GS a R w F p4)(hlt:R.asks.length-F.length<n+1){ys:List D}(hy:c9 ys){k:Nat}(hk:k<R.asks.length)(hn:F.lookup k=none){c:Addr} :
  gE (br n) [.own a ys,.d (aE R),.d (cA R),.d (cB R),.d (aP w),.d (QR F),x6,x7,x8,.d (.int (k:Int)),.own c [],.un,.un] (aO [.own a xs,.d (aE R),.d (cA R),.d (cB R),.d (aP w),.d (QR F)] p4):=by
 unfold gE;walk_at "w";refine⟨x_,?_⟩;refine j4 (enc:=λb=>D.str (d8 b)) [true,false] (λpre Z=>∃ys Ts x11 x12,Z=[.own a ys,.d (aE R),.d (cA R),.d (cB R),.d (aP w),.d (QR F),x6,x7,x8,.d (.int (k:Int)),.own c (Ts.map QL),x11,x12]/\c9 ys/\Ts.length=pre.length/\∀i b,pre[i]?=some b->∃T,Ts[i]?=some T/\R6 R w (F++[(k,b)]) T) _ ⟨ys,[],_,_,rfl,hy,rfl,λi b e=>by rw[List.getElem?_nil]at e;cases e⟩ ?_ ?_
 .
  rintro pre b suf Z hp ⟨ys,Ts,x11,x12,rfl,hy,hl,hT⟩ Q h1 h2 h3 h4;have hpl:pre.length<=2:=by have:=congrArg List.length hp;simp at this;omega
  walk_at "w";refine Lu g hlt hy hk hn (by rw[SH];omega) λT zs x12 hz hTT=>h1 _ ⟨zs,Ts++[T],_,_,by rw[List.map_append];rfl,hz,by simp[hl],λi b' e=>?_⟩;by_cases hi:i<pre.length
  . rw[List.getElem?_append_left hi]at e;obtain⟨T',e1,e2⟩:=hT i b' e;exact⟨T',by rw[List.getElem?_append_left xL];exact e1,e2⟩
  .
   rw[List.getElem?_append_right xL]at e
   have hi0:i-pre.length=0:=by
    cases hz':i-pre.length with
    |zero=>rfl
    |succ m=>rw[hz']at e;simp at e
   rw[hi0]at e;cases e;exact⟨T,by rw[List.getElem?_append_right xL,show i-Ts.length=0 by omega];rfl,hTT⟩
 .
  rintro Z ⟨ys,Ts,x11,x12,rfl,hy,hl,hT⟩;obtain⟨p,ep,hp⟩:=hT 0 true rfl;obtain⟨q,eq,hq⟩:=hT 1 false rfl
  have e2:Ts=[p,q]:=by
   match Ts,hl with
   |[u,v],_=>cases ep;cases eq;rfl
  subst e2;exact Se g hy hk hn hp hq
theorem Sg{n:Nat}(g:GS a R w F p4)(hlt:R.asks.length-F.length<n+1){ys:List D}(hy:c9 ys)(hl:bg R.asks.length F≠[]) :
  cT (br n) [.own a ys,.d (aE R),.d (cA R),.d (cB R),.d (aP w),.d (QR F),x6,x7,.d (.lst ((bg R.asks.length F).map λ(k:Nat)=>D.int (k:Int))),.un,.un,.un,.un] (aO [.own a xs,.d (aE R),.d (cA R),.d (cB R),.d (aP w),.d (QR F)] p4):=by
 have lf:=wm (F:=F) g.ok;have l0:0<(bg R.asks.length F).length:=List.length_pos_iff.mpr hl;have big:(1000:Int)<=10^60:=by decide
 unfold cT;walk_at "w";refine⟨a,ys,_,rfl,hy,xL,xL,λr y1 h1 r0 r1=>⟨y1,rfl,?_⟩⟩;walk_at "w";obtain⟨j,rfl⟩:=Int.eq_ofNat_of_zero_le r0;have hj:j<(bg R.asks.length F).length:=by omega
 obtain⟨hk,hn⟩:=uO.mp (List.getElem_mem hj);refine⟨_,bN hj,?_⟩;unfold kX;walk_at "w";refine⟨x_,λc=>?_⟩;exact Sf g hlt h1 hk hn
end
theorem si:∀n ls p4,ls.length=6->br (n+1) ls p4->fW (br n) (ls++List.replicate 7 .un) (aO ls p4):=by rintro n ls p4 - ⟨a,xs,R,w,F,rfl,hx,hR,hT,hq,he,hF,hn,h⟩;exact FO ⟨hR,hT,hq,he,hF,h⟩ λa6=>R8 ⟨hR,hT,hq,he,hF,h⟩ hx λys hy=>R9 ⟨hR,hT,hq,he,hF,h⟩ (Sa ⟨hR,hT,hq,he,hF,h⟩ λb=>Sb ⟨hR,hT,hq,he,hF,h⟩ hy (λys hy hc=>Sd ⟨hR,hT,hq,he,hF,h⟩ hy hc (.inl rfl) λys hy hl=>Sg ⟨hR,hT,hq,he,hF,h⟩ hn hy hl) λys hy hc=>Sd ⟨hR,hT,hq,he,hF,h⟩ hy (.inl hc) (.inr ⟨_,rfl⟩) λys hy hl=>Sg ⟨hR,hT,hq,he,hF,h⟩ hn hy hl)
def fX:FS:=λls p4=>∃(R:aV)(w:j8)(T:Tr),ls=[.d (aE R),.d (aP w),.d (QL T)]/\R.Ok/\RB 1750 w.top/\QS R T/\T.size<=300/\∀b:Bool,(b=true↔T.Ok R w (List.replicate R.asks.length none))->p4 (.d (.bl b)) ls
def lY:W Fl:=(aT (ME (λxt=>(nJ (yT fw xt (ar (ak 0) (ar (ak 1) (ar (ak 2) aJ)))))) "NoTree" (cQ (wC (.bl false))))
  (cQ (wC (.bl true))))
theorem uP:∀ls p4,ls.length=3->fX ls p4->lY (ls++List.replicate 0 .un) (aO ls p4):=by
 rintro ls p4 - ⟨R,w,T,rfl,hR,hq,ht,hs,h⟩;unfold lY;walk_at "w";refine⟨R,w,T,rfl,hR,hq,ht,hs,λok=>?_,λno ws=>?_⟩
 . walk_at "w";exact⟨_,aj (aj (aj aX)),h true ⟨λ_=>ok,λ_=>rfl⟩⟩
 . refine⟨by show(Str.ofString "NoTree" == Str.ofString "NoTree" ||Str.ofString "NoTree" == Str.ofString "LoadError")=true; decide +kernel,?_⟩;exact⟨_,aj (aj (aj aX)),h false ⟨(λz=>by cases z),λz=>absurd z no⟩⟩
def eG:FS:=λls p4=>∃(R:aV)(f:Nat->Int)(b:Nat)(w:j8)(str:Nat->Rat),ls=[.d (aE R),.d (.lst (ff R.n f)),.d (.int (b:Int)),.d (PH w.top),.d (.bl w.strict)]/\R.Ok/\(∀t,t<R.n->(f t).natAbs<2^2000)/\0<b/\b<=2^1200/\RB 2000 w.top/\(∀t,t<R.n->str t=((f t:Int):Rat) / (b:Rat) / R.room t)/\p4 (.d (MQ (mB (λt=>o4 w (str t)) R.n))) ls
def gZ:W Fl:=(aT (bo 6 (au aM (au aM (ak 0) (wC (.int 0))) (ak 5)))
  (aT (bo 7 (bE (au bc (au bc (au aM (ak 1) (ak 5)) (au aM (ak 6) (wC (.int 1)))) (au aM (ak 3) (wC (.int 1))))))
  (aT (bo 8 (bE (au bc (au bc (au aM (ak 3) (wC (.int 0))) (au aM (ak 6) (wC (.int 0)))) (ak 2))))
  (Pi (Pf (aZ (au AI (ak 7) (ak 8))) (DO (aZ (ak 4)) (aZ (au lj (ak 7) (ak 8))))) (cQ (pT 5)) c8))))
def fH:W Fl:=(aT (tQ (jb (aR bJ (ar (ak 1) aJ))) (aW 5) gZ)
  (cQ (wC .non)))
theorem C6{w:j8}{f:Int}{b:Nat}{r:Rat}(hb:0<b)(hr:0<r):dD w.strict (f*(r.den:Int)*(w.top.den:Int)) (w.top.num*r.num*(b:Int))=o4 w ((f:Rat) / (b:Rat) / r):=by
 have hn:0<r.num:=by have h1:=Rat.num_nonneg.mpr (Rat.le_of_lt hr);have h2:=Gk (q:=r) (by grind);omega
 have e:(f:Rat) / (b:Rat) / r=Rat.divInt (f*(r.den:Int)) ((b:Int)*r.num):=by
  rw[Rat.divInt_eq_div,Rat.intCast_mul,Rat.intCast_mul,qj r];have h1:((b:Nat):Rat)≠0:=λz=>by have:=Rat.natCast_pos.mpr hb;grind
  have h2:((r.den:Nat):Rat)≠0:=λz=>by have:=Rat.natCast_pos.mpr r.den_pos;grind
  have e1:(((r.den:Nat):Int):Rat)=((r.den:Nat):Rat):=rfl;have e2:(((b:Nat):Int):Rat)=((b:Nat):Rat):=rfl;rw[e1,e2];have h3:r≠0:=by grind
  grind
 have hB:0<(b:Int)*r.num:=Int.mul_pos xL hn;have eb:w.top.num*r.num*(b:Int)=w.top.num*((b:Int)*r.num):=by rw[Int.mul_assoc,Int.mul_comm r.num]
 rw[eb,e];generalize (b:Int)*r.num=B at hB;generalize f*(r.den:Int)=A
 have i1:A*(w.top.den:Int)=w.top.num*B↔Rat.divInt A B=w.top:=by
  conv=>rhs;rhs;rw[<- Rat.num_divInt_den w.top]
  rw[Rat.divInt_eq_divInt_iff xL (qh _)]
 have i2:Rat.divInt A B<w.top↔A*(w.top.den:Int)<w.top.num*B:=mC hB
 have i3:w.top<Rat.divInt A B↔w.top.num*B<A*(w.top.den:Int):=by
  constructor
  .
   intro h;have n1:¬Rat.divInt A B<w.top:=by grind
   have n2:Rat.divInt A B≠w.top:=by grind
   rw[i2]at n1;have n3:A*(w.top.den:Int)≠w.top.num*B:=λz=>n2 (i1.mp z);omega
  .
   intro h;have n1:¬Rat.divInt A B<w.top:=λz=>by have:=i2.mp z;omega
   have n2:Rat.divInt A B≠w.top:=λz=>by have:=i1.mpr z;omega
   grind
 unfold dD o4;rw[decide_eq_decide.mpr i1,decide_eq_decide.mpr i3]
theorem om:∀ls p4,ls.length=5->eG ls p4->fH (ls++List.replicate 4 .un) (aO ls p4):=by
 rintro ls p4 - ⟨R,f,b,w,str,rfl,hR,hf,b0,b1,hq,hs,h⟩;have hi:=hR.hi;unfold fH;walk_at "w";rw[mF];refine⟨⟨xL,xL⟩,?_⟩;rw[Int.toNat_natCast];refine fb _ (λj Z=>∃x5 x6 x7 x8,Z=[.d (aE R),.d (.lst (ff R.n f)),.d (.int (b:Int)),.d (PH w.top),.d (.bl w.strict),x5,x6,x7,x8]/\∀t,t<j->o4 w (str t)=false) _ ⟨_,_,_,_,rfl,λt ht=>by omega⟩ ?_ ?_
 .
  rintro j Z hj ⟨x5,x6,x7,x8,rfl,hpre⟩ Q h1 h2 h3 h4;obtain⟨r1,r2⟩:=ly hR hj;have se:=C6 (w:=w) (f:=f j) b0 r1;rw[<- hs j hj]at se;unfold dD at se;unfold gZ;walk_at "w";refine⟨_,ug hj,?_⟩;walk_at "w";refine⟨_,qp hj,?_⟩;walk_at "w";have f1:=hf j hj;have d1:((R.room j).den:Int).natAbs<2^60:=by simpa using r2.2
  have t1:(w.top.den:Int).natAbs<2^2000:=by simpa using hq.2
  have m1:(f j*((R.room j).den:Int)).natAbs<2^2060:=by rw[Int.natAbs_mul];exact a8 f1 d1
  have m2:(w.top.num*(R.room j).num).natAbs<2^2060:=by rw[Int.natAbs_mul];exact a8 hq.1 r2.1
  have bb:((b:Int)).natAbs<2^1201:=by rw[Int.natAbs_natCast];exact SO b1 (Nat.pow_lt_pow_right x_ x_)
  refine⟨aF f1 x_,aF d1 x_,aF m1 x_,aF t1 x_,aF hq.1 x_,aF r2.1 x_,aF m2 x_,aF bb x_,?_⟩
  have yes:o4 w (str j)=true->∀Z,Q (.rt (.d (.int (j:Int)))) (.d (aE R)::.d (.lst (ff R.n f))::.d (.int (b:Int))::.d (PH w.top)::.d (.bl w.strict)::Z):=λhy Z=>h4 _ _ (by
   have e:=Fg (P:=λt=>o4 w (str t)) hj hy λi hi=>hpre i hi;rw[e]at h
   exact⟨_,aj (aj (aj (aj (aj aX)))),h⟩)
  have no:o4 w (str j)=false->∀x5 x6 x7 x8,Q .nx [.d (aE R),.d (.lst (ff R.n f)),.d (.int (b:Int)),.d (PH w.top),.d (.bl w.strict),x5,x6,x7,x8]:=λhn x5 x6 x7 x8=>h1 _ ⟨_,_,_,_,rfl,λt ht=>by
   rcases Nat.lt_or_ge t j with g|g
   . exact hpre t g
   .
    have:t=j:=by omega
    subst this
    exact hn⟩
  by_cases c1:w.top.num*(R.room j).num*(b:Int)<f j*((R.room j).den:Int)*(w.top.den:Int)
  . rw[if_pos c1];rw[decide_eq_true c1,Bool.true_or]at se;exact yes se.symm _
  .
   rw[if_neg c1];rw[decide_eq_false c1,Bool.false_or]at se;cases es:w.strict
   . rw[es]at se yes no;simp only[Bool.false_eq_true,if_false];exact no se.symm _ _ _ _
   .
    rw[es,Bool.true_and]at se;rw[es]at yes no;simp only[if_true];by_cases c2:f j*((R.room j).den:Int)*(w.top.den:Int)=w.top.num*(R.room j).num*(b:Int)
    . rw[if_pos c2];rw[decide_eq_true c2]at se;exact yes se.symm _
    . rw[if_neg c2];rw[decide_eq_false c2]at se;exact no se.symm _ _ _ _
 . rintro Z ⟨x5,x6,x7,x8,rfl,hpre⟩;have e:mB (λt=>o4 w (str t)) R.n=none:=Ap.mpr hpre;rw[e]at h;walk_at "w";exact⟨_,aj (aj (aj (aj (aj aX)))),h⟩
def gF:FS:=λls p4=>∃(el:List (Option Bool))(ws:List Bool),ls=[.d (QJ el),.d (iV ws)]/\el.length=ws.length/\ws.length<=20/\∀a,p4 (.own a ((ef el (ws.map some)).map λ(k:Nat)=>D.int (k:Int))) ls
def jJ:W L:=(ak 0)
def iF:W Fl:=(cQ (d5 1 [0,1] (jb (aR bJ (ar (ak 1) aJ))) (aW 0) (DO (aZ (au (zW false) (au aM (ak 1) (ak 0)) (ko (ar (wC (.str "on")) (ar (wC (.str "back")) aJ))))) (aZ (au yz (au aM (ak 1) (ak 0)) (au aM (ak 2) (ak 0))))) jJ))
theorem nI{el:List (Option Bool)}{ws:List Bool}(hl:el.length=ws.length):((List.range ws.length).filterMap λk=>if dA (el.getD k none,(ws.map some).getD k none)=true then some (D.int (k:Int))else none)=(ef el (ws.map some)).map λ(k:Nat)=>D.int (k:Int):=by
 have ez:(el.zip (ws.map some)).zipIdx=(List.range ws.length).map λk=>((el.getD k none,(ws.map some).getD k none),k):=by
  refine List.ext_getElem (by simp[hl]) λj h1 h2=>?_;have hj:j<ws.length:=by simpa using h2
  have hje:j<el.length:=by omega
  simp[hj,hje]
 unfold ef;rw[ez];generalize List.range ws.length=l
 induction l with
 |nil=>rfl
 | cons x l ih =>
  rw[List.filterMap_cons,List.map_cons,List.filter_cons];cases e:dA (el.getD x none,(ws.map some).getD x none)
  . simpa[e]using ih
  . simpa[e]using ih
theorem qY:∀ls p4,ls.length=2->gF ls p4->iF (ls++List.replicate 0 .un) (aO ls p4):=by
 rintro ls p4 - ⟨el,ws,rfl,hl,hw,h⟩;unfold iF QJ iV;walk_at "w";refine⟨⟨xL,xL⟩,?_⟩;rw[Int.toNat_natCast,mx];refine⟨by rw[SH,List.length_range];exact SJ hw x_,?_⟩
 refine d7 (h:=λk=>if dA (el.getD k none,(ws.map some).getD k none)=true then some (D.int (k:Int))else none) (List.range ws.length) _ _ (λk hk Q hQ=>?_) λl=>?_
 .
  have hk:=List.mem_range.mp hk;have hke:k<el.length:=by omega
  unfold jJ;walk_at "w";have e1:el.getD k none=el[k]:=by rw[SA,so hke];rfl
  have e2:(ws.map some).getD k none=some ws[k]:=by rw[SA,List.getElem?_map,so hk];rfl
  rw[e1,e2]at hQ;refine⟨_,bN hke,x_,?_,rfl,?_⟩
  . cases el[k]<;>rfl
  have sh:=sU el[k]
  cases eo:el[k]with
  | none =>
   rw[eo]at hQ;have e3:O5 (oG none) [D.str (Str.ofString "on"),D.str (Str.ofString "back")]=false:=rfl;rw[e3];simpa[dA]using hQ
  | some b =>
   rw[eo]at hQ sh;have e3:O5 (oG (some b)) [D.str (Str.ofString "on"),D.str (Str.ofString "back")]=true:=by cases b <;> decide
   rw[e3];simp only[if_true];refine⟨_,by rw[bN hke,eo],_,bN hk,sh,gN _,?_⟩;rw[xJ];have e4:dA (some b,some ws[k])=!(some b == some ws[k]):=by cases b<;>cases ws[k]<;>rfl
   rw[e4]at hQ;cases e5:(some b == some ws[k])
   . rw[e5]at hQ;simpa using hQ
   . rw[e5]at hQ;simpa using hQ
 . intro a;rw[List.nil_append,nI hl];exact⟨_,aj (aj aX),h a⟩
def jK:FS:=λls p4=>∃(R:aV)(w:j8)(ws:List Bool),ls=[.d (aE R),.d (cA R),.d (cB R),.d (aP w),.d (iV ws)]/\R.Ok/\(∀a∈R.asks,RB 60 a.size)/\RB 2000 w.top/\w.elder.length=R.asks.length/\ws.length=R.asks.length/\∀bb:Bool,(bb=true↔oH R w ws)->p4 (.d (.bl bb)) ls
def lZ:W Fl:=(aT (bo 5 (bE (ba eO (ar (ak 0) (ar (ak 1) (ar (au aM (ak 2) (wC (.int 0))) (ar (ak 4) aJ)))))))
  (aT (Pi (aZ (au vC (ba eG (ar (ak 0) (ar (ak 5) (ar (au aM (ak 2) (wC (.int 1))) (ar (au aM (ak 3) (wC (.int 0))) (ar (au aM (ak 3) (wC (.int 1))) aJ)))))) (wC .non))) (cQ (wC (.bl false))) c8)
  (cQ (au Dl (aR bJ (ar (bE (ba gF (ar (au aM (ak 3) (wC (.int 2))) (ar (ak 4) aJ)))) aJ)) (au aM (ak 3) (wC (.int 3)))))))
theorem uQ:∀ls p4,ls.length=5->jK ls p4->lZ (ls++List.replicate 1 .un) (aO ls p4):=by
 rintro ls p4 - ⟨R,w,ws,rfl,hR,hT,hw,he,hv,h⟩;obtain⟨b0,b1⟩:=CM hR hT;have few:=hR.few;unfold lZ cB aP;walk_at "w";refine⟨R,rH R,ws,rfl,hR,by simp[rH,QN],hv,λc2=>?_⟩;walk_at "w";refine⟨R,_,_,w,Au R ws,rfl,hR,λt ht=>SD (qq hR hT ws t) (SL x_ x_),b0,b1,hw,λt ht=>uk hR hT hv t,?_⟩;walk_at "w";unfold cB aP at h
 cases e:mB (λt=>o4 w (Au R ws t)) R.n with
 | some t =>
  unfold mB at e;have ht:t<R.n:=List.mem_range.mp (List.mem_of_find?_eq_some e);have hm:=List.find?_some e;simp only[MQ,if_true]
  exact⟨_,aj (aj (aj (aj (aj aX)))),h false ⟨(λz=>by cases z),λk=>by
   have:=k.1 t ht;rw[show lz R (sV R.asks ws) t=Au R ws t from rfl]at this;rw[this]at hm
   cases hm⟩⟩
 | none =>
  unfold mB at e;simp only[MQ,Bool.false_eq_true,if_false];refine⟨w.elder,ws,rfl,by rw[he,hv],xL,λa=>?_⟩;walk_at "w";refine⟨_,aj (aj (aj (aj (aj aX)))),h _ ?_⟩;rw[decide_eq_true_eq];constructor
  . intro hl;refine⟨λt ht=>?_,xL⟩;have:=List.find?_eq_none.mp e t (List.mem_range.mpr ht);rw[show lz R (sV R.asks ws) t=Au R ws t from rfl];simpa using this
  . intro k;have:=k.2;omega
def bC(n:Nat):FS:=λls p4=>∃(a:Addr)(xs:List D)(R:aV)(F:List (Nat×Bool)),ls=[.own a xs,.d (aE R),.d (QR F)]/\c9 xs/\R.Ok/\QT R.asks.length F/\R.asks.length-F.length<n /\
 ∀(T:Tr)(ys:List D),c9 ys->QS R T->T.size+1<=2^(R.asks.length-F.length+1)->p4 (.d (QL T)) [.own a ys,.d (aE R),.d (QR F)]
theorem ye(ls:List L)(p4:L->List L->Prop):¬bC 0 ls p4:=by rintro⟨_,_,_,_,_,_,_,_,h,_⟩;omega
abbrev q8:FS:=bC 9
def jL(self:FS):W Fl:=(nJ (Br 6 (a7 self 0 0 (gJ 0 (ar (ak 1) (ar (LU 8) aJ))))))
def jM(self:FS):W Fl:=(aT (Es 8 (ak 5) (ak 7))
  (jL self))
def jN(self:FS):W Fl:=(aT (bo 8 (LV 2))
  (jM self))
def jO(self:FS):W Fl:=(cQ (ko (ar (wC (.str "split")) (ar (ak 5) (ar (d6 6 (yB 6 (wC (.int 0))) (au aM (ak 6) (wC (.int 0)))) (ar (d6 6 (yB 6 (wC (.int 1))) (au aM (ak 6) (wC (.int 1)))) aJ))))))
def jP(self:FS):W Fl:=(aT (tQ (rL (ko (ar (wC (.str "on")) (ar (wC (.str "back")) aJ)))) (aW 7) (jN self))
  (jO self))
def oP(self:FS):W Fl:=(aT (bo 6 (l6 aJ))
  (jP self))
def jQ(self:FS):W Fl:=(aT (bo 4 (bE (a7 aB 0 0 (gJ 0 (ar (bE (aR bJ (ar (au aM (ak 1) (wC (.int 0))) aJ))) aJ)))))
  (cQ (au aM (l6 (ar (ko (ar (wC (.str "cut")) (ar (ak 4) (ar (bE (au b7 (ak 4) (a7 aB 0 0 (gJ 0 (ar (au nL (aR bJ (ar (au aM (ak 1) (wC (.int 0))) aJ)) (ak 4)) aJ))))) aJ)))) (ar (ko (ar (wC (.str "turned")) aJ)) aJ))) (aR tS (ar (au lj (a7 aB 0 0 (gJ 0 (ar (wC (.int 6)) aJ))) (wC (.int 0))) aJ)))))
def jR(self:FS):W Fl:=(aT (bo 5 (au aM (ak 3) (a7 aB 0 0 (gJ 0 (ar (bE (aR bJ (ar (ak 3) aJ))) aJ)))))
  (oP self))
def oQ(self:FS):W L:=(ak 0)
def jS(self:FS):W Fl:=(aT (Pi (Pf (aZ (au lj (ak 3) (l6 aJ))) (aZ (au lj (a7 aB 0 0 (gJ 0 (ar (wC (.int 3)) aJ))) (wC (.int 0))))) (jQ self) c8)
  (jR self))
def oo(self:FS):W Fl:=(aT (bo 3 (d5 1 [2] (jb (aR bJ (ar (au aM (ak 1) (wC (.int 1))) aJ))) (aW 0) (aZ (Jn true 1 (ak 0))) (oQ self)))
  (jS self))
section
variable{self:FS}{a a6:Addr}{xs:List D}{R:aV}{F:List (Nat×Bool)}{p4:L->List L->Prop}{x3 x4 x5 x6 x7 x8:L}
structure AS (a:Addr) (R:aV) (F:List (Nat×Bool)) (p4:L->List L->Prop):Prop where
 ok:R.Ok
 f:QT R.asks.length F
 h:∀(T:Tr)(ys:List D),c9 ys->QS R T->T.size+1<=2^(R.asks.length-F.length+1)->p4 (.d (QL T)) [.own a ys,.d (aE R),.d (QR F)]
theorem AS.ret(g:AS a R F p4){T:Tr}{ys:List D}(hy:c9 ys)(ht:QS R T)(hs:T.size+1<=2^(R.asks.length-F.length+1)){Z:Ev}(hρ:Z=.own a ys::.d (aE R)::.d (QR F)::[x3,x4,x5,x6,x7,x8]):aO [.own a xs,.d (aE R),.d (QR F)] p4 (.rt (.d (QL T))) Z:=by subst hρ;exact⟨_,dO v6 (aj (aj aX)),g.h T ys hy ht hs⟩
theorem Sh(g:AS a R F p4){ys:List D}(hy:c9 ys){k:Nat}(hk:k<R.asks.length)(hn:F.lookup k=none){p q:Tr}(hp:QS R p/\p.size+1<=2^(R.asks.length-F.length))(hq:QS R q/\q.size+1<=2^(R.asks.length-F.length)){c:Addr} :
  jO self [.own a ys,.d (aE R),.d (QR F),x3,x4,.d (.int (k:Int)),.own c [QL p,QL q],x7,x8] (aO [.own a xs,.d (aE R),.d (QR F)] p4):=by
 have e:sizeLine=16777216:=by decide
 unfold jO;walk_at "w";refine⟨xL,?_⟩;refine g.ret (T:=.split k p q) hy ⟨hk,hp.1,hq.1⟩ ?_ rfl;have sz:(Tr.split k p q).size=p.size+q.size+1:=rfl;have h1:=hp.2;have h2:=hq.2;rw[sz,Nat.pow_succ];omega
theorem Lv{n:Nat}(g:AS a R F p4)(hlt:R.asks.length-F.length<n+1){ys Ts:List D}(hy:c9 ys){k:Nat}(hk:k<R.asks.length)(hn:F.lookup k=none){b:Bool}{c:Addr}(hTs:Ts.length<=5){Q:Fl->Ev->Prop}
  (h:∀(T:Tr)(ys:List D) x8,c9 ys->(QS R T/\T.size+1<=2^(R.asks.length-F.length))->Q .nx [.own a ys,.d (aE R),.d (QR F),x3,x4,.d (.int (k:Int)),.own c (Ts++[QL T]),.d (.str (d8 b)),x8]) :
  jN (bC n) [.own a ys,.d (aE R),.d (QR F),x3,x4,.d (.int (k:Int)),.own c Ts,.d (.str (d8 b)),x8] Q:=by
 have e:sizeLine=16777216:=by decide
 have few:=g.ok.few;have fl:=g.f.len;have fp:=g.f.put (b:=b) hk hn;have fl2:=fp.len;rw[List.length_append,List.length_cons,List.length_nil]at fl2;have pd:=Gu (b:=b) hn;have ul:((F.map λp=>(Sum.inl (p.1:Int):Of)).zip (F.map λp=>D.str (d8 p.2))).length=F.length:=by simp
 unfold jN;unfold QR at *;walk_at "w";intro a12;unfold jM;walk_at "w";rw[ul,pd];refine⟨xL,?_⟩;have zf:((((F++[(k,b)]).map λp=>(Sum.inl (p.1:Int):Of)).zip ((F++[(k,b)]).map λp=>D.str (d8 p.2))).map (·.1))=(F++[(k,b)]).map λp=>(Sum.inl (p.1:Int):Of):=List.map_fst_zip v6;have zs:((((F++[(k,b)]).map λp=>(Sum.inl (p.1:Int):Of)).zip ((F++[(k,b)]).map λp=>D.str (d8 p.2))).map (·.2))=(F++[(k,b)]).map λp=>D.str (d8 p.2):=List.map_snd_zip v6;unfold jL;walk_at "w";rw[zf,zs];refine⟨a,ys,R,F++[(k,b)],rfl,hy,g.ok,fp,by rw[List.length_append,List.length_cons,List.length_nil];omega,λT zs' hz hT hs=>⟨zs',rfl,?_⟩⟩;rw[List.length_append,List.length_cons,List.length_nil,show R.asks.length-(F.length+(0+1))+1=R.asks.length-F.length by omega]at hs;walk_at "w";exact⟨xL,h T zs' _ hz ⟨hT,hs⟩⟩
theorem Si{n:Nat}(g:AS a R F p4)(hlt:R.asks.length-F.length<n+1){ys:List D}(hy:c9 ys){k:Nat}(hk:k<R.asks.length)(hn:F.lookup k=none){c:Addr} :
  jP (bC n) [.own a ys,.d (aE R),.d (QR F),x3,x4,.d (.int (k:Int)),.own c [],.un,.un] (aO [.own a xs,.d (aE R),.d (QR F)] p4):=by
 unfold jP;walk_at "w";refine⟨x_,?_⟩;refine j4 (enc:=λb=>D.str (d8 b)) [true,false] (λpre Z=>∃ys Ts x7 x8,Z=[.own a ys,.d (aE R),.d (QR F),x3,x4,.d (.int (k:Int)),.own c (Ts.map QL),x7,x8]/\c9 ys/\Ts.length=pre.length/\∀T∈Ts,QS R T/\T.size+1<=2^(R.asks.length-F.length)) _ ⟨ys,[],_,_,rfl,hy,rfl,λT hT=>by cases hT⟩ ?_ ?_
 .
  rintro pre b suf Z hp ⟨ys,Ts,x7,x8,rfl,hy,hl,hT⟩ Q h1 h2 h3 h4;have hpl:pre.length<=2:=by have:=congrArg List.length hp;simp at this;omega
  walk_at "w";refine Lv g hlt hy hk hn (by rw[SH];omega) λT zs x12 hz hTT=>h1 _ ⟨zs,Ts++[T],_,_,by rw[List.map_append];rfl,hz,by simp[hl],λT' hT'=>?_⟩;rcases List.mem_append.mp hT' with hT' | hT'
  . exact hT T' hT'
  . rw[List.mem_singleton.mp hT'];exact hTT
 .
  rintro Z ⟨ys,Ts,x7,x8,rfl,hy,hl,hT⟩
  obtain⟨p,q,e2⟩:∃p q,Ts=[p,q]:=by
   match Ts,hl with
   |[u,v],_=>exact⟨u,v,rfl⟩
  subst e2;exact Sh g hy hk hn (hT p v6) (hT q v6)
theorem Sj{n:Nat}(g:AS a R F p4)(hlt:R.asks.length-F.length<n+1){ys:List D}(hy:c9 ys)(hl:bg R.asks.length F≠[]) :
  jR (bC n) [.own a ys,.d (aE R),.d (QR F),.d (.lst ((bg R.asks.length F).map λ(k:Nat)=>D.int (k:Int))),.un,.un,.un,.un,.un] (aO [.own a xs,.d (aE R),.d (QR F)] p4):=by
 have lf:=wm (F:=F) g.ok;have l0:0<(bg R.asks.length F).length:=List.length_pos_iff.mpr hl;have big:(1000:Int)<=10^60:=by decide
 unfold jR;walk_at "w";refine⟨a,ys,_,rfl,hy,xL,xL,λr y1 h1 r0 r1=>⟨y1,rfl,?_⟩⟩;walk_at "w";obtain⟨j,rfl⟩:=Int.eq_ofNat_of_zero_le r0;have hj:j<(bg R.asks.length F).length:=by omega
 obtain⟨hk,hn⟩:=uO.mp (List.getElem_mem hj);refine⟨_,bN hj,?_⟩;unfold oP;walk_at "w";refine⟨x_,λc=>?_⟩;exact Si g hlt h1 hk hn
theorem Gx(g:AS a R F p4){ys:List D}(hy:c9 ys){K:Fl->Ev->Prop}(hK:∀v Z,aO [.own a xs,.d (aE R),.d (QR F)] p4 (.rt v) Z->K (.rt v) Z):jQ self [.own a ys,.d (aE R),.d (QR F),x3,.un,x5,x6,x7,x8] K:=by
 have e:sizeLine=16777216:=by decide
 have lo:=g.ok.lo;have hi:=g.ok.hi;have big:(1000:Int)<=10^60:=by decide
 have Ov:∀(x' d':Nat){x4:L}{ys:List D},c9 ys->x'+d' < R.n->aO [.own a xs,.d (aE R),.d (QR F)] p4 (.rt (.d (.tup [.str "cut",.int (x':Int),.int ((x':Int)+(d':Int))]))) [.own a ys,.d (aE R),.d (QR F),x3,x4,x5,x6,x7,x8]:=λx' d' x4 ys hy hlt=>by have:=g.ret (xs:=xs) (x3:=x3) (x4:=x4) (x5:=x5) (x6:=x6) (x7:=x7) (x8:=x8) (T:=.cut (x',x'+d')) hy ⟨by show x'<=x'+d';omega,hlt⟩ (gY rfl) rfl;unfold QL at this;dsimp only at this;rw[Int.natCast_add]at this;exact this
 have fin2:∀{x4:L}{ys:List D},c9 ys->aO [.own a xs,.d (aE R),.d (QR F)] p4 (.rt (.d (.tup [.str "turned"]))) [.own a ys,.d (aE R),.d (QR F),x3,x4,x5,x6,x7,x8]:=λhy=>g.ret (T:=.turned) hy trivial (gY rfl) rfl;unfold jQ;walk_at "w";refine⟨a,ys,_,rfl,hy,xL,xL,λx y1 h1 x0 x1=>⟨y1,rfl,?_⟩⟩;walk_at "w";refine⟨a,y1,_,rfl,h1,xL,xL,λd y2 h2 d0 d1=>⟨y2,rfl,?_⟩⟩;walk_at "w";refine⟨xL,xL,xL,λ_=>⟨a,y2,6,rfl,h2,x_,x_,λz y3 h3 z0 z1=>⟨y3,rfl,?_⟩⟩⟩;obtain⟨x',rfl⟩:=Int.eq_ofNat_of_zero_le x0;obtain⟨d',rfl⟩:=Int.eq_ofNat_of_zero_le d0;walk_at "w";by_cases hz:z=0
 . rw[if_pos hz];exact⟨_,qg,hK _ _ (fin2 h3)⟩
 . rw[if_neg hz];exact⟨_,qf,hK _ _ (Ov x' d' h3 xL)⟩
theorem Sl{n:Nat}(g:AS a R F p4)(hlt:R.asks.length-F.length<n+1){ys:List D}(hy:c9 ys) :
  jS (bC n) [.own a ys,.d (aE R),.d (QR F),.own a6 ((bg R.asks.length F).map λ(k:Nat)=>D.int (k:Int)),.un,.un,.un,.un,.un] (aO [.own a xs,.d (aE R),.d (QR F)] p4):=by
 have e:sizeLine=16777216:=by decide
 have s0:cq (.lst []):=dh (n:=1) rfl x_;unfold jS;walk_at "w";refine⟨xL,λ_=>⟨pM _,s0,?_⟩⟩;rw[uj];by_cases hl:bg R.asks.length F=[]
 . rw[if_pos (by rw[hl];rfl)];exact Gx g hy λv Z h=>h
 .
  have le:((bg R.asks.length F).map λ(k:Nat)=>D.int (k:Int)).isEmpty=false:=by
   cases hls:bg R.asks.length F with
   |nil=>exact absurd hls hl
   |cons _ _=>rfl
  rw[le];simp only[Bool.false_eq_true,if_false];refine⟨a,ys,3,rfl,hy,x_,x_,λq y0 h0 q0 q1=>⟨y0,rfl,?_⟩⟩;walk_at "w";by_cases hq:q=0
  . rw[if_pos hq];exact Gx g h0 λv Z h=>h
  . rw[if_neg hq];exact Sj g hlt h0 hl
end
theorem wo:∀n ls p4,ls.length=3->bC (n+1) ls p4->oo (bC n) (ls++List.replicate 6 .un) (aO ls p4):=by
 rintro n ls p4 - ⟨a,xs,R,F,rfl,hx,hR,hF,hn,h⟩;have few:=hR.few;have e:sizeLine=16777216:=by decide
 have er:rM 0 R.asks.length=(List.range R.asks.length).map λ(k:Nat)=>D.int (k:Int):=by simp[rM]
 have hk:=λb=>Sl (xs:=xs) (a6:=b) ⟨hR,hF,h⟩ hn hx;unfold QR at *;unfold oo;walk_at "w";refine⟨⟨xL,xL⟩,?_⟩;rw[Int.toNat_natCast,er]
 refine⟨by simp;omega,d7 (α:=Nat) (enc:=λk=>D.int (k:Int)) (h:=λk=>if(F.lookup k).isNone then some (.int (k:Int))else none) _ [] _ (λk hk' Q q=>?_) λl'=>?_⟩
 .
  unfold oQ;walk_at "w";rw[sX,Option.isSome_map]
  revert q
  cases F.lookup k<;>exact λq=>q
 . rw[nE];walk_at "w";exact hk
def fs_law:FS:=λls p4=>∃ns:List Int,ls=[.d (.lst (ns.map .int))]/\ns.length<=63/\p4 (.d (.bl true)) ls
theorem C7{ns:List Int}(hl:ns.length<=63):fs_law [.d (.lst (ns.map .int))] (λr _=>r=.d (.bl true)):=⟨ns,rfl,hl,rfl⟩
def tw:W Fl:=(Pi (DO (aZ (ak 8)) (aZ (ba fX (ar (ak 1) (ar (ak 7) (ar (bE (a7 q8 0 6 (gJ 6 (ar (ak 1) (ar LS aJ))))) aJ)))))) (cQ (wC (.bl false))) c8)
def tD:W Fl:=(aT (Pi (aZ (au lj (ba fX (ar (ak 1) (ar (ak 7) (ar (ak 9) aJ)))) (ak 8))) (cQ (wC (.bl false))) c8)
  tw)
def C8:W L:=(ba jK (ar (ak 1) (ar (ak 2) (ar (ak 3) (ar (ak 4) (ar (ak 0) aJ))))))
def tE:W Fl:=(aT (bo 9 (bE (a7 nD 0 6 (gJ 6 (ar (ak 1) (ar (ak 2) (ar (ak 3) (ar (ak 7) (ar LS aJ)))))))))
  tD)
def tF:W Fl:=(aT (bo 8 (bE (aR Ku (ar (bE (d5 1 [1,2,3,7] (rL (ba cV (ar (bE (aR bJ (ar (au aM (ak 1) (wC (.int 1))) aJ))) aJ))) (aW 0) eX C8)) aJ))))
  tE)
def tG:W Fl:=(aT (bo 7 (bE (a7 jH 0 6 (gJ 6 (ar (ak 1) (ar (ak 2) (ar (ak 3) aJ)))))))
  tF)
def yf:W Fl:=(aT (bo 6 (ba cG (ar (ak 0) (ar (ak 5) aJ))))
  tG)
def Jh:W Fl:=(cQ (wC (.bl true)))
def C9:W Fl:=(aT (tQ (DU (wC (.int 3)) (aR DX (ar (wC (.int 4)) (ar (bE (aR Bq (ar (bE (aR bJ (ar (ak 0) aJ))) (ar (ak 4) aJ)))) aJ)))) (aW 5) yf)
  Jh)
def Da:W L:=(au aM (ak 0) (wC (.int 3)))
def Dc:W Fl:=(aT (bo 4 (au aM (l6 (ar (wC (.int 63)) (ar (wC (.int 63)) (ar (wC (.int 40)) (ar (wC (.int 22)) (ar (wC (.int 10)) aJ)))))) (aR bJ (ar (au aM (ak 1) (wC (.int 1))) aJ))))
  C9)
def Dd:W Fl:=(aT (bo 3 (bE (ba gw (ar (bE (d5 1 [] (rL (au aM (ak 1) (wC (.int 1)))) (aW 0) eX Da)) aJ))))
  Dc)
def De:W Fl:=(aT (bo 2 (bE (ba oh (ar (ak 1) aJ))))
  Dd)
def Ji:W Fl:=(aT (bo 1 (bE (ba jD (ar (ak 0) (ar (wC (.int 0)) (ar (wC (.int 6)) (ar (wC (.int 4)) aJ)))))))
  De)
theorem Lw(n:Nat):jg n []=List.replicate n none:=by unfold jg;refine List.ext_getElem v6 λi h1 h2=>?_;simp
theorem Gy{n m:Nat}{T:Tr}(hn:n<=4)(h:T.size+1<=2^(n-m+1)):T.size<=300:=by have:2^(n-m+1)<=2^5:=SL x_ xL;omega
theorem Df{n:Nat}{ws:List Bool}(h:Ar (List.replicate n none) ws):ws.length=n:=by have:=h.1;rwa [List.length_replicate]at this
theorem tH{n:Nat}{ws:List Bool}(h:ws.length=n):Ar (List.replicate n none) ws:=⟨by rw[List.length_replicate];exact h,λi b e=>by
 rw[SA,List.getElem?_replicate]at e
 split at e<;>cases e⟩
theorem FP{ns:List Int}{R:aV}(hR:R.Ok)(few:R.asks.length<=4)(hT:∀a∈R.asks,RB 60 a.size){j:Nat}(hj:j<=60){x4 x6 x7 x8 x9:L}{Q:Fl->Ev->Prop}(h:∀x6 x7 x8 x9,Q .nx [.d (.lst (ns.map .int)),.d (aE R),.d (cA R),.d (cB R),x4,.d (.int (3+(j:Int))),x6,x7,x8,x9]) :
  yf [.d (.lst (ns.map .int)),.d (aE R),.d (cA R),.d (cB R),x4,.d (.int (3+(j:Int))),x6,x7,x8,x9] Q:=by
 unfold yf;walk_at "w";refine⟨ns,3+(j:Int),rfl,xL,xL,λb xs hx=>?_⟩;walk_at "w";unfold tG;walk_at "w";refine⟨b,xs,R,rfl,hx,hR,hT,xL,λw ys hys hw he hmo=>⟨ys,rfl,?_⟩⟩;walk_at "w";unfold tF;walk_at "w";refine⟨_,rfl,xL,λc6=>?_⟩;walk_at "w";obtain⟨kb,kbI⟩:∃kb:List Bool->Bool,∀ws,kb ws=true↔oH R w ws:=⟨λws=>@decide _ (Classical.propDecidable (oH R w ws)),λws=>@decide_eq_true_iff _ (Classical.propDecidable _)⟩;have hp:2^R.asks.length<=2^4:=SL x_ few;refine⟨by rw[j9];exact SJ hp x_,cD (h:=λws=>D.bl (kb ws)) _ _ _ (λvs hm Q hq=>?_) λl=>?_⟩
 . unfold C8;walk_at "w";refine⟨R,w,vs,rfl,hR,hT,hw.mono x_,he,fQ.mp hm,λbb e=>?_⟩;rw[show bb=kb vs from Bool.eq_iff_iff.mpr (e.trans (kbI vs).symm)];exact hq
 rw[List.nil_append];walk_at "w";intro c7;refine⟨(sW R.asks.length).map kb,by rw[List.map_map];rfl,?_⟩;generalize hkk:((sW R.asks.length).map kb).any id=kk
 have kkI:kk=true↔∃ws:List Bool,ws.length=R.asks.length/\oH R w ws:=by
  rw[<- hkk,List.any_map,List.any_eq_true];constructor
  . rintro⟨ws,hm,e⟩;exact⟨ws,fQ.mp hm,(kbI ws).mp e⟩
  . rintro⟨ws,hl,e⟩;exact⟨ws,fQ.mpr hl,(kbI ws).mpr e⟩
 walk_at "w";unfold tE;walk_at "w";refine⟨b,ys,R,w,[],rfl,hys,hR,hT,hw,he,⟨(λp hp=>by cases hp),List.nodup_nil⟩,by rw[List.length_nil];omega,λT zs hz gT=>⟨zs,rfl,?_⟩⟩;have gok:=gT.ok;have gs:=Gy few gT.s;rw[Lw]at gok;walk_at "w";unfold tD;walk_at "w";refine⟨R,w,T,rfl,hR,hw,gT.wf,gs,λbl hbl=>?_⟩;walk_at "w"
 have ne:bl≠kk:=by
  intro e;subst e
  cases hb:bl with
  | true =>
   obtain⟨ws,hl,hk⟩:=kkI.mp hb;exact mH hR T _ ws v6 (hbl.mp hb) (tH hl) hk
  | false =>
   have ok:=gok λws hc hk=>by have:=kkI.mpr ⟨ws,Df hc,hk⟩;rw[hb]at this;cases this
   have:=hbl.mpr ok;rw[hb]at this;cases this
 rw[if_neg ne];unfold tw;walk_at "w"
 cases hkb:kk with
 | false =>
  simp only[Bool.false_eq_true,if_false];exact h _ _ _ _
 | true =>
  simp only[if_true];refine⟨b,zs,R,[],rfl,hz,hR,⟨(λp hp=>by cases hp),List.nodup_nil⟩,by rw[List.length_nil];omega,λT2 zs2 hz2 wT2 sT2=>⟨zs2,rfl,?_⟩⟩;walk_at "w";refine⟨R,w,T2,rfl,hR,hw,wT2,Gy few sT2,λb2 hb2=>?_⟩;obtain⟨ws,hl,hk⟩:=kkI.mp hkb;have nb:b2=false:=Bool.eq_false_iff.mpr λz=>mH hR T2 _ ws v6 (hb2.mp z) (tH hl) hk;subst nb;walk_at "w";exact h _ _ _ _
theorem Jj:∀ls p4,ls.length=1->fs_law ls p4->Ji (ls++List.replicate 9 .un) (aO ls p4):=by
 rintro ls p4 - ⟨ns,rfl,hl,h⟩;unfold Ji;walk_at "w";refine⟨ns,0,6,4,rfl,x_,x_,x_,x_,λR hD=>?_⟩;have hR:=hD.ok;have few:=hD.few;have hT:=hD.tt;walk_at "w";unfold De;walk_at "w";refine⟨R,rfl,hR,λc1=>?_⟩;walk_at "w";unfold Dd;walk_at "w";refine⟨SJ few x_,cD (enc:=rG) (h:=λa=>PH a.size) R.asks _ _ (λa ha Q hQ=>?_) λl c2=>?_⟩
 . unfold Da;walk_at "w";exact hQ
 rw[List.nil_append];walk_at "w";refine⟨QN R,by rw[QN,List.map_map];rfl,by rw[QN,SH];omega,λq hq=>?_,?_⟩
 . obtain⟨a,ha,rfl⟩:=List.mem_map.mp hq;exact hD.tt a ha
 have ew:D.tup [.lst ((QN R).map λq=>D.int (d9 (QF (QN R)) q)),.int (QF (QN R):Int)]=cB R:=by unfold cB rH;rw[List.map_map (f:=d9 _)];rfl
 rw[ew];walk_at "w";unfold Dc;walk_at "w";rw[show D.lst (R.asks.map λa=>D.lst ((Qy R.n a.one a.other).map λ(t:Nat)=>D.int (t:Int)))=cA R from rfl]
 obtain⟨N,en,n1,n2⟩:∃N:Int,OV [D.int 63,D.int 63,D.int 40,D.int 22,D.int 10] (R.asks.length:Int)=some (.int N)/\10<=N/\N<=63:=by
  have:R.asks.length=0∨R.asks.length=1∨R.asks.length=2∨R.asks.length=3∨R.asks.length=4:=by omega
  rcases this with e|e|e|e|e<;>rw[e]
  . exact⟨63,qf,x_,x_⟩
  . exact⟨63,qg,x_,x_⟩
  . exact⟨40,EE,x_,x_⟩
  . exact⟨22,H0,x_,x_⟩
  . exact⟨10,KS,x_,x_⟩
 refine⟨x_,λ_=>⟨_,en,?_⟩⟩;unfold C9;walk_at "w"
 try rw[SH]
 generalize hM:(if(if N<(ns.length:Int)then N else(ns.length:Int)) > 4 then if N<(ns.length:Int)then N else(ns.length:Int)else(4:Int))=M
 have hM4:4<=M/\M<=63:=by
  rw[<- hM]
  split<;>(try split)<;>omega
 refine⟨⟨xL,xL⟩,⟨xL,xL⟩,?_⟩;refine ua 3 _ (λj Z=>∃x5 x6 x7 x8 x9,Z=[.d (.lst (ns.map .int)),.d (aE R),.d (cA R),.d (cB R),.d (.int N),x5,x6,x7,x8,x9]) _ ⟨_,_,_,_,_,rfl⟩ ?_ ?_
 . rintro j Z hj ⟨x5,x6,x7,x8,x9,rfl⟩ Q h1 h2 h3 h4;walk_at "w";exact FP hR few hT xL λx6 x7 x8 x9=>h1 _ ⟨_,_,_,_,_,rfl⟩
 . rintro Z ⟨x5,x6,x7,x8,x9,rfl⟩;walk_at "w";exact⟨_,aj aX,h⟩
noncomputable abbrev gG:Stmt:=Hd.inCls (Hd.top 9) 0
noncomputable abbrev jT:FuncData:=Qo "__init__" "LoadError.__init__" gG (.str "ringloads.errors" 239) 69
noncomputable abbrev iG:Stmt:=Hd.inCls (Hd.top 10) 0
noncomputable abbrev jU:FuncData:=Qo "__init__" "NoTree.__init__" iG (.str "ringloads.errors" 239) 89
structure Tx (K:PySem.W.Frag) (mg:Str->Option Value) (ad:Nat->Addr) (fd:Nat->FuncData):Prop where
 x_greatest_shared:FX K mg "greatest_shared" dE (ad 0) (fd 0) ["one","other"]
 x_least_common:FX K mg "least_common" gb (ad 1) (fd 1) ["one","other"]
 x_is_whole:FX K mg "is_whole" nW (ad 2) (fd 2) ["thing"]
 x_is_number_below:FX K mg "is_number_below" dF (ad 3) (fd 3) ["thing","many"]
 x_are_two_wholes:FX K mg "are_two_wholes" eB (ad 4) (fd 4) ["thing"]
 x_is_told_as:FX K mg "is_told_as" jh (ad 5) (fd 5) ["thing","word","length"]
 x_lowest:FX K mg "lowest" uo (ad 6) (fd 6) ["top","bottom"]
 x_times:FX K mg "times" xQ (ad 7) (fd 7) ["one","other"]
 x_is_cut:FX K mg "is_cut" uu (ad 8) (fd 8) ["ring","thing"]
 x_is_within:FX K mg "is_within" lA (ad 9) (fd 9) ["cut","place"]
 x_parts_places:FX K mg "parts_places" gh (ad 10) (fd 10) ["cut","one","other"]
 x_common_bottom:FX K mg "common_bottom" fg (ad 11) (fd 11) ["some"]
 x_in_units:FX K mg "in_units" ka (ad 12) (fd 12) ["some","units"]
 x_weighed:FX K mg "weighed" ji (ad 13) (fd 13) ["ring","top"]
 x_other_way:FX K mg "other_way" lB (ad 14) (fd 14) ["way"]
 x_is_over:FX K mg "is_over" qD (ad 15) (fd 15) ["ring","k","way","tie"]
 x_turned_by:FX K mg "turned_by" ia (ad 16) (fd 16) ["elder","ways"]
 x_is_too_much:FX K mg "is_too_much" ib (ad 17) (fd 17) ["wish","load","bound"]
 x_are_too_many:FX K mg "are_too_many" gi (ad 18) (fd 18) ["wish","ways"]
 x_is_split:FX K mg "is_split" nY (ad 19) (fd 19) ["thing"]
 x_times_over:FX K mg "times_over" fR (ad 20) (fd 20) ["ring","k","way","cut"]
 x_is_too_full:FX K mg "is_too_full" eL (ad 21) (fd 21) ["ring","wish","scale","fixed","cut"]
 x_can_stand:FX K mg "can_stand" lC (ad 22) (fd 22) ["ring","wish","scale","fixed","thing"]
 x_branch_of:FX K mg "branch_of" lD (ad 23) (fd 23) ["here","way"]
 x_look_at_tree:FX K mg "look_at_tree" dQ (ad 24) (fd 24) ["ring","wish","thing"]
 x__law_begun:FX K mg "_law_begun" jj (ad 25) (fd 25) ["_law_script","_law_k"]
 x__law_take:FX K mg "_law_take" lE (ad 26) (fd 26) ["_law_state","_law_many"]
 x__law_names:FX K mg "_law_names" eh (ad 27) (fd 27) ["_law_state","_law_many"]
 x__law_low:FX K mg "_law_low" nZ (ad 28) (fd 28) ["_law_top_here","_law_bottom"]
 x__law_amount:FX K mg "_law_amount" ie (ad 29) (fd 29) ["_law_state","_law_least","_law_kind"]
 x__law_rooms:FX K mg "_law_rooms" jm (ad 30) (fd 30) ["_law_state","_law_ties","_law_kind"]
 x__law_ends:FX K mg "_law_ends" lF (ad 31) (fd 31) ["_law_state","_law_shape","_law_places","_law_k"]
 x__law_ring:FX K mg "_law_ring" lG (ad 32) (fd 32) ["_law_script","_law_at","_law_most","_law_count"]
 x__law_on:FX K mg "_law_on" qF (ad 33) (fd 33) ["_law_ring_here"]
 x__law_wholes:FX K mg "_law_wholes" eM (ad 34) (fd 34) ["_law_some"]
 x__law_top:FX K mg "_law_top" n4 (ad 35) (fd 35) ["_law_ring_here","_law_loads_here","_law_bottom"]
 x__law_loads:FX K mg "_law_loads" fS (ad 36) (fd 36) ["_law_ring_here","_law_on_here","_law_sizes","_law_ways"]
 x__law_all_ways:FX K mg "_law_all_ways" cy (ad 37) (fd 37) ["_law_many"]
 x__law_wish:FX K mg "_law_wish" fj (ad 38) (fd 38) ["_law_state","_law_ring_here","_law_on_here","_law_wholes_here"]
 x__law_shown:FX K mg "_law_shown" fT (ad 39) (fd 39) ["_law_ring_here","_law_on_here","_law_wholes_here","_law_wish_here","_law_fixed","_law_g","_law_h"]
 x__law_showing:FX K mg "_law_showing" gj (ad 40) (fd 40) ["_law_ring_here","_law_on_here","_law_wholes_here","_law_wish_here","_law_fixed"]
 x__law_grown:FX K mg "_law_grown" ej (ad 41) (fd 41) ["_law_state","_law_ring_here","_law_on_here","_law_wholes_here","_law_wish_here","_law_fixed"]
 x__law_lets:FX K mg "_law_lets" lI (ad 42) (fd 42) ["_law_ring_here","_law_wish_here","_law_tree"]
 x__law_strained:FX K mg "_law_strained" fk (ad 43) (fd 43) ["_law_ring_here","_law_loads_here","_law_bottom","_law_top_here","_law_strict"]
 x__law_turned:FX K mg "_law_turned" eN (ad 44) (fd 44) ["_law_elder","_law_ways"]
 x__law_kept:FX K mg "_law_kept" lJ (ad 45) (fd 45) ["_law_ring_here","_law_on_here","_law_wholes_here","_law_wish_here","_law_ways"]
 x__law_any:FX K mg "_law_any" kc (ad 46) (fd 46) ["_law_state","_law_ring_here","_law_fixed"]
 x_law:FX K mg "law" Az (ad 47) (fd 47) ["_law_script"]
 li:BV K mg 73 70 jT gG
 i_NoTree:O6 K "__init__" "NoTree.__init__" iG 90 jU
 c_NoTree:XT K mg "NoTree" 93 90 jU ["self","way"] ["way"]
 h_NoTree:XH K mg "NoTree" 93
 z_ValueError:mg "ValueError"=none
 z_abs:mg "abs"=none
 z_any:mg "any"=none
 z_bool:mg "bool"=none
 z_dict:mg "dict"=none
 z_enumerate:mg "enumerate"=none
 z_int:mg "int"=none
 z_isinstance:mg "isinstance"=none
 z_len:mg "len"=none
 z_list:mg "list"=none
 z_max:mg "max"=none
 z_min:mg "min"=none
 z_range:mg "range"=none
 z_str:mg "str"=none
 z_sum:mg "sum"=none
 z_tuple:mg "tuple"=none
 z_zip:mg "zip"=none
 g_BACK:tY K mg "BACK" (.str "back")
 g_CUT:tY K mg "CUT" (.str "cut")
 g_MOST_WALKED:tY K mg "MOST_WALKED" (.int 300)
 g_ON:tY K mg "ON" (.str "on")
 g_SPLIT:tY K mg "SPLIT" (.str "split")
 g_TURNED:tY K mg "TURNED" (.str "turned")
section
variable{P:Program}{w:World}{K:PySem.W.Frag}{mg:Str->Option Value}{base:Heap}{ad:Nat->Addr}{fd:Nat->FuncData}
theorem rf:aG ["self","text"] ["self","text"] (ao gG):=⟨rfl,rfl,rfl,y_,rfl,y_,y_⟩
theorem wq:aG ["self","way"] ["self","way"] (ao iG):=⟨rfl,rfl,rfl,y_,rfl,y_,y_⟩
theorem wu(T:Tx K mg ad fd):FnOk P w K mg base CX0 1 70 jT ["self","text"] (LP K):=T.li.f.ok (k:=0) rf Er (λcdv A outer s H vs Q E hr q=>⟨_,AR (AU (El rfl T.z_ValueError (cM (pv 0) (cM (pv 1) iZ)))),HM q⟩)
theorem Dg(T:Tx K mg ad fd):FnOk P w K mg base CX0 2 90 jU ["self","way"] (Jm K "way"):=T.i_NoTree.ok (k:=1) wq Ey (λcdv A outer s H vs Q E hr q=>⟨_,Ds (AU (Em T.li (wu T) hr rfl (cM (pv 0) (cM AQ iZ)))) (AR (HL (pv 0) (MJ (A5 oA rfl T.z_list y_ (cM (pv 1) iZ))))),HU q⟩)
theorem cx:aG nV ["one","other"] (ao dE):=⟨rfl,rfl,rfl,y_,rfl,y_,y_⟩
theorem fY(T:Tx K mg ad fd):FnOk P w K mg base CX0 1 (ad 0) (fd 0) ["one","other"] (spF K 2 cw) :=
 bD (k:=0) T.x_greatest_shared.f cx dG (λcdv A outer s H E hr=>(ai (j2 PassesOwn.never (Pg (rN hr.units) (ae 1) ah (aN _)) (ai (ay (i:=2) cx.nd rfl v4 (ax de (ae 0) (ae 1)))
  (ai (ay (i:=0) cx.nd rfl v4 (ae 1))
  (aq (ay (i:=1) cx.nd rfl v4 (ae 2))))))
  (aq (aL (aH Bp rfl T.z_abs y_ (af (ae 0) ag))))))
  lL
theorem rg:aG rR ["one","other"] (ao gb):=⟨rfl,rfl,rfl,y_,rfl,y_,y_⟩
theorem rh(T:Tx K mg ad fd):FnOk P w K mg base CX0 2 (ad 1) (fd 1) ["one","other"] (spF K 2 fm) :=
 bD (k:=1) T.x_least_common.f rg gk (λcdv A outer s H E hr=>(aq (aL (ax aU (ax jc (ae 0) (bp (fY T) T.x_greatest_shared hr (af (ae 0) (af (ae 1) ag)))) (ae 1)))))
  o7
theorem yg:aG Av ["thing"] (ao nW):=⟨rfl,rfl,rfl,y_,rfl,y_,y_⟩
theorem l4(T:Tx K mg ad fd):FnOk P w K mg base CX0 1 (ad 2) (fd 2) ["thing"] (spF K 1 fo) :=
 bD (k:=0) T.x_is_whole.f yg ke (λcdv A outer s H E hr=>(aq (aL (iN (vp Hg rfl T.z_isinstance rfl T.z_int y_ (ae 0)) (iM (J4 (vp D5 rfl T.z_isinstance rfl T.z_bool y_ (ae 0))))))))
  wb
theorem nF:aG nX ["thing","many"] (ao dF):=⟨rfl,rfl,rfl,y_,rfl,y_,y_⟩
theorem nG(T:Tx K mg ad fd):FnOk P w K mg base CX0 2 (ad 3) (fd 3) ["thing","many"] (spF K 2 dj) :=
 bD (k:=1) T.x_is_number_below.f nF dH (λcdv A outer s H E hr=>(aq (aL (iN (bp (l4 T) T.x_is_whole hr (af (ae 0) ag)) (iM (yJ Km Kl ah (ae 0) (ae 1)))))))
  lM
theorem ou:aG o6 ["thing"] (ao eB):=⟨rfl,rfl,rfl,y_,rfl,y_,y_⟩
theorem oy(T:Tx K mg ad fd):FnOk P w K mg base CX0 2 (ad 4) (fd 4) ["thing"] (spF K 1 dJ) :=
 bD (k:=1) T.x_are_two_wholes.f ou cU (λcdv A outer s H E hr=>(aq (aL (iN (vp vA rfl T.z_isinstance rfl T.z_tuple y_ (ae 0)) (iN (bV (df hr.units) (aH bz rfl T.z_len y_ (af (ae 0) ag)) ah (aN _)) (iN (bp (l4 T) T.x_is_whole hr (af (av (ae 0) ah (λ_ _=>rfl)) ag)) (iM (bp (l4 T) T.x_is_whole hr (af (av (ae 0) ah (λ_ _=>rfl)) ag)))))))))
  mL
theorem uR:aG v7 ["thing","word","length"] (ao jh):=⟨rfl,rfl,rfl,y_,rfl,y_,y_⟩
theorem iH(T:Tx K mg ad fd):FnOk P w K mg base CX0 1 (ad 5) (fd 5) ["thing","word","length"] (spF K 3 cF) :=
 bD (k:=0) T.x_is_told_as.f uR jq (λcdv A outer s H E hr=>(ai (dc (Pe.pb (vk (F4 (iL (vp vA rfl T.z_isinstance rfl T.z_tuple y_ (ae 0)))) (pV (Pg (rN hr.units) (aH bz rfl T.z_len y_ (af (ae 0) ag)) (ae 2) (aN _))))) (aq (aL w5)) bj)
  (aq (aL (iN (vp Hh rfl T.z_isinstance rfl T.z_str y_ (av (ae 0) ah (λ_ _=>rfl))) (iM (bV (df hr.units) (av (ae 0) ah (λ_ _=>rfl)) (ae 1) (aN _))))))))
  rW
theorem rj:aG FH ["top","bottom"] (ao uo):=⟨rfl,rfl,rfl,y_,rfl,y_,y_⟩
theorem Dh(T:Tx K mg ad fd):FnOk P w K mg base CX0 2 (ad 6) (fd 6) ["top","bottom"] (spF K 2 qH) :=
 bD (k:=1) T.x_lowest.f rj uy (λcdv A outer s H E hr=>(ai (ay (i:=2) rj.nd rfl v4 (az (bp (fY T) T.x_greatest_shared hr (af (ae 0) (af (ae 1) ag)))))
  (ai (dc (Pg vn (ae 1) ah (aN _)) (aq (ay (i:=2) rj.nd rfl v4 (J6 (ae 2)))) bj)
  (aq (aL (bG (af (ax jc (ae 0) (ae 2)) (af (ax jc (ae 1) (ae 2)) ag))))))))
  AA
theorem FQ:aG IW ["one","other"] (ao xQ):=⟨rfl,rfl,rfl,y_,rfl,y_,y_⟩
theorem FR(T:Tx K mg ad fd):FnOk P w K mg base CX0 3 (ad 7) (fd 7) ["one","other"] (spF K 2 uz) :=
 bD (k:=2) T.x_times.f FQ ya (λcdv A outer s H E hr=>(aq (aL (bp (Dh T) T.x_lowest hr (af (az (ax aU (av (ae 0) ah (λ_ _=>rfl)) (av (ae 1) ah (λ_ _=>rfl)))) (af (az (ax aU (av (ae 0) ah (λ_ _=>rfl)) (av (ae 1) ah (λ_ _=>rfl)))) ag))))))
  C1
theorem Di:aG FI ["ring","thing"] (ao uu):=⟨rfl,rfl,rfl,y_,rfl,y_,y_⟩
theorem Dj(T:Tx K mg ad fd):FnOk P w K mg base CX0 3 (ad 8) (fd 8) ["ring","thing"] (spF K 2 qI) :=
 bD (k:=2) T.x_is_cut.f Di uA (λcdv A outer s H E hr=>(aq (aL (iN (bp (oy T) T.x_are_two_wholes hr (af (ae 1) ag)) (iM (BJ ah (vG.cons DW (av (ae 1) ah (λ_ _=>rfl)) (vG.cons DW (av (ae 1) ah (λ_ _=>rfl)) (vG.one vn (aH bz rfl T.z_len y_ (af (av (ae 0) ah (λ_ _=>rfl)) ag)))))))))))
  AB
theorem wx:aG xR ["cut","place"] (ao lA):=⟨rfl,rfl,rfl,y_,rfl,y_,y_⟩
theorem oR(T:Tx K mg ad fd):FnOk P w K mg base CX0 1 (ad 9) (fd 9) ["cut","place"] (spF K 2 fU) :=
 bD (k:=0) T.x_is_within.f wx lN (λcdv A outer s H E hr=>(aq (aL (yJ Kl Km (av (ae 0) ah (λ_ _=>rfl)) (ae 1) (av (ae 0) ah (λ_ _=>rfl))))))
  uB
theorem rk:aG rS ["cut","one","other"] (ao gh):=⟨rfl,rfl,rfl,y_,rfl,y_,y_⟩
theorem rm(T:Tx K mg ad fd):FnOk P w K mg base CX0 2 (ad 10) (fd 10) ["cut","one","other"] (spF K 3 ft) :=
 bD (k:=1) T.x_parts_places.f rk gm (λcdv A outer s H E hr=>(aq (aL (bV (rN hr.units) (bp (oR T) T.x_is_within hr (af (ae 0) (af (ae 1) ag))) (bp (oR T) T.x_is_within hr (af (ae 0) (af (ae 2) ag))) (aN _)))))
  o8
theorem cW:aG qz ["some"] (ao fg):=⟨rfl,rfl,rfl,y_,rfl,y_,y_⟩
theorem pj(T:Tx K mg ad fd):FnOk P w K mg base CX0 3 (ad 11) (fd 11) ["some"] (spF K 1 eD) :=
 bD (k:=2) T.x_common_bottom.f cW fu (λcdv A outer s H E hr=>(ai (ay (i:=1) cW.nd rfl v4 ah)
  (ai (d4 PassesOwn.never rfl (bX (ae 0)) (cN (i:=2) cW.nd rfl v4) (aq (ay (i:=1) cW.nd rfl v4 (bp (rh T) T.x_least_common hr (af (ae 1) (af (av (ae 2) ah (λ_ _=>rfl)) ag))))))
  (aq (aL (i8 1))))))
  n5
theorem yh:aG td ["some","units"] (ao ka):=⟨rfl,rfl,rfl,y_,rfl,y_,y_⟩
theorem rn(T:Tx K mg ad fd):FnOk P w K mg base CX0 1 (ad 12) (fd 12) ["some","units"] (spF K 2 ig) :=
 bD (k:=0) T.x_in_units.f yh n6 (λcdv A outer s H E hr=>(aq (aL (dC (sc:=(ao ka)) (N:=td) (Nt:=["one"]) (Nf:=["units"]) (fi:=[1]) rfl rfl rfl (bX (ae 0)) rfl y_ y_ y_ x_ rfl y_ x_ (λ_ _ _ _=>(bS x_ (show((["one"]:List Str)++(["units"]:List Str)).Nodup by decide +kernel) rfl (Or.inl rfl))) (λ_ _ _ _=>cO) (λ_ _ _ _=>(ax aU (av (ae 0) ah (λ_ _=>rfl)) (ax jc (ae 1) (av (ae 0) ah (λ_ _=>rfl)))))))))
  wd
theorem kf:aG qC ["ring","top"] (ao ji):=⟨rfl,rfl,rfl,y_,rfl,y_,y_⟩
theorem AC(T:Tx K mg ad fd):FnOk P w K mg base CX0 4 (ad 13) (fd 13) ["ring","top"] (spF K 2 n8) :=
 bD (k:=3) T.x_weighed.f kf qL (λcdv A outer s H E hr=>(ai (hW kf.nd (j:=2) rfl v4 (sc:=(ao ji)) (N:=qC) (Nt:=["ask"]) (Nf:=[]) (fi:=[]) rfl rfl rfl (bX (av (ae 0) ah (λ_ _=>rfl))) rfl y_ y_ y_ x_ rfl y_ x_ (λ_ _ _ _=>(bS x_ (show((["ask"]:List Str)++([]:List Str)).Nodup by decide +kernel) rfl (Or.inl rfl))) (λ_ _ _ _=>cO) (λ_ _ _ _=>(av (ae 0) ah (λ_ _=>rfl))))
  (ai (hW kf.nd (j:=3) rfl v4 (sc:=(ao ji)) (N:=qC) (Nt:=["room"]) (Nf:=["top"]) (fi:=[1]) rfl rfl rfl (bX (av (ae 0) ah (λ_ _=>rfl))) rfl y_ y_ y_ x_ rfl y_ x_ (λ_ _ _ _=>(bS x_ (show((["room"]:List Str)++(["top"]:List Str)).Nodup by decide +kernel) rfl (Or.inl rfl))) (λ_ _ _ _=>cO) (λ_ _ _ _=>(bp (FR T) T.x_times hr (af (ae 1) (af (ae 0) ag)))))
  (ai (ay (i:=4) kf.nd rfl v4 (az (ax aU ah (bp (pj T) T.x_common_bottom hr (af (az (ax bu (ae 2) (ae 3))) ag)))))
  (aq (aL (bG (af (ae 4) (af (az (bp (rn T) T.x_in_units hr (af (ae 2) (af (ae 4) ag)))) (af (az (bp (rn T) T.x_in_units hr (af (ae 3) (af (ae 4) ag)))) ag))))))))))
  yb
theorem wy:aG xS ["way"] (ao lB):=⟨rfl,rfl,rfl,y_,rfl,y_,y_⟩
theorem wz(T:Tx K mg ad fd):FnOk P w K mg base CX0 1 (ad 14) (fd 14) ["way"] (spF K 1 jr) :=
 bD (k:=0) T.x_other_way.f wy lO (λcdv A outer s H E hr=>(aq (aL (Bj (Pg (df hr.units) (ae 0) (Bw T.g_ON rfl) (aN _)) (Bw T.g_BACK rfl) (Bw T.g_ON rfl)))))
  uC
theorem g6:aG CY ["ring","k","way","tie"] (ao qD):=⟨rfl,rfl,rfl,y_,rfl,y_,y_⟩
theorem AD(T:Tx K mg ad fd):FnOk P w K mg base CX0 1 (ad 15) (fd 15) ["ring","k","way","tie"] (spF K 4 n9) :=
 bD (k:=0) T.x_is_over.f g6 qQ (λcdv A outer s H E hr=>(ai (ay (i:=4) g6.nd rfl v4 (az (aH bz rfl T.z_len y_ (af (av (ae 0) ah (λ_ _=>rfl)) ag))))
  (ai (ay (i:=5) g6.nd rfl v4 (av (av (av (ae 0) ah (λ_ _=>rfl)) (ae 1) (λ_ _=>rfl)) ah (λ_ _=>rfl)))
  (ai (ay (i:=6) g6.nd rfl v4 (av (av (av (ae 0) ah (λ_ _=>rfl)) (ae 1) (λ_ _=>rfl)) ah (λ_ _=>rfl)))
  (ai (ay (i:=7) g6.nd rfl v4 (bV vn (ax de (ax kq (ae 3) (ae 5)) (ae 4)) (ax de (ax kq (ae 6) (ae 5)) (ae 4)) (aN _)))
  (aq (aL (bV (df hr.units) (ae 7) (bV (df hr.units) (ae 2) (Bw T.g_ON rfl) (aN _)) (aN _)))))))))
  yc
theorem oS:aG qE ["elder","ways"] (ao ia):=⟨rfl,rfl,rfl,y_,rfl,y_,y_⟩
theorem wB(T:Tx K mg ad fd):FnOk P w K mg base CX0 2 (ad 16) (fd 16) ["elder","ways"] (spF K 2 jt) :=
 bD (k:=1) T.x_turned_by.f oS lP (λcdv A outer s H E hr=>(ai (ay (i:=2) oS.nd rfl v4 (az (Aa rfl T.z_list rfl T.z_zip rfl (af (ae 0) (af (ae 1) ag)))))
  (aq (aL (dC (sc:=(ao ia)) (N:=qE) (Nt:=["k","pair"]) (Nf:=[]) (fi:=[]) rfl rfl rfl (yK rfl T.z_enumerate (ae 2)) rfl y_ y_ y_ x_ rfl y_ x_ (λ_ _ _ _=>(Gb rfl (pq (i:=0) x_ (show((["k","pair"]:List Str)++([]:List Str)).Nodup by decide +kernel) rfl (Or.inl rfl) (pq (i:=1) x_ (show((["k","pair"]:List Str)++([]:List Str)).Nodup by decide +kernel) rfl (Or.inl rfl) BF)))) (λ_ _ _ _=>(nO (Pe.pb (la (Pg yF (av (ae 1) ah (λ_ _=>rfl)) pS (aN _)) (g8 (Pg (df hr.units) (av (ae 1) ah (λ_ _=>rfl)) (bp (wz T) T.x_other_way hr (af (av (ae 1) ah (λ_ _=>rfl)) ag)) (aN _))))))) (λ_ _ _ _=>(ae 0)))))))
  uD
theorem sj:aG uv ["wish","load","bound"] (ao ib):=⟨rfl,rfl,rfl,y_,rfl,y_,y_⟩
theorem sk(T:Tx K mg ad fd):FnOk P w K mg base CX0 1 (ad 17) (fd 17) ["wish","load","bound"] (spF K 3 gn) :=
 bD (k:=0) T.x_is_too_much.f sj ij (λcdv A outer s H E hr=>(aq (aL (G1 (bV tR (ae 1) (ae 2) (aN _)) (iM (iN (av (ae 0) ah (λ_ _=>rfl)) (iM (bV (df hr.units) (ae 1) (ae 2) (aN _)))))))))
  qR
theorem rp:aG rT ["wish","ways"] (ao gi):=⟨rfl,rfl,rfl,y_,rfl,y_,y_⟩
theorem rq(T:Tx K mg ad fd):FnOk P w K mg base CX0 3 (ad 18) (fd 18) ["wish","ways"] (spF K 2 fv) :=
 bD (k:=2) T.x_are_too_many.f rp gp (λcdv A outer s H E hr=>(aq (aL (bV tR (aH bz rfl T.z_len y_ (af (az (bp (wB T) T.x_turned_by hr (af (av (ae 0) ah (λ_ _=>rfl)) (af (ae 1) ag)))) ag)) (av (ae 0) ah (λ_ _=>rfl)) (aN _)))))
  o9
theorem yi:aG Aw ["thing"] (ao nY):=⟨rfl,rfl,rfl,y_,rfl,y_,y_⟩
theorem rC(T:Tx K mg ad fd):FnOk P w K mg base CX0 2 (ad 19) (fd 19) ["thing"] (spF K 1 ik) :=
 bD (k:=1) T.x_is_split.f yi oa (λcdv A outer s H E hr=>(aq (aL (bp (iH T) T.x_is_told_as hr (af (ae 0) (af (Bw T.g_SPLIT rfl) (af ah ag)))))))
  we
theorem uS:aG oI ["ring","k","way","cut"] (ao fR):=⟨rfl,rfl,rfl,y_,rfl,y_,y_⟩
theorem uT(T:Tx K mg ad fd):FnOk P w K mg base CX0 3 (ad 20) (fd 20) ["ring","k","way","cut"] (spF K 4 ip) :=
 bD (k:=2) T.x_times_over.f uS ju (λcdv A outer s H E hr=>(ai (dc (Pg Bz (ae 2) pS (aN _)) (aq (aL (Bj (iL (bp (rm T) T.x_parts_places hr (af (ae 3) (af (av (av (av (ae 0) ah (λ_ _=>rfl)) (ae 1) (λ_ _=>rfl)) ah (λ_ _=>rfl)) (af (av (av (av (ae 0) ah (λ_ _=>rfl)) (ae 1) (λ_ _=>rfl)) ah (λ_ _=>rfl)) ag))))) ah ah))) bj)
  (aq (aL (aH bz rfl T.z_len y_ (af (az (dC (sc:=(ao fR)) (N:=oI) (Nt:=["tie"]) (Nf:=["ring","k","way"]) (fi:=[0,1,2]) rfl rfl rfl (bX (ae 3)) rfl y_ y_ y_ x_ rfl y_ x_ (λ_ _ _ _=>(bS x_ (show((["tie"]:List Str)++(["ring","k","way"]:List Str)).Nodup by decide +kernel) rfl (Or.inl rfl))) (λ_ _ _ _=>(nO (iL (bp (AD T) T.x_is_over hr (af (ae 1) (af (ae 2) (af (ae 3) (af (ae 0) ag)))))))) (λ_ _ _ _=>(ae 0)))) ag))))))
  rX
theorem gH:aG mI ["ring","wish","scale","fixed","cut"] (ao eL):=⟨rfl,rfl,rfl,y_,rfl,y_,y_⟩
theorem sr(T:Tx K mg ad fd):FnOk P w K mg base CX0 4 (ad 21) (fd 21) ["ring","wish","scale","fixed","cut"] (spF K 5 gq) :=
 bD (k:=3) T.x_is_too_full.f gH iq (λcdv A outer s H E hr=>(ai (ay (i:=5) gH.nd rfl v4 (av (ae 2) ah (λ_ _=>rfl)))
  (ai (ay (i:=6) gH.nd rfl v4 (az (aH (Kt rfl) rfl T.z_sum y_ (af (az (dC (sc:=(ao eL)) (N:=mI) (Nt:=["k","size"]) (Nf:=["ring","fixed","cut"]) (fi:=[0,3,4]) rfl rfl rfl (yK rfl T.z_enumerate (av (ae 2) ah (λ_ _=>rfl))) rfl y_ y_ y_ x_ rfl y_ x_ (λ_ _ _ _=>(Gb rfl (pq (i:=0) x_ (show((["k","size"]:List Str)++(["ring","fixed","cut"]:List Str)).Nodup by decide +kernel) rfl (Or.inl rfl) (pq (i:=1) x_ (show((["k","size"]:List Str)++(["ring","fixed","cut"]:List Str)).Nodup by decide +kernel) rfl (Or.inl rfl) BF)))) (λ_ _ _ _=>cO) (λ_ _ _ _=>(ax aU (ae 1) (bp (uT T) T.x_times_over hr (af (ae 2) (af (ae 0) (af (av (ae 3) (ae 0) (λ_ _=>rfl)) (af (ae 4) ag))))))))) ag))))
  (aq (aL (bp (sk T) T.x_is_too_much hr (af (ae 1) (af (ae 6) (af (az (ax bu (av (ae 5) (av (ae 4) ah (λ_ _=>rfl)) (λ_ _=>rfl)) (av (ae 5) (av (ae 4) ah (λ_ _=>rfl)) (λ_ _=>rfl)))) ag)))))))))
  qS
theorem wD:aG xT ["ring","wish","scale","fixed","thing"] (ao lC):=⟨rfl,rfl,rfl,y_,rfl,y_,y_⟩
theorem wF(T:Tx K mg ad fd):FnOk P w K mg base CX0 5 (ad 22) (fd 22) ["ring","wish","scale","fixed","thing"] (spF K 5 jw) :=
 bD (k:=4) T.x_can_stand.f wD lQ (λcdv A outer s H E hr=>by exact(@ai _ _ _ _ _ (@dc _ _ _ _ _ _ _ _ (iL (bp (iH T) T.x_is_told_as hr (@af _ _ _ _ _ _ (ae 4) (@af _ _ _ _ _ _ (Bw T.g_TURNED rfl) (@af _ _ _ _ _ _ ah ag z_) z_) z_))) (@aq _ _ _ (@aL _ _ _ _ (bp (rq T) T.x_are_too_many hr (@af _ _ _ _ _ _ (ae 1) (@af _ _ _ _ _ _ (ae 3) ag z_) z_)))) bj) (@ai _ _ _ _ _ (@dc _ _ _ _ _ _ _ _ (iL (bp (iH T) T.x_is_told_as hr (@af _ _ _ _ _ _ (ae 4) (@af _ _ _ _ _ _ (Bw T.g_CUT rfl) (@af _ _ _ _ _ _ ah ag z_) z_) z_))) (@aq _ _ _ (@aL _ _ _ _ (iN (bp (Dj T) T.x_is_cut hr (@af _ _ _ _ _ _ (ae 0) (@af _ _ _ _ _ _ (@az _ _ _ (@mq _ _ _ _ _ _ _ _ _ (ae 4) ah trivial)) ag z_) z_)) (iM (bp (sr T) T.x_is_too_full hr (@af _ _ _ _ _ _ (ae 0) (@af _ _ _ _ _ _ (ae 1) (@af _ _ _ _ _ _ (ae 2) (@af _ _ _ _ _ _ (ae 3) (@af _ _ _ _ _ _ (@az _ _ _ (@mq _ _ _ _ _ _ _ _ _ (ae 4) ah trivial)) ag z_) z_) z_) z_) z_)))))) bj) (@aq _ _ _ (@aL _ _ _ _ (iN (bp (rC T) T.x_is_split hr (@af _ _ _ _ _ _ (ae 4) ag z_)) (iN (bp (nG T) T.x_is_number_below hr (@af _ _ _ _ _ _ (@av _ _ _ _ _ _ (ae 4) ah (λ_ _=>rfl)) (@af _ _ _ _ _ _ (@az _ _ _ (aH bz rfl T.z_len y_ (@af _ _ _ _ _ _ (ae 3) ag z_))) ag z_) z_)) (iM (bV Bz (@av _ _ _ _ _ _ (ae 3) (@av _ _ _ _ _ _ (ae 4) ah (λ_ _=>rfl)) (λ_ _=>rfl)) pS (aN _))))))))))
  uE
theorem jV:aG xU ["here","way"] (ao lD):=⟨rfl,rfl,rfl,y_,rfl,y_,y_⟩
theorem oT(T:Tx K mg ad fd):FnOk P w K mg base CX0 1 (ad 23) (fd 23) ["here","way"] (spF K 2 fV) :=
 bD (k:=0) T.x_branch_of.f jV lR (λcdv A outer s H E hr=>(ai (ay (i:=2) jV.nd rfl v4 (av (ae 0) ah (λ_ _=>rfl)))
  (ai (ay (i:=3) jV.nd rfl v4 (eU Hb rfl T.z_list y_ (af (av (ae 0) ah (λ_ _=>rfl)) ag)))
  (ai (pY 3 (av (ae 2) ah (λ_ _=>rfl)) (ae 1))
  (aq (aL (bG (af (Bj (Pg (df hr.units) (ae 1) (Bw T.g_ON rfl) (aN _)) (av (ae 2) ah (λ_ _=>rfl)) (av (ae 2) ah (λ_ _=>rfl))) (af (ae 3) (af (az (ax bu (av (ae 0) ah (λ_ _=>rfl)) (bP (af (ae 1) ag)))) ag))))))))))
  uF
theorem bT:aG ku ["ring","wish","thing"] (ao dQ):=⟨rfl,rfl,rfl,y_,rfl,y_,y_⟩
theorem rD(T:Tx K mg ad fd):FnOk P w K mg base (Qe P w) 6 (ad 24) (fd 24) ["ring","wish","thing"] (Qi K 3 fw) :=
 KH (k:=5) T.x_look_at_tree.f bT (λxp=>gu xp) (λcdv A outer s H E xp hr hE=>by exact(@ai _ _ _ _ _ (@ay _ _ _ 3 _ _ _ bT.nd rfl v4 (@az _ _ _ (bp (AC T) T.x_weighed hr (@af _ _ _ _ _ _ (ae 0) (@af _ _ _ _ _ _ (@av _ _ _ _ _ _ (ae 1) ah (λ_ _=>rfl)) ag z_) z_))) z_ (by first | exact .inl rfl | exact .inr rfl)) (@ai _ _ _ _ _ (@ay _ _ _ 4 _ _ _ bT.nd rfl v4 (@bP _ _ _ _ _ (@af _ _ _ _ _ _ (@bG _ _ _ _ _ _ (@af _ _ _ _ _ _ (ae 2) (@af _ _ _ _ _ _ (@az _ _ _ (dC (sc:=(ao dQ)) (N:=ku) (Nt:=[ "ask" ]) (Nf:=[]) (fi:=[]) rfl rfl rfl (bX (@av _ _ _ _ _ _ (ae 0) ah (λ_ _=>rfl))) rfl y_ y_ y_ x_ rfl y_ x_ (λ_ _ _ _=>(bS x_ (show(([ "ask" ]:List Str)++([]:List Str)).Nodup by decide +kernel) rfl (Or.inl rfl))) (λ_ _ _ _=>cO) (λ_ _ _ _=>pS))) (@af _ _ _ _ _ _ (@az _ _ _ (@bP _ _ _ _ _ ag)) ag z_) z_) z_)) ag z_)) z_ (by first | exact .inl rfl | exact .inr rfl)) (@ai _ _ _ _ _ (@ay _ _ _ 5 _ _ _ bT.nd rfl v4 ah z_ (by first | exact .inl rfl | exact .inr rfl)) (@aq _ _ _ (j2 PassesOwn.leaving (KA 4) (@ai _ _ _ _ _ (@ay _ _ _ 6 _ _ _ bT.nd rfl v4 (@az _ _ _ (Ko 4)) z_ (by first | exact .inl rfl | exact .inr rfl)) (@ai _ _ _ _ _ (Kz JD (i:=5) bT.nd rfl v4 ah) (@ai _ _ _ _ _ (@dc _ _ _ _ _ _ _ _ (Pe.pb (vk (Pg tR (ae 5) (Bw T.g_MOST_WALKED rfl) (aN _)) (pV (F4 (iL (bp (wF T) T.x_can_stand hr (@af _ _ _ _ _ _ (ae 0) (@af _ _ _ _ _ _ (ae 1) (@af _ _ _ _ _ _ (ae 3) (@af _ _ _ _ _ _ (@av _ _ _ _ _ _ (ae 6) ah (λ_ _=>rfl)) (@af _ _ _ _ _ _ (@av _ _ _ _ _ _ (ae 6) ah (λ_ _=>rfl)) ag z_) z_) z_) z_) z_))))))) (@aq _ _ _ (B6 T.c_NoTree (Dg T) hr (HN hE) (@af _ _ _ _ _ _ (@av _ _ _ _ _ _ (ae 6) ah (λ_ _=>rfl)) ag z_))) bj) (@aq _ _ _ (@dc _ _ _ _ _ _ _ _ (iL (bp (rC T) T.x_is_split hr (@af _ _ _ _ _ _ (@av _ _ _ _ _ _ (ae 6) ah (λ_ _=>rfl)) ag z_))) (@ai _ _ _ _ _ (g9 (dg 4 (bp (oT T) T.x_branch_of hr (@af _ _ _ _ _ _ (ae 6) (@af _ _ _ _ _ _ (Bw T.g_BACK rfl) ag z_) z_)))) (@aq _ _ _ (g9 (dg 4 (bp (oT T) T.x_branch_of hr (@af _ _ _ _ _ _ (ae 6) (@af _ _ _ _ _ _ (Bw T.g_ON rfl) ag z_) z_)))))) bj)))))))))))
  pf
theorem iI:aG v8 ["_law_script","_law_k"] (ao jj):=⟨rfl,rfl,rfl,y_,rfl,y_,y_⟩
theorem eP(T:Tx K mg ad fd):FnOk P w K mg base CX0 1 (ad 25) (fd 25) ["_law_script","_law_k"] (spF K 2 cG) :=
 bD (k:=0) T.x__law_begun.f iI jx (λcdv A outer s H E hr=>(ai (ay (i:=2) iI.nd rfl v4 ah)
  (ai (dc (Pg vn (ae 1) (aH bz rfl T.z_len y_ (af (ae 0) ag)) (aN _)) (aq (ay (i:=2) iI.nd rfl v4 (av (ae 0) (ae 1) (λ_ _=>rfl)))) bj)
  (aq (aL (bP (af (ae 2) (af (ax de (ax bu (ax bu (ax de (ae 2) ah) (ax aU (ax aU ah (ae 1)) (ae 1))) ah) ah) (af (bV Mp (ae 2) (ax Bo ah ah) (aN _)) ag)))))))))
  rY
theorem eA:aG xV ["_law_state","_law_many"] (ao lE):=⟨rfl,rfl,rfl,y_,rfl,y_,y_⟩
theorem aC(T:Tx K mg ad fd):FnOk P w K mg base CX0 1 (ad 26) (fd 26) ["_law_state","_law_many"] (spF K 2 aB) :=
 bD (k:=0) T.x__law_take.f eA lS (λcdv A outer s H E hr=>(ai (dc (iL (fN (iO 0 ah (λ_ _=>rfl)) (av (ae 0) ah (λ_ _=>rfl)))) (ai (ay (i:=2) eA.nd rfl v4 (ax de (fN (iO 0 ah (λ_ _=>rfl)) (av (ae 0) ah (λ_ _=>rfl))) (ae 1)))
  (ai (pY 0 ah (ax jc (fN (iO 0 ah (λ_ _=>rfl)) (av (ae 0) ah (λ_ _=>rfl))) (ae 1)))
  (ai (pY 0 ah (bV tR (fN (iO 0 ah (λ_ _=>rfl)) (av (ae 0) ah (λ_ _=>rfl))) ah (aN _)))
  (aq (aL (i8 2)))))) bj)
  (ai (ay (i:=3) eA.nd rfl v4 ah)
  (ai (d4 PassesOwn.never rfl (bY rfl T.z_range (ax bu ah (ax aU ah (eU sJ rfl T.z_int y_ (af (bV tR (ae 1) (ax Bo ah ah) (aN _)) ag))))) (cN (i:=4) eA.nd rfl v4) (ai (pY 0 ah (ax de (ax bu (ax aU (fN (iO 0 ah (λ_ _=>rfl)) (av (ae 0) ah (λ_ _=>rfl))) ah) ah) ah))
  (aq (ay (i:=3) eA.nd rfl v4 (az (ax bu (ax aU (ae 3) ah) (ax de (ax aU (fN (iO 0 ah (λ_ _=>rfl)) (av (ae 0) ah (λ_ _=>rfl))) (fN (iO 0 ah (λ_ _=>rfl)) (av (ae 0) ah (λ_ _=>rfl)))) ah)))))))
  (aq (aL (ax de (ax jc (ae 3) ah) (ae 1))))))))
  uH
theorem dm:aG jk ["_law_state","_law_many"] (ao eh):=⟨rfl,rfl,rfl,y_,rfl,y_,y_⟩
theorem uU(T:Tx K mg ad fd):FnOk P w K mg base CX0 2 (ad 27) (fd 27) ["_law_state","_law_many"] (spF K 2 iw) :=
 bD (k:=1) T.x__law_names.f dm jy (λcdv A outer s H E hr=>(ai (ay (i:=2) dm.nd rfl v4 cm)
  (ai (ay (i:=3) dm.nd rfl v4 (az (Hn (dC (sc:=(ao eh)) (N:=jk) (Nt:=["_law_k"]) (Nf:=["_law_letters","_law_state"]) (fi:=[2,0]) rfl rfl rfl (bY rfl T.z_range (ax bu ah (bf (aC T) T.x__law_take hr 0 0 (aQ 0 (af ah ag))))) rfl y_ y_ y_ x_ rfl y_ x_ (λ_ _ _ _=>(bS x_ (show((["_law_k"]:List Str)++(["_law_letters","_law_state"]:List Str)).Nodup by decide +kernel) rfl (Or.inl rfl))) (λ_ _ _ _=>cO) (λ_ _ _ _=>(av (ae 1) (bf (aC T) T.x__law_take hr 0 2 (aQ 2 (af ah ag))) (λ_ _=>rfl)))))))
  (ai (ay (i:=4) dm.nd rfl v4 (az (bf (aC T) T.x__law_take hr 0 0 (aQ 0 (af (az (aH bz rfl T.z_len y_ (af (ae 3) ag))) ag)))))
  (ai (ay (i:=5) dm.nd rfl v4 (az (bf (aC T) T.x__law_take hr 0 0 (aQ 0 (af ah ag)))))
  (aq (aL (dC (sc:=(ao eh)) (N:=jk) (Nt:=["_law_k"]) (Nf:=["_law_base","_law_at","_law_letters","_law_turn"]) (fi:=[3,4,2,5]) rfl rfl rfl (bY rfl T.z_range (ae 1)) rfl y_ y_ y_ x_ rfl y_ x_ (λ_ _ _ _=>(bS x_ (show((["_law_k"]:List Str)++(["_law_base","_law_at","_law_letters","_law_turn"]:List Str)).Nodup by decide +kernel) rfl (Or.inl rfl))) (λ_ _ _ _=>cO) (λ_ _ _ _=>(ax bu (ax bu (mq (ae 1) trivial (ae 2)) (av (ae 3) (ax de (ax bu (ae 4) (ae 0)) ah) (λ_ _=>rfl))) (mq (ae 1) (ax bu (ae 2) ah) trivial)))))))))))
  rZ
theorem fJ:aG Ax ["_law_top_here","_law_bottom"] (ao nZ):=⟨rfl,rfl,rfl,y_,rfl,y_,y_⟩
theorem l5(T:Tx K mg ad fd):FnOk P w K mg base CX0 1 (ad 28) (fd 28) ["_law_top_here","_law_bottom"] (spF K 2 fC) :=
 bD (k:=0) T.x__law_low.f fJ og (λcdv A outer s H E hr=>(ai (ay (i:=2) fJ.nd rfl v4 (az (aH Bp rfl T.z_abs y_ (af (ae 0) ag))))
  (ai (ay (i:=3) fJ.nd rfl v4 (az (aH Bp rfl T.z_abs y_ (af (ae 1) ag))))
  (ai (j2 PassesOwn.never (Pg (rN hr.units) (ae 2) ah (aN _)) (aq (F7 (i:=2) (j:=3) rfl fJ.nd rfl rfl x_ rfl rfl (ax de (ae 3) (ae 2)) (ae 2) rfl)))
  (ai (dc (Pg vn (ae 1) ah (aN _)) (aq (ay (i:=3) fJ.nd rfl v4 (ax kq ah (ae 3)))) bj)
  (aq (aL (bG (af (ax jc (ae 0) (ae 3)) (af (ax jc (ae 1) (ae 3)) ag))))))))))
  wj
theorem gI:aG uw ["_law_state","_law_least","_law_kind"] (ao ie):=⟨rfl,rfl,rfl,y_,rfl,y_,y_⟩
theorem dX(T:Tx K mg ad fd):FnOk P w K mg base CX0 2 (ad 29) (fd 29) ["_law_state","_law_least","_law_kind"] (spF K 3 cg) :=
 bD (k:=1) T.x__law_amount.f gI iy (λcdv A outer s H E hr=>by exact(@ai _ _ _ _ _ (@ay _ _ _ 3 _ _ _ gI.nd rfl v4 (@az _ _ _ (@ax _ _ _ _ _ _ _ _ bu ah (bf (aC T) T.x__law_take hr 0 0 (aQ 0 (@af _ _ _ _ _ _ (@av _ _ _ _ _ _ (@bP _ _ _ _ _ (@af _ _ _ _ _ _ ah (@af _ _ _ _ _ _ ah (@af _ _ _ _ _ _ ah (@af _ _ _ _ _ _ ah (@af _ _ _ _ _ _ ah ag z_) z_) z_) z_) z_)) (ae 2) (λ_ _=>rfl)) ag z_))))) z_ (by first | exact .inl rfl | exact .inr rfl)) (@ai _ _ _ _ _ (@ay _ _ _ 4 _ _ _ gI.nd rfl v4 (@az _ _ _ (@ax _ _ _ _ _ _ _ _ bu (ae 1) (bf (aC T) T.x__law_take hr 0 0 (aQ 0 (@af _ _ _ _ _ _ (@av _ _ _ _ _ _ (@bP _ _ _ _ _ (@af _ _ _ _ _ _ ah (@af _ _ _ _ _ _ ah (@af _ _ _ _ _ _ ah (@af _ _ _ _ _ _ ah (@af _ _ _ _ _ _ (@ax _ _ _ _ _ _ _ _ Bo ah ah) ag z_) z_) z_) z_) z_)) (ae 2) (λ_ _=>rfl)) ag z_))))) z_ (by first | exact .inl rfl | exact .inr rfl)) (@aq _ _ _ (@aL _ _ _ _ (bp (l5 T) T.x__law_low hr (@af _ _ _ _ _ _ (ae 4) (@af _ _ _ _ _ _ (ae 3) ag z_) z_)))))))
  qU
theorem cH:aG v9 ["_law_state","_law_ties","_law_kind"] (ao jm):=⟨rfl,rfl,rfl,y_,rfl,y_,y_⟩
theorem uV(T:Tx K mg ad fd):FnOk P w K mg base CX0 3 (ad 30) (fd 30) ["_law_state","_law_ties","_law_kind"] (spF K 3 iz) :=
 bD (k:=2) T.x__law_rooms.f cH jB (λcdv A outer s H E hr=>(ai (ay (i:=3) cH.nd rfl v4 (az (bf (aC T) T.x__law_take hr 0 0 (aQ 0 (af ah ag)))))
  (ai (ay (i:=4) cH.nd rfl v4 (az (bf (dX T) T.x__law_amount hr 0 0 (aQ 0 (af ah (af (ae 2) ag))))))
  (ai (dc (Pg (df hr.units) (ae 3) ah (aN _)) (aq (ay (i:=4) cH.nd rfl v4 (bG (af ah (af ah ag))))) bj)
  (ai (ay (i:=5) cH.nd rfl v4 (bP (af (ae 4) ag)))
  (ai (j2 PassesOwn.never (Pg vn (fN (Bs 5 rfl T.z_len) (aH bz rfl T.z_len PySem.boot_len (af (ae 5) ag))) (ae 1) (aN _)) (ai (ay (i:=6) cH.nd rfl v4 (az (bf (dX T) T.x__law_amount hr 0 0 (aQ 0 (af ah (af (ae 2) ag))))))
  (aq (g9 (dg 5 (av (bP (af (ae 4) (af (ae 6) ag))) (eU sJ rfl T.z_int y_ (af (bV (df hr.units) (ae 3) ah (aN _)) ag)) (λ_ _=>rfl)))))))
  (aq (aL (i8 5)))))))))
  r6
theorem jW:aG xW ["_law_state","_law_shape","_law_places","_law_k"] (ao lF):=⟨rfl,rfl,rfl,y_,rfl,y_,y_⟩
theorem wG(T:Tx K mg ad fd):FnOk P w K mg base CX0 2 (ad 31) (fd 31) ["_law_state","_law_shape","_law_places","_law_k"] (spF K 4 jC) :=
 bD (k:=1) T.x__law_ends.f jW lT (λcdv A outer s H E hr=>(ai (ay (i:=4) jW.nd rfl v4 (az (bf (aC T) T.x__law_take hr 0 0 (aQ 0 (af (ae 2) ag)))))
  (ai (ay (i:=5) jW.nd rfl v4 (ax de (ax bu (ax bu (ae 4) ah) (bf (aC T) T.x__law_take hr 0 0 (aQ 0 (af (ax kq (ae 2) ah) ag)))) (ae 2)))
  (ai (dc (Pg (df hr.units) (ae 1) ah (aN _)) (aq (aL (bG (af (ax de (ae 3) (ae 2)) (af (ax de (ax bu (ae 3) (ax jc (ae 2) ah)) (ae 2)) ag))))) bj)
  (ai (dc (Pg (df hr.units) (ae 1) ah (aN _)) (aq (aL (bG (af (az (ax aU (ax de (ae 3) ah) (ax kq (ae 2) ah))) (af (az (ax aU (ax kq ah (ax de (ae 3) ah)) (ax kq (ae 2) ah))) ag))))) bj)
  (ai (dc (Pg (df hr.units) (ae 1) ah (aN _)) (aq (aL (bG (af ah (af (az (ax bu ah (ax de (ae 5) (ax kq (ae 2) ah)))) ag))))) bj)
  (aq (aL (bG (af (ae 4) (af (ae 5) ag)))))))))))
  uI
theorem a9:aG xX ["_law_script","_law_at","_law_most","_law_count"] (ao lG):=⟨rfl,rfl,rfl,y_,rfl,y_,y_⟩
theorem wH(T:Tx K mg ad fd):FnOk P w K mg base CX0 4 (ad 32) (fd 32) ["_law_script","_law_at","_law_most","_law_count"] (spF K 4 jD) :=
 bD (k:=3) T.x__law_ring.f a9 lU (λcdv A outer s H E hr=>by exact(@ai _ _ _ _ _ (@ay _ _ _ 4 _ _ _ a9.nd rfl v4 (bp (eP T) T.x__law_begun hr (@af _ _ _ _ _ _ (ae 0) (@af _ _ _ _ _ _ (ae 1) ag z_) z_)) z_ (by first | exact .inl rfl | exact .inr rfl)) (@ai _ _ _ _ _ (@ay _ _ _ 5 _ _ _ a9.nd rfl v4 (@az _ _ _ (@ax _ _ _ _ _ _ _ _ bu ah (bf (aC T) T.x__law_take hr 0 4 (aQ 4 (@af _ _ _ _ _ _ (@ax _ _ _ _ _ _ _ _ kq (ae 2) ah) ag z_))))) z_ (by first | exact .inl rfl | exact .inr rfl)) (@ai _ _ _ _ _ (@ay _ _ _ 6 _ _ _ a9.nd rfl v4 (@az _ _ _ (bf (aC T) T.x__law_take hr 0 4 (aQ 4 (@af _ _ _ _ _ _ (@az _ _ _ (@ax _ _ _ _ _ _ _ _ bu (ae 3) ah)) ag z_)))) z_ (by first | exact .inl rfl | exact .inr rfl)) (@ai _ _ _ _ _ (@ay _ _ _ 7 _ _ _ a9.nd rfl v4 (@az _ _ _ (@bP _ _ _ _ _ (@af _ _ _ _ _ _ (@az _ _ _ (bf (aC T) T.x__law_take hr 0 4 (aQ 4 (@af _ _ _ _ _ _ ah ag z_)))) (@af _ _ _ _ _ _ (@az _ _ _ (bf (aC T) T.x__law_take hr 0 4 (aQ 4 (@af _ _ _ _ _ _ ah ag z_)))) ag z_) z_))) z_ (by first | exact .inl rfl | exact .inr rfl)) (@ai _ _ _ _ _ (@ay _ _ _ 8 _ _ _ a9.nd rfl v4 (@az _ _ _ (bf (aC T) T.x__law_take hr 0 4 (aQ 4 (@af _ _ _ _ _ _ ah ag z_)))) z_ (by first | exact .inl rfl | exact .inr rfl)) (@ai _ _ _ _ _ (@ay _ _ _ 9 _ _ _ a9.nd rfl v4 (@az _ _ _ (bf (uU T) T.x__law_names hr 0 4 (aQ 4 (@af _ _ _ _ _ _ (ae 6) ag z_)))) z_ (by first | exact .inl rfl | exact .inr rfl)) (@ai _ _ _ _ _ (@ay _ _ _ 10 _ _ _ a9.nd rfl v4 (@az _ _ _ (bp (uV T) T.x__law_rooms hr (@af _ _ _ _ _ _ (bp (eP T) T.x__law_begun hr (@af _ _ _ _ _ _ (ae 0) (@af _ _ _ _ _ _ (@az _ _ _ (@ax _ _ _ _ _ _ _ _ bu (ae 1) ah)) ag z_) z_)) (@af _ _ _ _ _ _ (ae 5) (@af _ _ _ _ _ _ (@av _ _ _ _ _ _ (ae 7) ah (λ_ _=>rfl)) ag z_) z_) z_))) z_ (by first | exact .inl rfl | exact .inr rfl)) (@ai _ _ _ _ _ (@ay _ _ _ 4 _ _ _ a9.nd rfl v4 (bp (eP T) T.x__law_begun hr (@af _ _ _ _ _ _ (ae 0) (@af _ _ _ _ _ _ (@az _ _ _ (@ax _ _ _ _ _ _ _ _ bu (ae 1) ah)) ag z_) z_)) z_ (by first | exact .inl rfl | exact .inr rfl)) (@ai _ _ _ _ _ (@ay _ _ _ 11 _ _ _ a9.nd rfl v4 (@bP _ _ _ _ _ ag) z_ (by first | exact .inl rfl | exact .inr rfl)) (@ai _ _ _ _ _ (d4 PassesOwn.never rfl (bY rfl T.z_range (ae 6)) (cN (i:=12) a9.nd rfl v4) (@ai _ _ _ _ _ (Bu (Bk rfl (fM (i:=13) a9.nd rfl v4 (fM (i:=14) a9.nd rfl v4 w7))) (bf (wG T) T.x__law_ends hr 0 4 (aQ 4 (@af _ _ _ _ _ _ (ae 8) (@af _ _ _ _ _ _ (ae 5) (@af _ _ _ _ _ _ (ae 12) ag z_) z_) z_)))) (@aq _ _ _ (g9 (dg 11 (@bG _ _ _ _ _ _ (@af _ _ _ _ _ _ (@av _ _ _ _ _ _ (ae 9) (ae 12) (λ_ _=>rfl)) (@af _ _ _ _ _ _ (ae 13) (@af _ _ _ _ _ _ (ae 14) (@af _ _ _ _ _ _ (@az _ _ _ (bf (dX T) T.x__law_amount hr 0 4 (aQ 4 (@af _ _ _ _ _ _ ah (@af _ _ _ _ _ _ (@av _ _ _ _ _ _ (ae 7) ah (λ_ _=>rfl)) ag z_) z_)))) ag z_) z_) z_) z_))))))) (@aq _ _ _ (@aL _ _ _ _ (@bG _ _ _ _ _ _ (@af _ _ _ _ _ _ (ae 10) (@af _ _ _ _ _ _ (ae 11) ag z_) z_)))))))))))))))
  uJ
theorem cI:aG CZ ["_law_ring_here"] (ao qF):=⟨rfl,rfl,rfl,y_,rfl,y_,y_⟩
theorem AE(T:Tx K mg ad fd):FnOk P w K mg base CX0 1 (ad 33) (fd 33) ["_law_ring_here"] (spF K 1 oh) :=
 bD (k:=0) T.x__law_on.f cI qW (λcdv A outer s H E hr=>(ai (ay (i:=1) cI.nd rfl v4 (bP ag))
  (ai (d4 PassesOwn.never rfl (bX (av (ae 0) ah (λ_ _=>rfl))) (Bk rfl (fM (i:=2) cI.nd rfl v4 (fM (i:=3) cI.nd rfl v4 (fM (i:=4) cI.nd rfl v4 (fM (i:=5) cI.nd rfl v4 w7))))) (ai (ay (i:=6) cI.nd rfl v4 (bP ag))
  (ai (ay (i:=7) cI.nd rfl v4 (ae 3))
  (ai (j2 PassesOwn.never (Pg (rN hr.units) (ae 7) (ae 4) (aN _)) (ai (g9 (dg 6 (ae 7)))
  (aq (ay (i:=7) cI.nd rfl v4 (ax de (ax bu (ae 7) ah) (aH bz rfl T.z_len y_ (af (av (ae 0) ah (λ_ _=>rfl)) ag)))))))
  (aq (g9 (dg 1 (ae 6))))))))
  (aq (aL (i8 1))))))
  yd
theorem bO:aG mJ ["_law_some"] (ao eM):=⟨rfl,rfl,rfl,y_,rfl,y_,y_⟩
theorem sx(T:Tx K mg ad fd):FnOk P w K mg base CX0 1 (ad 34) (fd 34) ["_law_some"] (spF K 1 gw) :=
 bD (k:=0) T.x__law_wholes.f bO iB (λcdv A outer s H E hr=>(ai (ay (i:=1) bO.nd rfl v4 ah)
  (ai (d4 PassesOwn.never rfl (bX (ae 0)) (cN (i:=2) bO.nd rfl v4) (ai (ay (i:=3) bO.nd rfl v4 (ae 1))
  (ai (ay (i:=4) bO.nd rfl v4 (av (ae 2) ah (λ_ _=>rfl)))
  (ai (j2 PassesOwn.never (Pg (rN hr.units) (ae 4) ah (aN _)) (aq (F7 (i:=3) (j:=4) rfl bO.nd rfl rfl x_ rfl rfl (ae 4) (ax de (ae 3) (ae 4)) rfl)))
  (aq (ay (i:=1) bO.nd rfl v4 (az (ax aU (ax jc (ae 1) (ae 3)) (av (ae 2) ah (λ_ _=>rfl))))))))))
  (aq (aL (bG (af (az (dC (sc:=(ao eM)) (N:=mJ) (Nt:=["_law_part"]) (Nf:=["_law_bottom"]) (fi:=[1]) rfl rfl rfl (bX (ae 0)) rfl y_ y_ y_ x_ rfl y_ x_ (λ_ _ _ _=>(bS x_ (show((["_law_part"]:List Str)++(["_law_bottom"]:List Str)).Nodup by decide +kernel) rfl (Or.inl rfl))) (λ_ _ _ _=>cO) (λ_ _ _ _=>(ax aU (av (ae 0) ah (λ_ _=>rfl)) (ax jc (ae 1) (av (ae 0) ah (λ_ _=>rfl))))))) (af (ae 1) ag))))))))
  qX
theorem dM:aG Ay ["_law_ring_here","_law_loads_here","_law_bottom"] (ao n4):=⟨rfl,rfl,rfl,y_,rfl,y_,y_⟩
theorem yj(T:Tx K mg ad fd):FnOk P w K mg base CX0 2 (ad 35) (fd 35) ["_law_ring_here","_law_loads_here","_law_bottom"] (spF K 3 lW) :=
 bD (k:=1) T.x__law_top.f dM oi (λcdv A outer s H E hr=>(ai (ay (i:=3) dM.nd rfl v4 (bG (af ah (af ah ag))))
  (ai (d4 PassesOwn.never rfl (bY rfl T.z_range (aH bz rfl T.z_len y_ (af (ae 1) ag))) (cN (i:=4) dM.nd rfl v4) (ai (ay (i:=5) dM.nd rfl v4 (av (av (ae 0) ah (λ_ _=>rfl)) (ae 4) (λ_ _=>rfl)))
  (ai (ay (i:=6) dM.nd rfl v4 (bG (af (az (ax aU (av (ae 1) (ae 4) (λ_ _=>rfl)) (av (ae 5) ah (λ_ _=>rfl)))) (af (az (ax aU (ae 2) (av (ae 5) ah (λ_ _=>rfl)))) ag))))
  (aq (dc (Pg vn (ax aU (av (ae 3) ah (λ_ _=>rfl)) (av (ae 6) ah (λ_ _=>rfl))) (ax aU (av (ae 6) ah (λ_ _=>rfl)) (av (ae 3) ah (λ_ _=>rfl))) (aN _)) (aq (ay (i:=3) dM.nd rfl v4 (ae 6))) bj)))))
  (aq (aL (bp (l5 T) T.x__law_low hr (af (av (ae 3) ah (λ_ _=>rfl)) (af (av (ae 3) ah (λ_ _=>rfl)) ag))))))))
  wk
theorem eQ:aG oJ ["_law_ring_here","_law_on_here","_law_sizes","_law_ways"] (ao fS):=⟨rfl,rfl,rfl,y_,rfl,y_,y_⟩
theorem nH(T:Tx K mg ad fd):FnOk P w K mg base CX0 1 (ad 36) (fd 36) ["_law_ring_here","_law_on_here","_law_sizes","_law_ways"] (spF K 4 eO) :=
 bD (k:=0) T.x__law_loads.f eQ jG (λcdv A outer s H E hr=>(ai (hW eQ.nd (j:=4) rfl v4 (sc:=(ao fS)) (N:=oJ) (Nt:=["_law_room"]) (Nf:=[]) (fi:=[]) rfl rfl rfl (bX (av (ae 0) ah (λ_ _=>rfl))) rfl y_ y_ y_ x_ rfl y_ x_ (λ_ _ _ _=>(bS x_ (show((["_law_room"]:List Str)++([]:List Str)).Nodup by decide +kernel) rfl (Or.inl rfl))) (λ_ _ _ _=>cO) (λ_ _ _ _=>ah))
  (ai (d4 PassesOwn.never rfl (bY rfl T.z_range (aH bz rfl T.z_len y_ (af (ae 3) ag))) (cN (i:=5) eQ.nd rfl v4) (aq (d4 PassesOwn.never rfl (bY rfl T.z_range (fN (Bs 4 rfl T.z_len) (aH bz rfl T.z_len PySem.boot_len (af (ae 4) ag)))) (cN (i:=6) eQ.nd rfl v4) (aq (dc (Pg (df hr.units) (bV D3 (ae 6) (av (ae 1) (ae 5) (λ_ _=>rfl)) rfl) (bV (df hr.units) (av (ae 3) (ae 5) (λ_ _=>rfl)) cm (aN _)) (aN _)) (aq (pY 4 (ae 6) (ax bu (fN (iO 4 (ae 6) (λ_ _=>rfl)) (av (ae 4) (ae 6) (λ_ _=>rfl))) (av (ae 2) (ae 5) (λ_ _=>rfl))))) bj)))))
  (aq (aL (i8 4))))))
  r9
theorem cX:aG fh ["_law_many"] (ao cy):=⟨rfl,rfl,rfl,y_,rfl,y_,y_⟩
theorem iT(T:Tx K mg ad fd):FnOk P w K mg base CX0 1 (ad 37) (fd 37) ["_law_many"] (spF K 1 cV) :=
 bD (k:=0) T.x__law_all_ways.f cX fF (λcdv A outer s H E hr=>(ai (ay (i:=1) cX.nd rfl v4 (bP (af (az (bP ag)) ag)))
  (ai (d4 PassesOwn.never rfl (bY rfl T.z_range (ae 0)) (cN (i:=2) cX.nd rfl v4) (aq (ay (i:=1) cX.nd rfl v4 (ax bu (dC (sc:=(ao cy)) (N:=fh) (Nt:=["_law_ways"]) (Nf:=[]) (fi:=[]) rfl rfl rfl (bX (ae 1)) rfl y_ y_ y_ x_ rfl y_ x_ (λ_ _ _ _=>(bS x_ (show((["_law_ways"]:List Str)++([]:List Str)).Nodup by decide +kernel) rfl (Or.inl rfl))) (λ_ _ _ _=>cO) (λ_ _ _ _=>(ax bu (ae 0) (bP (af cm ag))))) (dC (sc:=(ao cy)) (N:=fh) (Nt:=["_law_ways"]) (Nf:=[]) (fi:=[]) rfl rfl rfl (bX (ae 1)) rfl y_ y_ y_ x_ rfl y_ x_ (λ_ _ _ _=>(bS x_ (show((["_law_ways"]:List Str)++([]:List Str)).Nodup by decide +kernel) rfl (Or.inl rfl))) (λ_ _ _ _=>cO) (λ_ _ _ _=>(ax bu (ae 0) (bP (af cm ag)))))))))
  (aq (aL (i8 1))))))
  oj
theorem bh:aG lH ["_law_state","_law_ring_here","_law_on_here","_law_wholes_here"] (ao fj):=⟨rfl,rfl,rfl,y_,rfl,y_,y_⟩
theorem wJ(T:Tx K mg ad fd):FnOk P w K mg base CX0 3 (ad 38) (fd 38) ["_law_state","_law_ring_here","_law_on_here","_law_wholes_here"] (spF K 4 jH) :=
 bD (k:=2) T.x__law_wish.f bh lX (λcdv A outer s H E hr=>by exact(@ai _ _ _ _ _ (@ay _ _ _ 4 _ _ _ bh.nd rfl v4 (@az _ _ _ (aH bz rfl T.z_len y_ (@af _ _ _ _ _ _ (@av _ _ _ _ _ _ (ae 1) ah (λ_ _=>rfl)) ag z_))) z_ (by first | exact .inl rfl | exact .inr rfl)) (@ai _ _ _ _ _ (hW bh.nd (j:=5) rfl v4 (sc:=(ao fj)) (N:=lH) (Nt:=[ "_law_ways" ]) (Nf:=[ "_law_ring_here" ,"_law_on_here" ,"_law_wholes_here" ]) (fi:=[1,2,3]) rfl rfl rfl (bX (bp (iT T) T.x__law_all_ways hr (@af _ _ _ _ _ _ (ae 4) ag z_))) rfl y_ y_ y_ x_ rfl y_ x_ (λ_ _ _ _=>(bS x_ (show(([ "_law_ways" ]:List Str)++([ "_law_ring_here" ,"_law_on_here" ,"_law_wholes_here" ]:List Str)).Nodup by decide +kernel) rfl (Or.inl rfl))) (λ_ _ _ _=>cO) (λ_ _ _ _=>(bp (yj T) T.x__law_top hr (@af _ _ _ _ _ _ (ae 1) (@af _ _ _ _ _ _ (@az _ _ _ (bp (nH T) T.x__law_loads hr (@af _ _ _ _ _ _ (ae 1) (@af _ _ _ _ _ _ (ae 2) (@af _ _ _ _ _ _ (@av _ _ _ _ _ _ (ae 3) ah (λ_ _=>rfl)) (@af _ _ _ _ _ _ (ae 0) ag z_) z_) z_) z_))) (@af _ _ _ _ _ _ (@av _ _ _ _ _ _ (ae 3) ah (λ_ _=>rfl)) ag z_) z_) z_)))) (@ai _ _ _ _ _ (@ay _ _ _ 6 _ _ _ bh.nd rfl v4 (@av _ _ _ _ _ _ (ae 5) ah (λ_ _=>rfl)) z_ (by first | exact .inl rfl | exact .inr rfl)) (@ai _ _ _ _ _ (d4 PassesOwn.never rfl (bX (ae 5)) (cN (i:=7) bh.nd rfl v4) (@aq _ _ _ (@dc _ _ _ _ _ _ _ _ (Pg vn (@ax _ _ _ _ _ _ _ _ aU (@av _ _ _ _ _ _ (ae 7) ah (λ_ _=>rfl)) (@av _ _ _ _ _ _ (ae 6) ah (λ_ _=>rfl))) (@ax _ _ _ _ _ _ _ _ aU (@av _ _ _ _ _ _ (ae 6) ah (λ_ _=>rfl)) (@av _ _ _ _ _ _ (ae 7) ah (λ_ _=>rfl))) (aN _)) (@aq _ _ _ (@ay _ _ _ 6 _ _ _ bh.nd rfl v4 (ae 7) z_ (by first | exact .inl rfl | exact .inr rfl))) bj))) (@ai _ _ _ _ _ (@ay _ _ _ 8 _ _ _ bh.nd rfl v4 (@az _ _ _ (bf (aC T) T.x__law_take hr 0 0 (aQ 0 (@af _ _ _ _ _ _ ah ag z_)))) z_ (by first | exact .inl rfl | exact .inr rfl)) (@ai _ _ _ _ _ (@ay _ _ _ 9 _ _ _ bh.nd rfl v4 (bV (df hr.units) (bf (aC T) T.x__law_take hr 0 0 (aQ 0 (@af _ _ _ _ _ _ ah ag z_))) ah (aN _)) z_ (by first | exact .inl rfl | exact .inr rfl)) (@ai _ _ _ _ _ (@ay _ _ _ 7 _ _ _ bh.nd rfl v4 (@av _ _ _ _ _ _ (@bP _ _ _ _ _ (@af _ _ _ _ _ _ (ae 6) (@af _ _ _ _ _ _ (ae 6) (@af _ _ _ _ _ _ (@av _ _ _ _ _ _ (ae 5) (bf (aC T) T.x__law_take hr 0 0 (aQ 0 (@af _ _ _ _ _ _ (@az _ _ _ (aH bz rfl T.z_len y_ (@af _ _ _ _ _ _ (ae 5) ag z_))) ag z_))) (λ_ _=>rfl)) (@af _ _ _ _ _ _ (@az _ _ _ (bp (l5 T) T.x__law_low hr (@af _ _ _ _ _ _ (@az _ _ _ (@ax _ _ _ _ _ _ _ _ aU (@av _ _ _ _ _ _ (ae 6) ah (λ_ _=>rfl)) ah)) (@af _ _ _ _ _ _ (@az _ _ _ (@ax _ _ _ _ _ _ _ _ aU (@av _ _ _ _ _ _ (ae 6) ah (λ_ _=>rfl)) ah)) ag z_) z_))) ag z_) z_) z_) z_)) (aH (F6 rfl) rfl T.z_min y_ (@af _ _ _ _ _ _ (ae 8) (@af _ _ _ _ _ _ ah ag z_) z_)) (λ_ _=>rfl)) z_ (by first | exact .inl rfl | exact .inr rfl)) (@ai _ _ _ _ _ (@dc _ _ _ _ _ _ _ _ (Pg (df hr.units) (ae 8) ah (aN _)) (@aq _ _ _ (@ay _ _ _ 7 _ _ _ bh.nd rfl v4 (@az _ _ _ (bf (dX T) T.x__law_amount hr 0 0 (aQ 0 (@af _ _ _ _ _ _ ah (@af _ _ _ _ _ _ ah ag z_) z_)))) z_ (by first | exact .inl rfl | exact .inr rfl))) bj) (@ai _ _ _ _ _ (hW bh.nd (j:=10) rfl v4 (sc:=(ao fj)) (N:=lH) (Nt:=[ "_law_k" ]) (Nf:=[ "_law_state" ]) (fi:=[0]) rfl rfl rfl (bY rfl T.z_range (ae 4)) rfl y_ y_ y_ x_ rfl y_ x_ (λ_ _ _ _=>(bS x_ (show(([ "_law_k" ]:List Str)++([ "_law_state" ]:List Str)).Nodup by decide +kernel) rfl (Or.inl rfl))) (λ_ _ _ _=>cO) (λ_ _ _ _=>(@av _ _ _ _ _ _ (@bP _ _ _ _ _ (@af _ _ _ _ _ _ cm (@af _ _ _ _ _ _ cm (@af _ _ _ _ _ _ pS ag z_) z_) z_)) (bf (aC T) T.x__law_take hr 0 1 (aQ 1 (@af _ _ _ _ _ _ ah ag z_))) (λ_ _=>rfl)))) (@ai _ _ _ _ _ (@ay _ _ _ 11 _ _ _ bh.nd rfl v4 (@az _ _ _ (bf (aC T) T.x__law_take hr 0 0 (aQ 0 (@af _ _ _ _ _ _ (@az _ _ _ (@ax _ _ _ _ _ _ _ _ bu (ae 4) ah)) ag z_)))) z_ (by first | exact .inl rfl | exact .inr rfl)) (@aq _ _ _ (@aL _ _ _ _ (@bG _ _ _ _ _ _ (@af _ _ _ _ _ _ (ae 7) (@af _ _ _ _ _ _ (G1 (ae 9) (iM (bV (df hr.units) (ae 8) ah (aN _)))) (@af _ _ _ _ _ _ (ae 10) (@af _ _ _ _ _ _ (ae 11) ag z_) z_) z_) z_)))))))))))))))
  uK
theorem a0:aG oK ["_law_ring_here","_law_on_here","_law_wholes_here","_law_wish_here","_law_fixed","_law_g","_law_h"] (ao fT):=⟨rfl,rfl,rfl,y_,rfl,y_,y_⟩
theorem uW(T:Tx K mg ad fd):FnOk P w K mg base CX0 1 (ad 39) (fd 39) ["_law_ring_here","_law_on_here","_law_wholes_here","_law_wish_here","_law_fixed","_law_g","_law_h"] (spF K 7 iE) :=
 bD (k:=0) T.x__law_shown.f a0 jI (λcdv A outer s H E hr=>(ai (Bu (Bk rfl (fM (i:=7) a0.nd rfl v4 (fM (i:=8) a0.nd rfl v4 w7))) (ae 2))
  (ai (ay (i:=9) a0.nd rfl v4 ah)
  (ai (d4 PassesOwn.never rfl (bY rfl T.z_range (aH bz rfl T.z_len y_ (af (ae 7) ag))) (cN (i:=10) a0.nd rfl v4) (ai (hW a0.nd (j:=11) rfl v4 (sc:=(ao fT)) (N:=oK) (Nt:=["_law_tie"]) (Nf:=["_law_on_here","_law_k","_law_fixed"]) (fi:=[1,10,4]) rfl rfl rfl (bX (bG (af (ae 5) (af (ae 6) ag)))) rfl y_ y_ y_ x_ rfl y_ x_ (λ_ _ _ _=>(bS x_ (show((["_law_tie"]:List Str)++(["_law_on_here","_law_k","_law_fixed"]:List Str)).Nodup by decide +kernel) rfl (Or.inl rfl))) (λ_ _ _ _=>cO) (λ_ _ _ _=>(bV (df hr.units) (bV D3 (ae 0) (av (ae 1) (ae 2) (λ_ _=>rfl)) rfl) (bV (df hr.units) (EC 3 (af (ae 2) (af cm ag))) cm (aN _)) (aN _))))
  (aq (dc (KQ 4 (ae 10) rfl) (aq (ay (i:=9) a0.nd rfl v4 (az (ax bu (ae 9) (ax aU (av (ae 7) (ae 10) (λ_ _=>rfl)) (ax bu (eU sJ rfl T.z_int y_ (af (av (ae 11) ah (λ_ _=>rfl)) ag)) (eU sJ rfl T.z_int y_ (af (av (ae 11) ah (λ_ _=>rfl)) ag)))))))) (aq (dc (Pg (rN hr.units) (av (ae 11) ah (λ_ _=>rfl)) (av (ae 11) ah (λ_ _=>rfl)) (aN _)) (aq (ay (i:=9) a0.nd rfl v4 (az (ax bu (ae 9) (av (ae 7) (ae 10) (λ_ _=>rfl)))))) bj))))))
  (ai (ay (i:=12) a0.nd rfl v4 (av (av (ae 0) ah (λ_ _=>rfl)) (ae 5) (λ_ _=>rfl)))
  (ai (ay (i:=13) a0.nd rfl v4 (av (av (ae 0) ah (λ_ _=>rfl)) (ae 6) (λ_ _=>rfl)))
  (ai (ay (i:=9) a0.nd rfl v4 (az (ax aU (ax aU (ax aU (ae 9) (av (ae 12) ah (λ_ _=>rfl))) (av (ae 13) ah (λ_ _=>rfl))) (av (av (ae 3) ah (λ_ _=>rfl)) ah (λ_ _=>rfl)))))
  (ai (ay (i:=14) a0.nd rfl v4 (az (ax aU (ax aU (av (av (ae 3) ah (λ_ _=>rfl)) ah (λ_ _=>rfl)) (ax bu (ax aU (av (ae 12) ah (λ_ _=>rfl)) (av (ae 13) ah (λ_ _=>rfl))) (ax aU (av (ae 13) ah (λ_ _=>rfl)) (av (ae 12) ah (λ_ _=>rfl))))) (ae 8))))
  (aq (aL (G1 (bV tR (ae 9) (ae 14) (aN _)) (iM (iN (av (ae 3) ah (λ_ _=>rfl)) (iM (bV (df hr.units) (ae 9) (ae 14) (aN _))))))))))))))))
  sf
theorem dz:aG rV ["_law_ring_here","_law_on_here","_law_wholes_here","_law_wish_here","_law_fixed"] (ao gj):=⟨rfl,rfl,rfl,y_,rfl,y_,y_⟩
theorem rE(T:Tx K mg ad fd):FnOk P w K mg base CX0 2 (ad 40) (fd 40) ["_law_ring_here","_law_on_here","_law_wholes_here","_law_wish_here","_law_fixed"] (spF K 5 fG) :=
 bD (k:=1) T.x__law_showing.f dz gB (λcdv A outer s H E hr=>(ai (ay (i:=5) dz.nd rfl v4 (bP ag))
  (ai (d4 PassesOwn.never rfl (bY rfl T.z_range (aH bz rfl T.z_len y_ (af (av (ae 0) ah (λ_ _=>rfl)) ag))) (cN (i:=6) dz.nd rfl v4) (aq (d4 PassesOwn.never rfl (yv rfl T.z_range (ae 6) (aH bz rfl T.z_len y_ (af (av (ae 0) ah (λ_ _=>rfl)) ag))) (cN (i:=7) dz.nd rfl v4) (aq (dc (iL (bp (uW T) T.x__law_shown hr (af (ae 0) (af (ae 1) (af (ae 2) (af (ae 3) (af (ae 4) (af (ae 6) (af (ae 7) ag))))))))) (aq (g9 (dg 5 (bG (af (ae 6) (af (ae 7) ag)))))) bj)))))
  (aq (aL (i8 5))))))
  ph
theorem bL:aG jo ["_law_state","_law_ring_here","_law_on_here","_law_wholes_here","_law_wish_here","_law_fixed"] (ao ej):=⟨rfl,rfl,rfl,y_,rfl,y_,y_⟩
theorem k6(T:Tx K mg ad fd):∀ n,FnOk P w K mg base CX0 (3+n) (ad 41) (fd 41) ["_law_state","_law_ring_here","_law_on_here","_law_wholes_here","_law_wish_here","_law_fixed"] (spF K 6 (br n))
 |0=>BM uN
 | n+1=>bD (k:=3+n) T.x__law_grown.f bL (fW (br n)) (λcdv A outer s H E hr=>by exact(@ai _ _ _ _ _ (hW bL.nd (j:=6) rfl v4 (sc:=(ao ej)) (N:=jo) (Nt:=[ "_law_k" ]) (Nf:=[ "_law_wish_here" ,"_law_fixed" ]) (fi:=[4,5]) rfl rfl rfl (ED (ae 5)) rfl y_ y_ y_ x_ rfl y_ x_ (λ_ _ _ _=>(bS x_ (show(([ "_law_k" ]:List Str)++([ "_law_wish_here" ,"_law_fixed" ]:List Str)).Nodup by decide +kernel) rfl (Or.inl rfl))) (λ_ _ _ _=>(nO (Pe.pb (la (Pg D3 (@av _ _ _ _ _ _ (@av _ _ _ _ _ _ (ae 1) ah (λ_ _=>rfl)) (ae 0) (λ_ _=>rfl)) (@bG _ _ _ _ _ _ (@af _ _ _ _ _ _ cm (@af _ _ _ _ _ _ cm ag z_) z_)) rfl) (g8 (Pg (rN hr.units) (@av _ _ _ _ _ _ (@av _ _ _ _ _ _ (ae 1) ah (λ_ _=>rfl)) (ae 0) (λ_ _=>rfl)) (HW 2 (ae 0) (λ_ _=>rfl)) (aN _))))))) (λ_ _ _ _=>(ae 0))) (@ai _ _ _ _ _ (@dc _ _ _ _ _ _ _ _ (Pe.pb (la (Pg tR (aH bz rfl T.z_len y_ (@af _ _ _ _ _ _ (ae 6) ag z_)) (@av _ _ _ _ _ _ (ae 4) ah (λ_ _=>rfl)) (aN _)) (g8 (Pg (df hr.units) (bf (aC T) T.x__law_take hr 0 0 (aQ 0 (@af _ _ _ _ _ _ ah ag z_)) (hk:=by omega)) ah (aN _))))) (@aq _ _ _ (@aL _ _ _ _ (@bG _ _ _ _ _ _ (@af _ _ _ _ _ _ cm ag z_)))) bj) (@ai _ _ _ _ _ (@ay _ _ _ 7 _ _ _ bL.nd rfl v4 (@az _ _ _ (bp (rE T) T.x__law_showing hr (@af _ _ _ _ _ _ (ae 1) (@af _ _ _ _ _ _ (ae 2) (@af _ _ _ _ _ _ (ae 3) (@af _ _ _ _ _ _ (ae 4) (@af _ _ _ _ _ _ (ae 5) ag z_) z_) z_) z_) z_) (hk:=by omega))) z_ (by first | exact .inl rfl | exact .inr rfl)) (@ai _ _ _ _ _ (hW bL.nd (j:=8) rfl v4 (sc:=(ao ej)) (N:=jo) (Nt:=[ "_law_k" ]) (Nf:=[ "_law_fixed" ]) (fi:=[5]) rfl rfl rfl (bY rfl T.z_range (aH bz rfl T.z_len y_ (@af _ _ _ _ _ _ (@av _ _ _ _ _ _ (ae 1) ah (λ_ _=>rfl)) ag z_))) rfl y_ y_ y_ x_ rfl y_ x_ (λ_ _ _ _=>(bS x_ (show(([ "_law_k" ]:List Str)++([ "_law_fixed" ]:List Str)).Nodup by decide +kernel) rfl (Or.inl rfl))) (λ_ _ _ _=>(nO (B2 1 (ae 0) rfl))) (λ_ _ _ _=>(ae 0))) (@ai _ _ _ _ _ (@dc _ _ _ _ _ _ _ _ (Pe.pb (la (Pg (rN hr.units) (ae 7) (@bP _ _ _ _ _ ag) (aN _)) (g8 (Pe.pb (vk (Pg (df hr.units) (ae 8) (@bP _ _ _ _ _ ag) (aN _)) (pV (Pg tR (bf (aC T) T.x__law_take hr 0 0 (aQ 0 (@af _ _ _ _ _ _ ah ag z_)) (hk:=by omega)) ah (aN _)))))))) (@aq _ _ _ (@aL _ _ _ _ (@ax _ _ _ _ _ _ _ _ Hw (@bG _ _ _ _ _ _ (@af _ _ _ _ _ _ cm ag z_)) (@av _ _ _ _ _ _ (ae 7) (bf (aC T) T.x__law_take hr 0 0 (aQ 0 (@af _ _ _ _ _ _ (@az _ _ _ (aH bz rfl T.z_len y_ (@af _ _ _ _ _ _ (ae 7) ag z_))) ag z_)) (hk:=by omega)) (λ_ _=>rfl))))) bj) (@ai _ _ _ _ _ (@dc _ _ _ _ _ _ _ _ (Pg (df hr.units) (ae 8) (@bP _ _ _ _ _ ag) (aN _)) (@aq _ _ _ (@aL _ _ _ _ (@av _ _ _ _ _ _ (@bP _ _ _ _ _ (@af _ _ _ _ _ _ (@bG _ _ _ _ _ _ (@af _ _ _ _ _ _ cm ag z_)) (@af _ _ _ _ _ _ (@bG _ _ _ _ _ _ (@af _ _ _ _ _ _ cm (@af _ _ _ _ _ _ ah (@af _ _ _ _ _ _ ah ag z_) z_) z_)) ag z_) z_)) (eU sJ rfl T.z_int y_ (@af _ _ _ _ _ _ (bV DW (aH bz rfl T.z_len y_ (@af _ _ _ _ _ _ (ae 6) ag z_)) (@av _ _ _ _ _ _ (ae 4) ah (λ_ _=>rfl)) (aN _)) ag z_)) (λ_ _=>rfl)))) bj) (@ai _ _ _ _ _ (@ay _ _ _ 9 _ _ _ bL.nd rfl v4 (@av _ _ _ _ _ _ (ae 8) (bf (aC T) T.x__law_take hr 0 0 (aQ 0 (@af _ _ _ _ _ _ (@az _ _ _ (aH bz rfl T.z_len y_ (@af _ _ _ _ _ _ (ae 8) ag z_))) ag z_)) (hk:=by omega)) (λ_ _=>rfl)) z_ (by first | exact .inl rfl | exact .inr rfl)) (@ai _ _ _ _ _ (@ay _ _ _ 10 _ _ _ bL.nd rfl v4 (@bP _ _ _ _ _ ag) z_ (by first | exact .inl rfl | exact .inr rfl)) (@ai _ _ _ _ _ (d4 PassesOwn.never rfl (bX (@bG _ _ _ _ _ _ (@af _ _ _ _ _ _ cm (@af _ _ _ _ _ _ cm ag z_) z_))) (cN (i:=11) bL.nd rfl v4) (@ai _ _ _ _ _ (@ay _ _ _ 12 _ _ _ bL.nd rfl v4 (Gh 5 rfl T.z_dict) z_ (by first | exact .inl rfl | exact .inr rfl)) (@ai _ _ _ _ _ (BX 12 (ae 9) (ae 11)) (@aq _ _ _ (g9 (dg 10 (bf (k6 T n) T.x__law_grown hr 0 0 (aQ 0 (@af _ _ _ _ _ _ (ae 1) (@af _ _ _ _ _ _ (ae 2) (@af _ _ _ _ _ _ (ae 3) (@af _ _ _ _ _ _ (ae 4) (@af _ _ _ _ _ _ (Gg 12) ag z_) z_) z_) z_) z_)) (hk:=by omega)))))))) (@aq _ _ _ (@aL _ _ _ _ (@bG _ _ _ _ _ _ (@af _ _ _ _ _ _ cm (@af _ _ _ _ _ _ (ae 9) (@af _ _ _ _ _ _ (@fN _ _ _ _ _ (iO 10 ah (λ_ _=>rfl)) (@av _ _ _ _ _ _ (ae 10) ah (λ_ _=>rfl))) (@af _ _ _ _ _ _ (@fN _ _ _ _ _ (iO 10 ah (λ_ _=>rfl)) (@av _ _ _ _ _ _ (ae 10) ah (λ_ _=>rfl))) ag z_) z_) z_) z_))))))))))))))
  (si n)
theorem uX(T:Tx K mg ad fd):FnOk P w K mg base CX0 12 (ad 41) (fd 41) ["_law_state","_law_ring_here","_law_on_here","_law_wholes_here","_law_wish_here","_law_fixed"] (spF K 6 nD):=k6 T 9
theorem wK:aG xY ["_law_ring_here","_law_wish_here","_law_tree"] (ao lI):=⟨rfl,rfl,rfl,y_,rfl,y_,y_⟩
theorem oU(T:Tx K mg ad fd):FnOk P w K mg base CX0 7 (ad 42) (fd 42) ["_law_ring_here","_law_wish_here","_law_tree"] (spF K 3 fX) :=
 bD (k:=6) T.x__law_lets.f wK lY (λcdv A outer s H E hr=>(ai (HP rfl rfl T.h_NoTree rfl (λ_ _ xt=>(Ep (Eo (KJ (rD T) T.x_look_at_tree hr (af (ae 0) (af (ae 1) (af (ae 2) ag))))))) (λ_=>(aq (aL w5))))
  (aq (aL w5))))
  uP
theorem cb:aG qG ["_law_ring_here","_law_loads_here","_law_bottom","_law_top_here","_law_strict"] (ao fk):=⟨rfl,rfl,rfl,y_,rfl,y_,y_⟩
theorem pk(T:Tx K mg ad fd):FnOk P w K mg base CX0 1 (ad 43) (fd 43) ["_law_ring_here","_law_loads_here","_law_bottom","_law_top_here","_law_strict"] (spF K 5 eG) :=
 bD (k:=0) T.x__law_strained.f cb fH (λcdv A outer s H E hr=>(ai (d4 PassesOwn.never rfl (bY rfl T.z_range (aH bz rfl T.z_len y_ (af (ae 1) ag))) (cN (i:=5) cb.nd rfl v4) (ai (ay (i:=6) cb.nd rfl v4 (av (av (ae 0) ah (λ_ _=>rfl)) (ae 5) (λ_ _=>rfl)))
  (ai (ay (i:=7) cb.nd rfl v4 (az (ax aU (ax aU (av (ae 1) (ae 5) (λ_ _=>rfl)) (av (ae 6) ah (λ_ _=>rfl))) (av (ae 3) ah (λ_ _=>rfl)))))
  (ai (ay (i:=8) cb.nd rfl v4 (az (ax aU (ax aU (av (ae 3) ah (λ_ _=>rfl)) (av (ae 6) ah (λ_ _=>rfl))) (ae 2))))
  (aq (dc (Pe.pb (vk (Pg tR (ae 7) (ae 8) (aN _)) (pV (Pe.pb (la (iL (ae 4)) (g8 (Pg (df hr.units) (ae 7) (ae 8) (aN _)))))))) (aq (aL (i8 5))) bj))))))
  (aq (aL pS))))
  om
theorem sy:aG mK ["_law_elder","_law_ways"] (ao eN):=⟨rfl,rfl,rfl,y_,rfl,y_,y_⟩
theorem sD(T:Tx K mg ad fd):FnOk P w K mg base CX0 1 (ad 44) (fd 44) ["_law_elder","_law_ways"] (spF K 2 gF) :=
 bD (k:=0) T.x__law_turned.f sy iF (λcdv A outer s H E hr=>(aq (aL (dC (sc:=(ao eN)) (N:=mK) (Nt:=["_law_k"]) (Nf:=["_law_elder","_law_ways"]) (fi:=[0,1]) rfl rfl rfl (bY rfl T.z_range (aH bz rfl T.z_len y_ (af (ae 1) ag))) rfl y_ y_ y_ x_ rfl y_ x_ (λ_ _ _ _=>(bS x_ (show((["_law_k"]:List Str)++(["_law_elder","_law_ways"]:List Str)).Nodup by decide +kernel) rfl (Or.inl rfl))) (λ_ _ _ _=>(nO (Pe.pb (la (Pg D3 (av (ae 1) (ae 0) (λ_ _=>rfl)) (bG (af cm (af cm ag))) rfl) (g8 (Pg (rN hr.units) (av (ae 1) (ae 0) (λ_ _=>rfl)) (av (ae 2) (ae 0) (λ_ _=>rfl)) (aN _))))))) (λ_ _ _ _=>(ae 0))))))
  qY
theorem oV:aG xZ ["_law_ring_here","_law_on_here","_law_wholes_here","_law_wish_here","_law_ways"] (ao lJ):=⟨rfl,rfl,rfl,y_,rfl,y_,y_⟩
theorem wL(T:Tx K mg ad fd):FnOk P w K mg base CX0 2 (ad 45) (fd 45) ["_law_ring_here","_law_on_here","_law_wholes_here","_law_wish_here","_law_ways"] (spF K 5 jK) :=
 bD (k:=1) T.x__law_kept.f oV lZ (λcdv A outer s H E hr=>(ai (ay (i:=5) oV.nd rfl v4 (az (bp (nH T) T.x__law_loads hr (af (ae 0) (af (ae 1) (af (av (ae 2) ah (λ_ _=>rfl)) (af (ae 4) ag)))))))
  (ai (dc (Pg yF (bp (pk T) T.x__law_strained hr (af (ae 0) (af (ae 5) (af (av (ae 2) ah (λ_ _=>rfl)) (af (av (ae 3) ah (λ_ _=>rfl)) (af (av (ae 3) ah (λ_ _=>rfl)) ag)))))) pS (aN _)) (aq (aL w5)) bj)
  (aq (aL (bV DW (aH bz rfl T.z_len y_ (af (az (bp (sD T) T.x__law_turned hr (af (av (ae 3) ah (λ_ _=>rfl)) (af (ae 4) ag)))) ag)) (av (ae 3) ah (λ_ _=>rfl)) (aN _)))))))
  uQ
theorem cZ:aG tj ["_law_state","_law_ring_here","_law_fixed"] (ao kc):=⟨rfl,rfl,rfl,y_,rfl,y_,y_⟩
theorem oW(T:Tx K mg ad fd):∀ n,FnOk P w K mg base CX0 (2+n) (ad 46) (fd 46) ["_law_state","_law_ring_here","_law_fixed"] (spF K 3 (bC n))
 |0=>BM ye
 | n+1=>bD (k:=2+n) T.x__law_any.f cZ (oo (bC n)) (λcdv A outer s H E hr=>by exact(@ai _ _ _ _ _ (hW cZ.nd (j:=3) rfl v4 (sc:=(ao kc)) (N:=tj) (Nt:=[ "_law_k" ]) (Nf:=[ "_law_fixed" ]) (fi:=[2]) rfl rfl rfl (bY rfl T.z_range (aH bz rfl T.z_len y_ (@af _ _ _ _ _ _ (@av _ _ _ _ _ _ (ae 1) ah (λ_ _=>rfl)) ag z_))) rfl y_ y_ y_ x_ rfl y_ x_ (λ_ _ _ _=>(bS x_ (show(([ "_law_k" ]:List Str)++([ "_law_fixed" ]:List Str)).Nodup by decide +kernel) rfl (Or.inl rfl))) (λ_ _ _ _=>(nO (B2 1 (ae 0) rfl))) (λ_ _ _ _=>(ae 0))) (@ai _ _ _ _ _ (@dc _ _ _ _ _ _ _ _ (Pe.pb (vk (Pg (df hr.units) (ae 3) (@bP _ _ _ _ _ ag) (aN _)) (pV (Pg (df hr.units) (bf (aC T) T.x__law_take hr 0 0 (aQ 0 (@af _ _ _ _ _ _ ah ag z_)) (hk:=by omega)) ah (aN _))))) (@ai _ _ _ _ _ (@ay _ _ _ 4 _ _ _ cZ.nd rfl v4 (@az _ _ _ (bf (aC T) T.x__law_take hr 0 0 (aQ 0 (@af _ _ _ _ _ _ (@az _ _ _ (aH bz rfl T.z_len y_ (@af _ _ _ _ _ _ (@av _ _ _ _ _ _ (ae 1) ah (λ_ _=>rfl)) ag z_))) ag z_)) (hk:=by omega))) z_ (by first | exact .inl rfl | exact .inr rfl)) (@aq _ _ _ (@aL _ _ _ _ (@av _ _ _ _ _ _ (@bP _ _ _ _ _ (@af _ _ _ _ _ _ (@bG _ _ _ _ _ _ (@af _ _ _ _ _ _ cm (@af _ _ _ _ _ _ (ae 4) (@af _ _ _ _ _ _ (@az _ _ _ (@ax _ _ _ _ _ _ _ _ bu (ae 4) (bf (aC T) T.x__law_take hr 0 0 (aQ 0 (@af _ _ _ _ _ _ (@ax _ _ _ _ _ _ _ _ kq (aH bz rfl T.z_len y_ (@af _ _ _ _ _ _ (@av _ _ _ _ _ _ (ae 1) ah (λ_ _=>rfl)) ag z_)) (ae 4)) ag z_)) (hk:=by omega)))) ag z_) z_) z_)) (@af _ _ _ _ _ _ (@bG _ _ _ _ _ _ (@af _ _ _ _ _ _ cm ag z_)) ag z_) z_)) (eU sJ rfl T.z_int y_ (@af _ _ _ _ _ _ (bV (df hr.units) (bf (aC T) T.x__law_take hr 0 0 (aQ 0 (@af _ _ _ _ _ _ ah ag z_)) (hk:=by omega)) ah (aN _)) ag z_)) (λ_ _=>rfl))))) bj) (@ai _ _ _ _ _ (@ay _ _ _ 5 _ _ _ cZ.nd rfl v4 (@av _ _ _ _ _ _ (ae 3) (bf (aC T) T.x__law_take hr 0 0 (aQ 0 (@af _ _ _ _ _ _ (@az _ _ _ (aH bz rfl T.z_len y_ (@af _ _ _ _ _ _ (ae 3) ag z_))) ag z_)) (hk:=by omega)) (λ_ _=>rfl)) z_ (by first | exact .inl rfl | exact .inr rfl)) (@ai _ _ _ _ _ (@ay _ _ _ 6 _ _ _ cZ.nd rfl v4 (@bP _ _ _ _ _ ag) z_ (by first | exact .inl rfl | exact .inr rfl)) (@ai _ _ _ _ _ (d4 PassesOwn.never rfl (bX (@bG _ _ _ _ _ _ (@af _ _ _ _ _ _ cm (@af _ _ _ _ _ _ cm ag z_) z_))) (cN (i:=7) cZ.nd rfl v4) (@ai _ _ _ _ _ (@ay _ _ _ 8 _ _ _ cZ.nd rfl v4 (Gh 2 rfl T.z_dict) z_ (by first | exact .inl rfl | exact .inr rfl)) (@ai _ _ _ _ _ (BX 8 (ae 5) (ae 7)) (@aq _ _ _ (g9 (dg 6 (bf (oW T n) T.x__law_any hr 0 0 (aQ 0 (@af _ _ _ _ _ _ (ae 1) (@af _ _ _ _ _ _ (Gg 8) ag z_) z_)) (hk:=by omega)))))))) (@aq _ _ _ (@aL _ _ _ _ (@bG _ _ _ _ _ _ (@af _ _ _ _ _ _ cm (@af _ _ _ _ _ _ (ae 5) (@af _ _ _ _ _ _ (@fN _ _ _ _ _ (iO 6 ah (λ_ _=>rfl)) (@av _ _ _ _ _ _ (ae 6) ah (λ_ _=>rfl))) (@af _ _ _ _ _ _ (@fN _ _ _ _ _ (iO 6 ah (λ_ _=>rfl)) (@av _ _ _ _ _ _ (ae 6) ah (λ_ _=>rfl))) ag z_) z_) z_) z_))))))))))
  (wo n)
theorem yk(T:Tx K mg ad fd):FnOk P w K mg base CX0 11 (ad 46) (fd 46) ["_law_state","_law_ring_here","_law_fixed"] (spF K 3 q8):=oW T 9
theorem k7:aG IX ["_law_script"] (ao Az):=⟨rfl,rfl,rfl,y_,rfl,y_,y_⟩
theorem Lx(T:Tx K mg ad fd):FnOk P w K mg base CX0 13 (ad 47) (fd 47) ["_law_script"] (spF K 1 fs_law) :=
 bD (k:=12) T.x_law.f k7 Ji (λcdv A outer s H E hr=>by exact(@ai _ _ _ _ _ (@ay _ _ _ 1 _ _ _ k7.nd rfl v4 (@az _ _ _ (bp (wH T) T.x__law_ring hr (@af _ _ _ _ _ _ (ae 0) (@af _ _ _ _ _ _ ah (@af _ _ _ _ _ _ ah (@af _ _ _ _ _ _ ah ag z_) z_) z_) z_))) z_ (by first | exact .inl rfl | exact .inr rfl)) (@ai _ _ _ _ _ (@ay _ _ _ 2 _ _ _ k7.nd rfl v4 (@az _ _ _ (bp (AE T) T.x__law_on hr (@af _ _ _ _ _ _ (ae 1) ag z_))) z_ (by first | exact .inl rfl | exact .inr rfl)) (@ai _ _ _ _ _ (@ay _ _ _ 3 _ _ _ k7.nd rfl v4 (@az _ _ _ (bp (sx T) T.x__law_wholes hr (@af _ _ _ _ _ _ (@az _ _ _ (dC (sc:=(ao Az)) (N:=IX) (Nt:=[ "_law_ask" ]) (Nf:=[]) (fi:=[]) rfl rfl rfl (bX (@av _ _ _ _ _ _ (ae 1) ah (λ_ _=>rfl))) rfl y_ y_ y_ x_ rfl y_ x_ (λ_ _ _ _=>(bS x_ (show(([ "_law_ask" ]:List Str)++([]:List Str)).Nodup by decide +kernel) rfl (Or.inl rfl))) (λ_ _ _ _=>cO) (λ_ _ _ _=>(@av _ _ _ _ _ _ (ae 0) ah (λ_ _=>rfl))))) ag z_))) z_ (by first | exact .inl rfl | exact .inr rfl)) (@ai _ _ _ _ _ (@ay _ _ _ 4 _ _ _ k7.nd rfl v4 (@av _ _ _ _ _ _ (@bP _ _ _ _ _ (@af _ _ _ _ _ _ ah (@af _ _ _ _ _ _ ah (@af _ _ _ _ _ _ ah (@af _ _ _ _ _ _ ah (@af _ _ _ _ _ _ ah ag z_) z_) z_) z_) z_)) (aH bz rfl T.z_len y_ (@af _ _ _ _ _ _ (@av _ _ _ _ _ _ (ae 1) ah (λ_ _=>rfl)) ag z_)) (λ_ _=>rfl)) z_ (by first | exact .inl rfl | exact .inr rfl)) (@ai _ _ _ _ _ (d4 PassesOwn.never rfl (yv rfl T.z_range ah (aH (Kc rfl) rfl T.z_max y_ (@af _ _ _ _ _ _ ah (@af _ _ _ _ _ _ (@az _ _ _ (aH (F6 rfl) rfl T.z_min y_ (@af _ _ _ _ _ _ (@az _ _ _ (aH bz rfl T.z_len y_ (@af _ _ _ _ _ _ (ae 0) ag z_))) (@af _ _ _ _ _ _ (ae 4) ag z_) z_))) ag z_) z_))) (cN (i:=5) k7.nd rfl v4) (@ai _ _ _ _ _ (@ay _ _ _ 6 _ _ _ k7.nd rfl v4 (bp (eP T) T.x__law_begun hr (@af _ _ _ _ _ _ (ae 0) (@af _ _ _ _ _ _ (ae 5) ag z_) z_)) z_ (by first | exact .inl rfl | exact .inr rfl)) (@ai _ _ _ _ _ (@ay _ _ _ 7 _ _ _ k7.nd rfl v4 (@az _ _ _ (bf (wJ T) T.x__law_wish hr 0 6 (aQ 6 (@af _ _ _ _ _ _ (ae 1) (@af _ _ _ _ _ _ (ae 2) (@af _ _ _ _ _ _ (ae 3) ag z_) z_) z_)))) z_ (by first | exact .inl rfl | exact .inr rfl)) (@ai _ _ _ _ _ (@ay _ _ _ 8 _ _ _ k7.nd rfl v4 (@az _ _ _ (aH (Kv rfl) rfl T.z_any y_ (@af _ _ _ _ _ _ (@az _ _ _ (dC (sc:=(ao Az)) (N:=IX) (Nt:=[ "_law_ways" ]) (Nf:=[ "_law_ring_here" ,"_law_on_here" ,"_law_wholes_here" ,"_law_wish_here" ]) (fi:=[1,2,3,7]) rfl rfl rfl (bX (bp (iT T) T.x__law_all_ways hr (@af _ _ _ _ _ _ (@az _ _ _ (aH bz rfl T.z_len y_ (@af _ _ _ _ _ _ (@av _ _ _ _ _ _ (ae 1) ah (λ_ _=>rfl)) ag z_))) ag z_))) rfl y_ y_ y_ x_ rfl y_ x_ (λ_ _ _ _=>(bS x_ (show(([ "_law_ways" ]:List Str)++([ "_law_ring_here" ,"_law_on_here" ,"_law_wholes_here" ,"_law_wish_here" ]:List Str)).Nodup by decide +kernel) rfl (Or.inl rfl))) (λ_ _ _ _=>cO) (λ_ _ _ _=>(bp (wL T) T.x__law_kept hr (@af _ _ _ _ _ _ (ae 1) (@af _ _ _ _ _ _ (ae 2) (@af _ _ _ _ _ _ (ae 3) (@af _ _ _ _ _ _ (ae 4) (@af _ _ _ _ _ _ (ae 0) ag z_) z_) z_) z_) z_))))) ag z_))) z_ (by first | exact .inl rfl | exact .inr rfl)) (@ai _ _ _ _ _ (@ay _ _ _ 9 _ _ _ k7.nd rfl v4 (@az _ _ _ (bf (uX T) T.x__law_grown hr 0 6 (aQ 6 (@af _ _ _ _ _ _ (ae 1) (@af _ _ _ _ _ _ (ae 2) (@af _ _ _ _ _ _ (ae 3) (@af _ _ _ _ _ _ (ae 7) (@af _ _ _ _ _ _ Gf ag z_) z_) z_) z_) z_)))) z_ (by first | exact .inl rfl | exact .inr rfl)) (@ai _ _ _ _ _ (@dc _ _ _ _ _ _ _ _ (Pg (df hr.units) (bp (oU T) T.x__law_lets hr (@af _ _ _ _ _ _ (ae 1) (@af _ _ _ _ _ _ (ae 7) (@af _ _ _ _ _ _ (ae 9) ag z_) z_) z_)) (ae 8) (aN _)) (@aq _ _ _ (@aL _ _ _ _ w5)) bj) (@aq _ _ _ (@dc _ _ _ _ _ _ _ _ (Pe.pb (la (iL (ae 8)) (g8 (iL (bp (oU T) T.x__law_lets hr (@af _ _ _ _ _ _ (ae 1) (@af _ _ _ _ _ _ (ae 7) (@af _ _ _ _ _ _ (@az _ _ _ (bf (yk T) T.x__law_any hr 0 6 (aQ 6 (@af _ _ _ _ _ _ (ae 1) (@af _ _ _ _ _ _ Gf ag z_) z_)))) ag z_) z_) z_)))))) (@aq _ _ _ (@aL _ _ _ _ w5)) bj)))))))) (@aq _ _ _ (@aL _ _ _ _ w5))))))))
  Jj
end
noncomputable def Sm(i:Nat):Addr:=([21,28,35,42,49,56,102,109,116,123,130,142,147,135,154,161,166,173,180,187,216,211,206,199,192,223,230,249,237,244,256,263,270,282,275,301,287,311,316,321,328,333,345,294,306,352,338,357]:List Addr).getD i 0
noncomputable abbrev Sn:Value:=(.str "ringloads.divisors" 187)
noncomputable abbrev So:Value:=(.str "ringloads.names" 206)
noncomputable abbrev Sr:Value:=(.str "ringloads.ratios" 292)
noncomputable abbrev Ss:Value:=(.str "ringloads.cuts" 311)
noncomputable abbrev Su:Value:=(.str "ringloads.units" 338)
noncomputable abbrev Sv:Value:=(.str "ringloads.ways" 361)
noncomputable abbrev Sw:Value:=(.str "ringloads.wishes" 388)
noncomputable abbrev Sx:Value:=(.str "ringloads.trees" 413)
noncomputable abbrev Sy:Value:=(.str "law_ringloads_k47_whole_trees_bar_all" 469)
noncomputable def Sz(i:Nat):FuncData:=[PV "greatest_shared" dE Sn 20,PV "least_common" gb Sn 27,PV "is_whole" nW So 34,PV "is_number_below" dF So 41,PV "are_two_wholes" eB So 48,PV "is_told_as" jh So 55,PV "lowest" uo Sr 101,PV "times" xQ Sr 108,PV "is_cut" uu Ss 115,PV "is_within" lA Ss 122,PV "parts_places" gh Ss 129,PV "common_bottom" fg Su 141,PV "in_units" ka Su 146,PV "weighed" ji Su 134,PV "other_way" lB Sv 153,PV "is_over" qD Sv 160,PV "turned_by" ia Sw 165,PV "is_too_much" ib Sw 172,PV "are_too_many" gi Sw 179,PV "is_split" nY Sx 186,PV "times_over" fR Sx 215,PV "is_too_full" eL Sx 210,PV "can_stand" lC Sx 205,PV "branch_of" lD Sx 198,PV "look_at_tree" dQ Sx 191,PV "_law_begun" jj Sy 222,PV "_law_take" lE Sy 229,PV "_law_names" eh Sy 248,PV "_law_low" nZ Sy 236,PV "_law_amount" ie Sy 243,PV "_law_rooms" jm Sy 255,PV "_law_ends" lF Sy 262,PV "_law_ring" lG Sy 269,PV "_law_on" qF Sy 281,PV "_law_wholes" eM Sy 274,PV "_law_top" n4 Sy 300,PV "_law_loads" fS Sy 286,PV "_law_all_ways" cy Sy 310,PV "_law_wish" fj Sy 315,PV "_law_shown" fT Sy 320,PV "_law_showing" gj Sy 327,PV "_law_grown" ej Sy 332,PV "_law_lets" lI Sy 344,PV "_law_strained" fk Sy 293,PV "_law_turned" eN Sy 305,PV "_law_kept" lJ Sy 351,PV "_law_any" kc Sy 337,PV "law" Az Sy 356].getD i (PV "law" Az Sn 0)
theorem tx{Pm:Params}{h:Heap}{mg:Str->Option Value}(X:(Hd.Kf Pm).In h)(G:h.Ns mainGlobals mg):Tx (Hd.Kf Pm) mg Sm Sz where
 x_greatest_shared:=FX.mk' X G (a:=21) (c:=20) (md:=Sn) z_ z_ z_ z_ λ_ _ _ _ _ _ u l=>match u,l with | [_,_],_=>rfl
 x_least_common:=FX.mk' X G (a:=28) (c:=27) (md:=Sn) z_ z_ z_ z_ λ_ _ _ _ _ _ u l=>match u,l with | [_,_],_=>rfl
 x_is_whole:=FX.mk' X G (a:=35) (c:=34) (md:=So) z_ z_ z_ z_ λ_ _ _ _ _ _ u l=>match u,l with | [_],_=>rfl
 x_is_number_below:=FX.mk' X G (a:=42) (c:=41) (md:=So) z_ z_ z_ z_ λ_ _ _ _ _ _ u l=>match u,l with | [_,_],_=>rfl
 x_are_two_wholes:=FX.mk' X G (a:=49) (c:=48) (md:=So) z_ z_ z_ z_ λ_ _ _ _ _ _ u l=>match u,l with | [_],_=>rfl
 x_is_told_as:=FX.mk' X G (a:=56) (c:=55) (md:=So) z_ z_ z_ z_ λ_ _ _ _ _ _ u l=>match u,l with | [_,_,_],_=>rfl
 x_lowest:=FX.mk' X G (a:=102) (c:=101) (md:=Sr) z_ z_ z_ z_ λ_ _ _ _ _ _ u l=>match u,l with | [_,_],_=>rfl
 x_times:=FX.mk' X G (a:=109) (c:=108) (md:=Sr) z_ z_ z_ z_ λ_ _ _ _ _ _ u l=>match u,l with | [_,_],_=>rfl
 x_is_cut:=FX.mk' X G (a:=116) (c:=115) (md:=Ss) z_ z_ z_ z_ λ_ _ _ _ _ _ u l=>match u,l with | [_,_],_=>rfl
 x_is_within:=FX.mk' X G (a:=123) (c:=122) (md:=Ss) z_ z_ z_ z_ λ_ _ _ _ _ _ u l=>match u,l with | [_,_],_=>rfl
 x_parts_places:=FX.mk' X G (a:=130) (c:=129) (md:=Ss) z_ z_ z_ z_ λ_ _ _ _ _ _ u l=>match u,l with | [_,_,_],_=>rfl
 x_common_bottom:=FX.mk' X G (a:=142) (c:=141) (md:=Su) z_ z_ z_ z_ λ_ _ _ _ _ _ u l=>match u,l with | [_],_=>rfl
 x_in_units:=FX.mk' X G (a:=147) (c:=146) (md:=Su) z_ z_ z_ z_ λ_ _ _ _ _ _ u l=>match u,l with | [_,_],_=>rfl
 x_weighed:=FX.mk' X G (a:=135) (c:=134) (md:=Su) z_ z_ z_ z_ λ_ _ _ _ _ _ u l=>match u,l with | [_,_],_=>rfl
 x_other_way:=FX.mk' X G (a:=154) (c:=153) (md:=Sv) z_ z_ z_ z_ λ_ _ _ _ _ _ u l=>match u,l with | [_],_=>rfl
 x_is_over:=FX.mk' X G (a:=161) (c:=160) (md:=Sv) z_ z_ z_ z_ λ_ _ _ _ _ _ u l=>match u,l with | [_,_,_,_],_=>rfl
 x_turned_by:=FX.mk' X G (a:=166) (c:=165) (md:=Sw) z_ z_ z_ z_ λ_ _ _ _ _ _ u l=>match u,l with | [_,_],_=>rfl
 x_is_too_much:=FX.mk' X G (a:=173) (c:=172) (md:=Sw) z_ z_ z_ z_ λ_ _ _ _ _ _ u l=>match u,l with | [_,_,_],_=>rfl
 x_are_too_many:=FX.mk' X G (a:=180) (c:=179) (md:=Sw) z_ z_ z_ z_ λ_ _ _ _ _ _ u l=>match u,l with | [_,_],_=>rfl
 x_is_split:=FX.mk' X G (a:=187) (c:=186) (md:=Sx) z_ z_ z_ z_ λ_ _ _ _ _ _ u l=>match u,l with | [_],_=>rfl
 x_times_over:=FX.mk' X G (a:=216) (c:=215) (md:=Sx) z_ z_ z_ z_ λ_ _ _ _ _ _ u l=>match u,l with | [_,_,_,_],_=>rfl
 x_is_too_full:=FX.mk' X G (a:=211) (c:=210) (md:=Sx) z_ z_ z_ z_ λ_ _ _ _ _ _ u l=>match u,l with | [_,_,_,_,_],_=>rfl
 x_can_stand:=FX.mk' X G (a:=206) (c:=205) (md:=Sx) z_ z_ z_ z_ λ_ _ _ _ _ _ u l=>match u,l with | [_,_,_,_,_],_=>rfl
 x_branch_of:=FX.mk' X G (a:=199) (c:=198) (md:=Sx) z_ z_ z_ z_ λ_ _ _ _ _ _ u l=>match u,l with | [_,_],_=>rfl
 x_look_at_tree:=FX.mk' X G (a:=192) (c:=191) (md:=Sx) z_ z_ z_ z_ λ_ _ _ _ _ _ u l=>match u,l with | [_,_,_],_=>rfl
 x__law_begun:=FX.mk' X G (a:=223) (c:=222) (md:=Sy) z_ z_ z_ z_ λ_ _ _ _ _ _ u l=>match u,l with | [_,_],_=>rfl
 x__law_take:=FX.mk' X G (a:=230) (c:=229) (md:=Sy) z_ z_ z_ z_ λ_ _ _ _ _ _ u l=>match u,l with | [_,_],_=>rfl
 x__law_names:=FX.mk' X G (a:=249) (c:=248) (md:=Sy) z_ z_ z_ z_ λ_ _ _ _ _ _ u l=>match u,l with | [_,_],_=>rfl
 x__law_low:=FX.mk' X G (a:=237) (c:=236) (md:=Sy) z_ z_ z_ z_ λ_ _ _ _ _ _ u l=>match u,l with | [_,_],_=>rfl
 x__law_amount:=FX.mk' X G (a:=244) (c:=243) (md:=Sy) z_ z_ z_ z_ λ_ _ _ _ _ _ u l=>match u,l with | [_,_,_],_=>rfl
 x__law_rooms:=FX.mk' X G (a:=256) (c:=255) (md:=Sy) z_ z_ z_ z_ λ_ _ _ _ _ _ u l=>match u,l with | [_,_,_],_=>rfl
 x__law_ends:=FX.mk' X G (a:=263) (c:=262) (md:=Sy) z_ z_ z_ z_ λ_ _ _ _ _ _ u l=>match u,l with | [_,_,_,_],_=>rfl
 x__law_ring:=FX.mk' X G (a:=270) (c:=269) (md:=Sy) z_ z_ z_ z_ λ_ _ _ _ _ _ u l=>match u,l with | [_,_,_,_],_=>rfl
 x__law_on:=FX.mk' X G (a:=282) (c:=281) (md:=Sy) z_ z_ z_ z_ λ_ _ _ _ _ _ u l=>match u,l with | [_],_=>rfl
 x__law_wholes:=FX.mk' X G (a:=275) (c:=274) (md:=Sy) z_ z_ z_ z_ λ_ _ _ _ _ _ u l=>match u,l with | [_],_=>rfl
 x__law_top:=FX.mk' X G (a:=301) (c:=300) (md:=Sy) z_ z_ z_ z_ λ_ _ _ _ _ _ u l=>match u,l with | [_,_,_],_=>rfl
 x__law_loads:=FX.mk' X G (a:=287) (c:=286) (md:=Sy) z_ z_ z_ z_ λ_ _ _ _ _ _ u l=>match u,l with | [_,_,_,_],_=>rfl
 x__law_all_ways:=FX.mk' X G (a:=311) (c:=310) (md:=Sy) z_ z_ z_ z_ λ_ _ _ _ _ _ u l=>match u,l with | [_],_=>rfl
 x__law_wish:=FX.mk' X G (a:=316) (c:=315) (md:=Sy) z_ z_ z_ z_ λ_ _ _ _ _ _ u l=>match u,l with | [_,_,_,_],_=>rfl
 x__law_shown:=FX.mk' X G (a:=321) (c:=320) (md:=Sy) z_ z_ z_ z_ λ_ _ _ _ _ _ u l=>match u,l with | [_,_,_,_,_,_,_],_=>rfl
 x__law_showing:=FX.mk' X G (a:=328) (c:=327) (md:=Sy) z_ z_ z_ z_ λ_ _ _ _ _ _ u l=>match u,l with | [_,_,_,_,_],_=>rfl
 x__law_grown:=FX.mk' X G (a:=333) (c:=332) (md:=Sy) z_ z_ z_ z_ λ_ _ _ _ _ _ u l=>match u,l with | [_,_,_,_,_,_],_=>rfl
 x__law_lets:=FX.mk' X G (a:=345) (c:=344) (md:=Sy) z_ z_ z_ z_ λ_ _ _ _ _ _ u l=>match u,l with | [_,_,_],_=>rfl
 x__law_strained:=FX.mk' X G (a:=294) (c:=293) (md:=Sy) z_ z_ z_ z_ λ_ _ _ _ _ _ u l=>match u,l with | [_,_,_,_,_],_=>rfl
 x__law_turned:=FX.mk' X G (a:=306) (c:=305) (md:=Sy) z_ z_ z_ z_ λ_ _ _ _ _ _ u l=>match u,l with | [_,_],_=>rfl
 x__law_kept:=FX.mk' X G (a:=352) (c:=351) (md:=Sy) z_ z_ z_ z_ λ_ _ _ _ _ _ u l=>match u,l with | [_,_,_,_,_],_=>rfl
 x__law_any:=FX.mk' X G (a:=338) (c:=337) (md:=Sy) z_ z_ z_ z_ λ_ _ _ _ _ _ u l=>match u,l with | [_,_,_],_=>rfl
 x_law:=FX.mk' X G (a:=357) (c:=356) (md:=Sy) z_ z_ z_ z_ λ_ _ _ _ _ _ u l=>match u,l with | [_],_=>rfl
 li:=BV.mk' X G z_ z_ z_ z_ z_ z_ z_ λ_ _ _ _ _ _ u l=>match u,l with | [_,_],_=>rfl
 i_NoTree:=sG (oc:=.type "function") (od:=none) (osl:=#[]) z_ z_ z_
 c_NoTree:=XT.mk' X G z_ z_ z_ ((sG (x:="__init__") (qual:="NoTree.__init__") (st:=iG) (f:=90) (oc:=.type "function") (od:=none) (osl:=#[]) z_ z_ z_).binds λ_ _ _ _ _ _ u l=>match u,l with | [_,_],_=>rfl) z_ z_
 h_NoTree:=XH.mk' X G z_ z_ z_ z_
 z_ValueError:=PySem.W.mg_none_of X G z_
 z_abs:=PySem.W.mg_none_of X G z_
 z_any:=PySem.W.mg_none_of X G z_
 z_bool:=PySem.W.mg_none_of X G z_
 z_dict:=PySem.W.mg_none_of X G z_
 z_enumerate:=PySem.W.mg_none_of X G z_
 z_int:=PySem.W.mg_none_of X G z_
 z_isinstance:=PySem.W.mg_none_of X G z_
 z_len:=PySem.W.mg_none_of X G z_
 z_list:=PySem.W.mg_none_of X G z_
 z_max:=PySem.W.mg_none_of X G z_
 z_min:=PySem.W.mg_none_of X G z_
 z_range:=PySem.W.mg_none_of X G z_
 z_str:=PySem.W.mg_none_of X G z_
 z_sum:=PySem.W.mg_none_of X G z_
 z_tuple:=PySem.W.mg_none_of X G z_
 z_zip:=PySem.W.mg_none_of X G z_
 g_BACK:=ml (PySem.W.mg_of X G (v:=(.str "back" 365)) z_)
 g_CUT:=ml (PySem.W.mg_of X G (v:=(.str "cut" 415)) z_)
 g_MOST_WALKED:=D6 (PySem.W.mg_of X G (v:=(.int 300 421)) z_)
 g_ON:=ml (PySem.W.mg_of X G (v:=(.str "on" 363)) z_)
 g_SPLIT:=ml (PySem.W.mg_of X G (v:=(.str "split" 419)) z_)
 g_TURNED:=ml (PySem.W.mg_of X G (v:=(.str "turned" 417)) z_)
theorem walkF(w:World)(mg:Str→Option Value)(fa:Addr)(h:Heap)(X:(Hd.Kf w.params).In h)(G:h.Ns mainGlobals mg) (hmg:mg "law"=some (.ref fa)) :
  ∃ fd:FuncData,(∀(s:Shared)(u:Value),BindsTo s fd ⟨[u],[]⟩ [("_law_script",u)])∧∀ base:Heap,(Hd.Kf w.params).In base→base.Ns mainGlobals mg→FnOk PySem.Challenge.pw_ringloads_k47_whole_trees_bar_all w (Hd.Kf w.params) mg base CX0 13 fa fd ["_law_script"] (spF (Hd.Kf w.params) 1 fs_law):=by
 have T:=tx X G
 have e:=hmg.symm.trans T.x_law.m
 cases e
 exact⟨_,fun s v=>.of_eq rfl,fun base _ _=>Lx T⟩
theorem tabR(w:World):∀x∈L2.lamNames,PySem.W.tabIn (Hd.Kf w.params) x=none∨((PyProof.Rows.recsOf Hd.q).find? λe=>e.name == x).isSome=true:=by
 intro x hx;simp only[L2.lamNames,SK,List.not_mem_nil,or_false]at hx;rcases hx with rfl|rfl|rfl
 . exact .inl z_
 . exact .inl z_
 . exact .inl z_
theorem walk{l:PySem.W.OpenLaw}{q:Program}{loose:List Str}{XP:(Str->Option Value)->Heap->Prop}{YP:World->Heap->Prop}{d:DefRec}{K:Params->PySem.W.Frag}(hn:l.most=some 63)(hq:PyProof.Rows.importsNone q=true)(hdf:d.params.defaults=[])
  (hY:∀(w:World)(h:Heap),YP w h->(K w.params).In h) (hto:∀w:World,L2.tabsOk (K w.params)=true) (hrc:∀(w:World),∀x∈L2.lamNames,PySem.W.tabIn (K w.params) x=none∨((PyProof.Rows.recsOf q).find? λe=>e.name == x).isSome=true)
  (F:∀(w:World)(mg:Str->Option Value)(fa:Addr)(h:Heap),(K w.params).In h->h.Ns mainGlobals mg->mg d.name=some (.ref fa) ->
   ∃ fd:FuncData,(∀(s:Shared)(u:Value),BindsTo s fd ⟨[u],[]⟩ [("_law_script",u)])/\∀ base:Heap,(K w.params).In base->base.Ns mainGlobals mg->FnOk l.prog w (K w.params) mg base CX0 13 fa fd ["_law_script"] (spF (K w.params) 1 fs_law)) :
  PySem.W.WalkO q loose XP YP l.row.toRowW d [] (λf vs=>PySem.call f vs) :=
 L2.walk_of (n:=63) (k:=13) (x:="_law_script") (CX:=λ_=>CX0) (sp:=λw=>spF (K w.params) 1 fs_law) hn hq x_ hdf ⟨rfl,x_,x_,rfl⟩ hY hto hrc F (λ_ H a ns hl hO hS=>Bx hl hO hS (C7 hl)) λ_ _ _ _ _ z=>z
end My
open PySem PySem.W PyProof.Rows
noncomputable abbrev PySem.W.Fast.tw1860762024783500847:PySem.Program:=PySem.Challenge.pw_ringloads_k47_whole_trees_bar_all
theorem PySem.W.Fast.te1860762024783500847:PySem.Challenge.pw_ringloads_k47_whole_trees_bar_all=PySem.W.Fast.tw1860762024783500847:=rfl
set_option maxRecDepth 100000 in
theorem PySem.Challenge.cw_ringloads_k47_whole_trees_bar_all_holds : PySem.Challenge.rw_ringloads_k47_whole_trees_bar_all.Holds := by
 w_on;o_law
 refine PySem.W.holds_open (q:=Hd.q) (loose:=Hd.loose) (Xt:=Hd.Xt) (XP:=XL Hd.q []) (Yf:=Hook.obs Hd.Hk) (Ya:=Hook.val Hd.Hk) (YP:=Hook.says Hd.Hk) (N:=_) Hd.left (Hook.of Hd.Hk) (Hook.keeps Hd.Hk) (fun s e=>xl_of s (Bool.and_eq_true_iff.mp e).1) XL.keeps (by rfl) (by rfl) (by rfl) (fun s e=>recFacts_of (Bool.and_eq_true_iff.mp e).2) (by rfl) (by assumption) y_ ⟨rfl,rfl,rfl,rfl,rfl,y_⟩ ?hw ?hc
 case hw=>w_witness2
 case hc=>exact My.walk (l:=PySem.Challenge.rw_ringloads_k47_whole_trees_bar_all) (K:=Hd.Kf) rfl y_ rfl (fun w h Y=>PySem.W.kIn_of Y) (fun w=>by kernel_rfl) My.tabR My.walkF