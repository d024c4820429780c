import PyProof.Rows.All
import Wide.All
import OpenK.AllK
import Wide.FinOn
import Lean
import PyProof.EqAt
import PyProof.EqKinds
import PyProof.TupleCall
import PyProof.ExcArgs
import KE.KSortKey
import KE.KIsAll
import PyProof.ExcInit
import PyProof.StationsW
import PyProof.NsDelKeeps
import PyProof.RulesAs
import PyProof.PassesOwn
import PyProof.ExcBaseAll.ValueError
import PyProof.InstStoreFacts
import PyProof.Rows.EqDataRows
import PyProof.ReprRoads
import PyProof.Rows.Range3
import PyProof.ConsumeWalk
import PyProof.FString5
import PyProof.ReprLen
import PyProof.Rows.TupAdd
import PyProof.Rows.RuleIs
import PyProof.ListNew
import KE.KRevIter
import PyProof.Rows.SeqMore2
import PyProof.ListRange
import KE.KEqDict
import PyProof.NeKinds
import PyProof.CallStr
import PyProof.ListMulAny
import PyProof.Rows.SetFrom
import PyProof.SetRoads
import KE.KSortTup
import PySem.Challenge.RW_ringloads_k40_whole_chains_rounded
set_option Elab.async false
set_option linter.all false
set_option maxRecDepth 100000
set_option maxHeartbeats 0
theorem z_ {α:Sort _} {a b:α} (h:a=b:=by kernel_rfl):a=b:=h
theorem y_ {p:Prop} [Decidable p] (h:decide p=true:=by decide +kernel):p:=of_decide_eq_true h
theorem x_ {p:Prop} [Decidable p] (h:decide p=true:=by decide):p:=of_decide_eq_true h
theorem xL{p:Prop}(h:p:=by omega):p:=h
theorem v6{p:Prop}(h:p:=by simp):p:=h
section
open PySem PySem.Spec PyProof.Rows PySem.W
theorem tu:type_of% @List.mem_cons_of_mem:=@List.mem_cons_of_mem
theorem Uw:type_of% @wpAny_bind:=@wpAny_bind
theorem Ux:type_of% @List.getElem?_eq_getElem:=@List.getElem?_eq_getElem
theorem Uy:type_of% @Heap.get?_push_of_some:=@Heap.get?_push_of_some
theorem Uz:type_of% @List.mem_cons_self:=@List.mem_cons_self
theorem UA:type_of% @List.getElem?_eq_some_iff:=@List.getElem?_eq_some_iff
theorem UB:type_of% @Nat.lt_of_lt_of_le:=@Nat.lt_of_lt_of_le
theorem UC:type_of% @List.length_map:=@List.length_map
theorem UD:type_of% @List.getElem_mem:=@List.getElem_mem
theorem UE:type_of% @List.getD_eq_getElem?_getD:=@List.getD_eq_getElem?_getD
theorem UF:type_of% @Heap.lt_size:=@Heap.lt_size
theorem UG:type_of% @decide_eq_true_eq:=@decide_eq_true_eq
theorem UH:type_of% @wpAny_pure:=@wpAny_pure
theorem UI:type_of% @Nat.lt_of_le_of_lt:=@Nat.lt_of_le_of_lt
theorem UJ:type_of% @Nat.le_refl:=@Nat.le_refl
theorem UK:type_of% @List.mem_cons:=@List.mem_cons
end
theorem UL{p:Prop}(h:p:=by exact λ_ _=>rfl):p:=h
theorem UM{p:Prop}(h:p:=by exact λ_ _ _ _ _ _ u l=>match u,l with | [_],_=>rfl):p:=h
theorem UN{p:Prop}(h:p:=by exact λ_ _ _ _ _ _ u l=>match u,l with | [_,_],_=>rfl):p:=h
theorem UO{p:Prop}(h:p:=by exact λ_ _ _ _ _ _ u l=>match u,l with | [_,_,_],_=>rfl):p:=h
theorem UP{p:Prop}(h:p:=by exact λ_ _ _ _ _ _ u l=>match u,l with | [_,_,_,_],_=>rfl):p:=h
namespace L2
open PySem PySem.Spec PyProof.Rows
noncomputable abbrev Pu:=Sum Int Str
noncomputable def Aw:Pu->Value->Bool
 |.inl k,v=>Value.isInt k v
 |.inr x,v=>Value.isStrOf x v
noncomputable def OO(w:World):Pu->Int
 |.inl k=>hashInt k
 |.inr x=>hashStr w x
theorem bS:∀{k:Pu}{v:Value},Aw k v=true->(∃i t,k=Sum.inl i/\v=Value.int i t)∨(∃x t,k=Sum.inr x/\v=Value.str x t)
 | .inl i,v,h=>by obtain⟨t,e⟩:=Value.isInt_shape (k:=i) (v:=v) h;exact .inl ⟨i,t,rfl,e⟩
 | .inr x,v,h=>by obtain⟨t,e⟩:=Value.isStrOf_shape (x:=x) (v:=v) h;exact .inr ⟨x,t,rfl,e⟩
theorem BF(i:Int)(t:Tok):Aw (.inl i) (.int i t)=true:=by simp[Aw,Value.isInt]
theorem BG(x:Str)(t:Tok):Aw (.inr x) (.str x t)=true:=by simp[Aw,Value.isStrOf]
theorem Kt(a b:Int):decide ((Sum.inl a:Pu)=Sum.inl b)=(a == b):=by
 by_cases e:a=b
 . subst e;simp
 . have h:¬(Sum.inl a:Pu)=Sum.inl b:=λq=>e (Sum.inl.inj q);rw[decide_eq_false h];exact(beq_eq_false_iff_ne.mpr e).symm
theorem Ku(a b:Str):decide ((Sum.inr a:Pu)=Sum.inr b)=decide (a=b):=by
 by_cases e:a=b
 . subst e;simp
 . have h:¬(Sum.inr a:Pu)=Sum.inr b:=λq=>e (Sum.inr.inj q);rw[decide_eq_false h,decide_eq_false e]
theorem Kv(a:Int)(b:Str):decide ((Sum.inl a:Pu)=Sum.inr b)=false:=decide_eq_false (λq=>nomatch q)
theorem Kw(a:Str)(b:Int):decide ((Sum.inr a:Pu)=Sum.inl b)=false:=decide_eq_false (λq=>nomatch q)
noncomputable def nL(prog:Program)(w:World):PySem.KeyKind prog w Pu where
 is:=Aw
 hash:=OO w
 inj:=λv a b ha hb=>by
  rcases bS ha with⟨i,t,rfl,rfl⟩|⟨x,t,rfl,rfl⟩
  .
   rcases bS hb with⟨j,u,rfl,e⟩|⟨y,u,rfl,e⟩
   . injection e with e1 _;rw[e1]
   . exact nomatch e
  .
   rcases bS hb with⟨j,u,rfl,e⟩|⟨y,u,rfl,e⟩
   . exact nomatch e
   . injection e with e1 _;rw[e1]
 byValue:=λk v h=>by rcases bS h with⟨i,t,rfl,rfl⟩|⟨x,t,rfl,rfl⟩<;>rfl
 pyHash:=λhv h=>by
  rcases bS hv with⟨i,t,rfl,rfl⟩|⟨x,t,rfl,rfl⟩
  . exact wpAny_pyHash_int h
  . exact wpAny_pyHash_str h
 eqBool:=λhu hv h=>by
  rcases bS hu with⟨i,t,rfl,rfl⟩|⟨x,t,rfl,rfl⟩
  .
   rcases bS hv with⟨j,u,rfl,rfl⟩|⟨y,u,rfl,rfl⟩
   . rw[Kt]at h;exact wpAny_eqBool_int h
   . rw[Kv]at h;exact SeqAt.EqAt.int_str i t y u _ _ _ _ h
  .
   rcases bS hv with⟨j,u,rfl,rfl⟩|⟨y,u,rfl,rfl⟩
   . rw[Kw]at h;exact SeqAt.EqAt.str_int x t j u _ _ _ _ h
   . rw[Ku]at h;exact wpAny_eqBool_str h
 «strs»:=λk x t v h=>by
  rcases bS h with⟨i,u,rfl,e⟩|⟨y,u,rfl,e⟩
  . exact nomatch e
  . injection e with e1 _;subst e1;cases v<;>rfl
theorem xx(prog:Program)(w:World)(i:Int)(t:Tok):(nL prog w).is (.inl i) (.int i t)=true:=BF i t
theorem xy(prog:Program)(w:World)(x:Str)(t:Tok):(nL prog w).is (.inr x) (.str x t)=true:=BG x t
inductive V where
 |non|bl (b:Bool)|int (i:Int)|str (x:Str)|byt (b:Array UInt8)|flt (b:UInt64)|ref (a:Addr)|ty (n:String)
 deriving DecidableEq
def b8:V->Value->Prop
 |.non,u=>u=Value.none
 |.bl b,u=>u=Value.bool b
 |.int i,u=>∃t,u=Value.int i t
 |.str x,u=>∃t,u=Value.str x t
 |.byt b,u=>∃t,u=Value.bytes b t
 |.flt b,u=>∃t,u=Value.float b t
 |.ref a,u=>u=Value.ref a
 |.ty n,u=>u=Value.type n
abbrev bO:List V->List Value->Prop:=Paired b8
theorem bO.length{xs:List V}{us:List Value}(r:bO xs us):xs.length=us.length:=Paired.length r
theorem bO.get:∀{xs:List V}{us:List Value}{i:Nat}{x:V},bO xs us->xs[i]?=some x->∃u,us[i]?=some u/\b8 x u
 |_,_,_,_,.nil,e=>by simp at e
 |_,_,0,_,.cons r _,e=>by simp at e;subst e;exact⟨_,rfl,r⟩
 | _,_,i+1,x,.cons _ t,e=>by obtain⟨u,h1,h2⟩:=bO.get (i:=i) (x:=x) t (by simpa using e);exact⟨u,by simpa using h1,h2⟩
theorem bO.set{x:V}{u:Value}(r:b8 x u):∀{xs:List V}{us:List Value}(i:Nat),bO xs us->bO (xs.set i x) (us.set i u)
 |_,_,_,.nil=>.nil
 |_,_,0,.cons _ t=>.cons r t
 |_,_,i+1,.cons q t=>.cons q (bO.set r i t)
theorem bO.append:∀{xs ys:List V}{us ws:List Value},bO xs us->bO ys ws->bO (xs++ys) (us++ws)
 |_,_,_,_,.nil,s=>s
 |_,_,_,_,.cons r t,s=>.cons r (bO.append t s)
theorem bO.take:∀{xs:List V}{us:List Value}(n:Nat),bO xs us->bO (xs.take n) (us.take n)
 |_,_,0,_=>.nil
 |_,_,_+1,.nil=>.nil
 |_,_,n+1,.cons r t=>.cons r (bO.take n t)
theorem bO.drop:∀{xs:List V}{us:List Value}(n:Nat),bO xs us->bO (xs.drop n) (us.drop n)
 |_,_,0,r=>r
 |_,_,_+1,.nil=>.nil
 |_,_,n+1,.cons _ t=>bO.drop n t
def GS:Option V->Option Value->Prop
 |some v,some u=>b8 v u
 |none,none=>True
 |_,_=>False
def KV{κ:Type}:List (κ×V)->List (κ×Value)->Prop:=Paired λ(p:κ×V) (q:κ×Value)=>p.1=q.1/\b8 p.2 q.2
noncomputable def kV:Pu->V
 |.inl i=>.int i
 |.inr x=>.str x
inductive HO where
 |lst (xs:List V)
 |tup (xs:List V)
 |dK (kvs:List (Pu×V))|dT (kvs:List (List Pu×V))
 |set (S:Int->Bool) (n:Nat)
 |ins (C dx:Addr) (fs:List (Str×V))
 |own (x:Addr)
 |xd (fs:List (Str×V))
 |met (f x:Addr)
 |rng (lo hi:Int)
 |frz (o:Obj) (u:HO)
 |tbl (q:Str)
 |ext (φ:Heap->Prop)
noncomputable abbrev Hp:=Addr->Option HO
noncomputable def Pv(H:Hp)(a:Addr)(o:HO):Hp:=λb=>if b=a then some o else H b
theorem aX{H:Hp}{a:Addr}{o:HO}:Pv H a o a=some o:=by unfold Pv;rw[if_pos rfl]
theorem ay{H:Hp}{a b:Addr}{o:HO}(h:b≠a):Pv H a o b=H b:=by unfold Pv;rw[if_neg h]
theorem bb{H:Hp}{a b:Addr}{o:HO}(h:H a=some o)(h':H b=none):a≠b:=by intro e;subst e;rw[h]at h';cases h'
def oP(oc:Obj)(q:Str):Prop:=∃vs t,oc.data=.fields vs/\vs[1]?=some (.str q t)
section
variable(P:Program)(w:World)
def d3(H:Hp)(h:Heap)(a:Addr):HO->Prop
 |.lst xs=>xs.length<=sizeLine/\∃(its:List Value)(n:Nat),bO xs its/\h.get? a=some {cls:=.type "list",data:=.seq its.toArray n}
 |.tup xs=>xs.length<=sizeLine/\∃its:List Value,bO xs its/\IsTup h a its.toArray
 |.dK kvs=>kvs.length<=sizeLine/\(a == sysModules)=false/\∃vs,KV kvs vs/\h.DictOf (nL P w) a vs
 | .dT kvs=>kvs.length<=sizeLine/\(a == sysModules)=false/\∃xs:List (List Pu×Addr×Value),
   Paired (λ(p:List Pu×V) (q:List Pu×Addr×Value)=>p.1=q.1/\H q.2.1=some (.tup (p.1.map kV))/\b8 p.2 q.2.2) kvs xs /\
   ∃o es ep,h.get? a=some o/\o.ExactDict/\o.data=.dict es ep/\es.toList=xs.map (entryOfKey (tupleKind (nL P w)))/\(xs.map (·.1)).Nodup
 |.set S n=>h.SetOf (intKind P w) a S n
 | .ins C dx fs=>H dx=some (.own a)/\fs.length<=1000/\dx≠a/\h.get? a=some (PySem.W.instObj C dx) /\
   ∃mA,h.Ns1 dx mA/\(∀f,GS (fs.lookup f) (mA f))/\PySem.Within mA (fs.map (·.1))
 |.own _=>∃o,h.get? a=some o
 |.xd fs=>∃mA,h.Ns1 a mA/\∀f,GS (fs.lookup f) (mA f)
 |.rng lo hi=>∃ t u v,h.get? a=some {cls:=.type "range",data:=.fields #[.int lo t,.int hi u,.int 1 v] }
 |.frz o u=>h.get? a=some o/\d3 H h a u
 |.tbl q=>∃ps:Array Value,h.get? a=some {cls:=.none,data:=.fields ps}/\TriplesOk ps.toList/\∀pos cv,codeAmong pos ps.toList=some cv->∃c' oc,cv=.ref c'/\H c'=some (.frz oc (.own c'))/\oP oc q
 |.met f x=>h.get? a=some (PySem.W.methodObj (.ref f) (.ref x))
 |.ext φ=>φ h/\(∃o,h.get? a=some o)/\∀h1 h2:Heap,φ h1->(∀o,h1.get? a=some o->h2.get? a=some o)->φ h2
def Pw(H:Hp)(h:Heap):Prop:=∀a o,H a=some o->d3 P w H h a o
end
section
variable{P:Program}{w:World}{H H':Hp}{h h':Heap}{a:Addr}{o:HO}
theorem d3.lt(x:d3 P w H h a o):a<h.objs.size:=by
 cases o with
 |lst xs=>obtain⟨_,_,_,_,e⟩:=x;exact UF e
 |tup xs=>obtain⟨_,_,_,p⟩:=x;exact p.lt
 |dK kvs=>obtain⟨_,_,_,_,o,_,_,e,_⟩:=x;exact UF e
 |dT kvs=>obtain⟨_,_,_,_,o,_,_,e,_⟩:=x;exact UF e
 |set S n=>obtain⟨o,_,_,_,e,_⟩:=x;exact UF e
 |ins C dx fs=>obtain⟨_,_,_,e,_⟩:=x;exact UF e
 |own y=>obtain⟨_,e⟩:=x;exact UF e
 |xd fs=>obtain⟨_,⟨_,_,_,e,_⟩,_⟩:=x;exact UF e
 |rng lo hi=>obtain⟨_,_,_,e⟩:=x;exact UF e
 |frz ob u=>obtain⟨e,_⟩:=x;exact UF e
 |tbl q=>obtain⟨_,e,_⟩:=x;exact UF e
 |met f y=>exact UF (show h.get? a=some _ from x)
 |ext φ=>obtain⟨_,⟨_,e⟩,_⟩:=x;exact UF e
theorem Paired.mapP{α β:Type}{F G:α->β->Prop}:∀{l₁:List α}{l₂:List β},Paired F l₁ l₂->(∀a b,F a b->G a b)->Paired G l₁ l₂
 |_,_,.nil,_=>.nil
 |_,_,.cons r t,f=>.cons (f _ _ r) (Paired.mapP t f)
theorem d3.stay(x:d3 P w H h a o)(k:∀b u,(b=a∨H b=some (.own a))->h.get? b=some u->h'.get? b=some u)
  (ho:∀b,H b=some (.own a)->H' b=some (.own a)) (ht:∀b xs,H b=some (.tup xs)->H' b=some (.tup xs)) (hf:∀b o q,oP o q->H b=some (.frz o (.own b))->H' b=some (.frz o (.own b))):d3 P w H' h' a o:=by
 induction o with
 |lst xs=>obtain⟨z,its,n,r,e⟩:=x;exact⟨z,its,n,r,k _ _ (.inl rfl) e⟩
 |tup xs=>obtain⟨z,its,r,ob,e,c⟩:=x;exact⟨z,its,r,ob,k _ _ (.inl rfl) e,c⟩
 |dK kvs=>obtain⟨z,y,vs,r,ob,es,ep,e,c⟩:=x;exact⟨z,y,vs,r,ob,es,ep,k _ _ (.inl rfl) e,c⟩
 | dT kvs =>
  obtain⟨z,y,xs,r,ob,es,ep,e,c⟩:=x;exact⟨z,y,xs,Paired.mapP r λp q z=>⟨z.1,ht _ _ z.2.1,z.2.2⟩,ob,es,ep,k _ _ (.inl rfl) e,c⟩
 |set S n=>obtain⟨ob,es,ep,t,e,c⟩:=x;exact⟨ob,es,ep,t,k _ _ (.inl rfl) e,c⟩
 | ins C dx fs =>
  obtain⟨d,z,ne,e,mA,⟨od,es,ep,e2,c⟩,r⟩:=x;exact⟨ho _ d,z,ne,k _ _ (.inl rfl) e,mA,⟨od,es,ep,k _ _ (.inr d) e2,c⟩,r⟩
 |own y=>obtain⟨ob,e⟩:=x;exact⟨ob,k _ _ (.inl rfl) e⟩
 |xd fs=>obtain⟨mA,⟨od,es,ep,e,c⟩,r⟩:=x;exact⟨mA,⟨od,es,ep,k _ _ (.inl rfl) e,c⟩,r⟩
 |rng lo hi=>obtain⟨t,u,v,e⟩:=x;exact⟨t,u,v,k _ _ (.inl rfl) e⟩
 |frz ob u ih=>obtain⟨e,q⟩:=x;exact⟨k _ _ (.inl rfl) e,ih q⟩
 | tbl q =>
  obtain⟨ps,e,tr,m⟩:=x
  exact⟨ps,k a _ (.inl rfl) e,tr,λpos cv z=>let ⟨c',oc,a1,a2,a3⟩:=m pos cv z;⟨c',oc,a1,hf _ _ _ a3 a2,a3⟩⟩
 | met f y =>
  have e:h.get? a=some (PySem.W.methodObj (.ref f) (.ref y)):=x;show h'.get? a=some (PySem.W.methodObj (.ref f) (.ref y));exact k a _ (.inl rfl) e
 |ext φ=>obtain⟨p,⟨o,e⟩,st⟩:=x;exact⟨st _ _ p λo q=>k _ _ (.inl rfl) q,⟨o,k _ _ (.inl rfl) e⟩,st⟩
theorem Pw.lt(x:Pw P w H h)(e:H a=some o):a<h.objs.size:=(x a o e).lt
theorem Pw.fresh(x:Pw P w H h)(e:h.objs.size<=a):H a=none:=by
 cases q:H a with
 |none=>rfl
 |some u=>exact absurd (UB (x.lt q) e) (Nat.lt_irrefl _)
theorem Pw.kept(x:Pw P w H h)(k:∀b u,h.get? b=some u->h'.get? b=some u):Pw P w H h':=λa o e =>
 (x a o e).stay (λb u _ q=>k b u q) (λ_ q=>q) (λ_ _ q=>q) λ_ _ _ _ q=>q
theorem Pw.laid(x:Pw P w H h)(k:∀b u,h.get? b=some u->h'.get? b=some u)(hp:h.objs.size<=a)(new:d3 P w (Pv H a o) h' a o):Pw P w (Pv H a o) h':=λb u e=>by
 have hn:=x.fresh hp;by_cases hb:b=a
 . subst hb;rw[aX]at e;cases e;exact new
 . rw[ay hb]at e;exact(x b u e).stay (λc v _ q=>k c v q) (λc q=>by rw[ay (bb q hn)];exact q) (λc xs q=>by rw[ay (bb q hn)];exact q) λc ob _ _ q=>by rw[ay (bb q hn)];exact q
end
def Rd(H:Hp)(a:Addr)(u:HO):Prop:=H a=some u∨∃o,H a=some (.frz o u)
theorem Rd.ok{P:Program}{w:World}{H:Hp}{h:Heap}{a:Addr}{u:HO}(r:Rd H a u)(x:Pw P w H h):d3 P w H h a u:=by
 rcases r with r|⟨o,r⟩
 . exact x a u r
 . obtain⟨_,q⟩:=x a _ r;exact q
def Px:Option HO->Prop
 |some (.lst _)=>True
 |some (.dK _)=>True
 |some (.dT _)=>True
 |some (.set _ _)=>True
 |some (.ins _ _ _)=>True
 |some (.ext _)=>True
 |_=>False
section
variable{P:Program}{w:World}{H:Hp}{h h':Heap}{x e:Addr}{o':HO}
theorem Pw.write(ok:Pw P w H h)(mu:Px (H x))(he:e=x∨H e=some (.own x))(k:∀b u,b≠e->h.get? b=some u->h'.get? b=some u)(heo:∃u,h'.get? e=some u)
  (new:d3 P w (Pv H x o') h' x o'):Pw P w (Pv H x o') h':=λb u q=>by
 have nown:∀c y,H c=some (.own y)->c≠x:=λc y r z=>by subst z;rw[r]at mu;exact mu
 have ntup:∀c xs,H c=some (.tup xs)->c≠x:=λc xs r z=>by subst z;rw[r]at mu;exact mu
 have nfrz:∀c o u,H c=some (.frz o u)->c≠x:=λc o u r z=>by subst z;rw[r]at mu;exact mu
 by_cases hb:b=x
 . subst hb;rw[aX]at q;cases q;exact new
 .
  rw[ay hb]at q;by_cases hbe:b=e
  .
   have q':H b=some (.own x):=by
    rcases he with z|z
    . exact absurd (hbe.trans z) hb
    . rw[hbe];exact z
   rw[q]at q';cases q';obtain⟨v,hv⟩:=heo;exact⟨v,by rw[hbe];exact hv⟩
  .
   refine(ok b u q).stay (λc v hc r=>k c v ?_ r) (λc r=>by rw[ay (nown c b r)];exact r) (λc xs r=>by rw[ay (ntup c xs r)];exact r) λc ob _ _ r=>by rw[ay (nfrz c ob _ r)];exact r
   rcases hc with rfl|hc
   . exact hbe
   .
    rintro rfl;rcases he with z|z
    . exact nown c b hc z
    . rw[hc]at z;cases z;exact hb rfl
end
structure Un (fs ex:List Addr) (H H':Hp) (h h':Heap):Prop where
 keep:∀b o,h.get? b=some o->H b=none->b∉fs->b∉ex->h'.get? b=some o
 slot:∀b o,h.get? b=some o->H b=none->b∈fs->b∉ex->∃sl,h'.get? b=some {o with slots:=sl}
 free:∀b o,h.get? b=some o->H b=none->b∉ex->H' b=none
 there:∀b o,h.get? b=some o->b∉ex->∃o',h'.get? b=some o'
 tups:∀b xs,H b=some (.tup xs)->H' b=some (.tup xs)
 frzs:∀b o u,H b=some (.frz o u)->H' b=some (.frz o u)
 tbls:∀b q,H b=some (.tbl q)->H' b=some (.tbl q)
section
variable{fs fs' ex ex':List Addr}{H H1:Hp}{h h1 h':Heap}{a x e:Addr}{o:HO}
theorem Un.any(u:Un fs ex H H1 h h1){b:Addr}{ob:Obj}(q:h.get? b=some ob)(n:H b=none)(hx:b∉ex):∃sl,h1.get? b=some {ob with slots:=sl}:=by
 by_cases hb:b∈fs
 . exact u.slot b ob q n hb hx
 . exact⟨ob.slots,u.keep b ob q n hb hx⟩
theorem Un.kept(k:∀b u,h.get? b=some u->h'.get? b=some u):Un fs ex H H h h' :=
 ⟨λb ob q _ _ _=>k b ob q,λb ob q _ _ _=>⟨ob.slots,k b ob q⟩,λ_ _ _ n _=>n,λb ob q _=>⟨ob,k b ob q⟩,λ_ _ q=>q,λ_ _ _ q=>q,λ_ _ q=>q⟩
theorem Un.refl:Un fs ex H H h h:=Un.kept λ_ _ q=>q
theorem Un.laid(k:∀b u,h.get? b=some u->h'.get? b=some u)(hp:h.objs.size<=a)(hn:H a=none):Un fs ex H (Pv H a o) h h' where
 keep:=λb u q _ _ _=>k b u q
 slot:=λb u q _ _ _=>⟨u.slots,k b u q⟩
 free:=λb u q n _=>by rw[ay (Nat.ne_of_lt (UB (UF q) hp))];exact n
 there:=λb u q _=>⟨u,k b u q⟩
 tups:=λb xs q=>by rw[ay (bb q hn)];exact q
 frzs:=λb u xs q=>by rw[ay (bb q hn)];exact q
 tbls:=λb ps q=>by rw[ay (bb q hn)];exact q
theorem Un.write(mu:Px (H x))(he:e=x∨H e=some (.own x))(k:∀b u,b≠e->h.get? b=some u->h'.get? b=some u)(heo:∃u,h'.get? e=some u):Un fs ex H (Pv H x o) h h':=by
 have hx:∀b,H b=none->b≠x:=λb n z=>by subst z;rw[n]at mu;exact mu
 have hb:∀b,H b=none->b≠e:=λb n z=>by
  subst z;rcases he with r|r
  . exact hx b n r
  . rw[n]at r;cases r
 have hm:∀b u,H b=some u->¬Px (some u)->b≠x:=λb u q nm z=>by subst z;rw[q]at mu;exact nm mu
 refine⟨λb u q n _ _=>k b u (hb b n) q,λb u q n _ _=>⟨u.slots,k b u (hb b n) q⟩,λb u q n _=>by rw[ay (hx b n)];exact n,λb u q _=>?_,
  λb xs q=>by rw[ay (hm b _ q λz=>z)];exact q,λb u xs q=>by rw[ay (hm b _ q λz=>z)];exact q,λb ps q=>by rw[ay (hm b _ q λz=>z)];exact q⟩
 by_cases hbe:b=e
 . subst hbe;exact heo
 . exact⟨u,k b u hbe q⟩
theorem Un.mono(u:Un fs ex H H1 h h1)(hs:∀b∈fs,b∈fs')(hx:∀b∈ex,b∈ex'):Un fs' ex' H H1 h h1 :=
 ⟨λb ob q n hb he=>u.keep b ob q n (λz=>hb (hs b z)) λz=>he (hx b z),λ_ _ q n _ he=>u.any q n λz=>he (hx _ z),λb ob q n he=>u.free b ob q n λz=>he (hx b z),λb ob q he=>u.there b ob q λz=>he (hx b z),u.tups,u.frzs,u.tbls⟩
end
noncomputable def Py(h:Heap)(H:Hp):List Addr:=(List.range h.objs.size).filter λa=>(H a).isSome
noncomputable def El(h:Heap)(H:Hp):Heap:=PySem.W.hideAll h (Py h H)
theorem BH(h:Heap)(H:Hp):(El h H).objs.size=h.objs.size:=PySem.W.hideAll_size _ _
theorem Em{h:Heap}{H:Hp}{b:Addr}{o:Obj}(e:h.get? b=some o)(n:H b=none):(El h H).get? b=some o :=
 PySem.W.hideAll_get _ e λhm=>by have q:(H b).isSome=true:=(List.mem_filter.mp hm).2;rw[n]at q;simp at q
theorem HH{h:Heap}{H:Hp}{b:Addr}{o:Obj}(e:(El h H).get? b=some o):h.get? b=some o/\H b=none:=by
 have e':h.get? b=some o:=PySem.W.of_hideAll (Py h H) e;refine⟨e',?_⟩
 cases q:H b with
 |none=>rfl
 | some x =>
  have hm:b∈Py h H:=List.mem_filter.mpr ⟨List.mem_range.mpr (UF e'),by simp[q]⟩;have z:(El h H).get? b=none:=PySem.W.hideAll_none (Py h H) hm;rw[z]at e;cases e
noncomputable def nM(g h:Heap)(L:Addr):List (Addr×Obj):=(List.range h.objs.size).filterMap λa=>if a=L∨(g.get? a).isSome=true then none else(h.get? a).map λo=>(a,o)
theorem l6{g h:Heap}{L a:Addr}{o:Obj}(h1:a≠L)(h2:g.get? a=none)(h3:h.get? a=some o):(a,o)∈nM g h L :=
 List.mem_filterMap.mpr ⟨a,List.mem_range.mpr (UF h3),by simp[h1,h2,h3]⟩
theorem lx{g h:Heap}{L:Addr}{p:Addr×Obj}(hp:p∈nM g h L):p.1≠L/\g.get? p.1=none/\h.get? p.1=some p.2:=by
 obtain⟨b,_,e⟩:=List.mem_filterMap.mp hp;split at e
 . cases e
 .
  rename_i hn
  cases q:h.get? b with
  |none=>rw[q]at e;simp at e
  | some u =>
   rw[q]at e;simp only[Option.map_some,Option.some.injEq]at e;subst e;refine⟨λz=>hn (.inl z),?_,q⟩;show g.get? b=none
   cases r:g.get? b with
   |none=>rfl
   |some v=>exact(hn (.inr (by simp[r]))).elim
noncomputable def rest(g h:Heap)(L d:Addr):List (Addr×Obj):=(nM g h L).filter λp=>decide (p.1≠d)
theorem zd{g h:Heap}{L:Addr}:News g L h (nM g h L):=λp hp=>let ⟨a,b,c⟩:=lx hp;⟨c,a,b⟩
def Kx(mg:Str->Option Value)(h:Heap):Prop:=∃ bm ob,mg "__builtins__"=some (.ref bm)/\bm≠builtinsNs/\h.get? bm=some ob/\ob.cls=.type "module"/\ob.dict=some builtinsNs/\ob.data=.plain
noncomputable def lamNames:List Str:=["look_at_asks","by_lesser_place","look_at_string"]
noncomputable def sP(x:Str):Str:=(x++".<locals>.")++"<lambda>"
def Pz(K:PySem.W.Frag)(H:Hp):Prop:=∀x∈lamNames,∀c P,PySem.W.tabIn K x=some (c,P)->H P=some (.tbl (sP x))
theorem Pz.un{K:PySem.W.Frag}{fs ex:List Addr}{H H':Hp}{h h':Heap}(t:Pz K H)(u:Un fs ex H H' h h'):Pz K H':=λx hx c P e=>u.tbls _ _ (t x hx c P e)
structure Mod (K:PySem.W.Frag) (mg:Str->Option Value) (base:Heap):Prop where
 kin:K.In base
 glob:base.Ns mainGlobals mg
 blt:∃ mb,base.Ns builtinsNs mb/\∀ x:Str,x≠"__name__"->mb x=bootBuiltins x
 nolimit:base.NoLimit
 sysm:∃mm,base.Ns sysModules mm
 bmn:Kx mg base
 cds:∀x∈lamNames,∀c P,PySem.W.tabIn K x=some (c,P)->PySem.W.CodeHd base c P
/-- the context: a def's body (or a comprehension's HI) running. base: fixed through the whole law;s₀,H₀: the entry;outer: the frames whose slots others may change (a def's callers);stack: all frames that run;
  ex: iterators that were made ahead of the entry and are walked here (a comprehension's);fn: the names whose cells were made at the entry (a def: all;a comprehension's HI: its own);calm: not BI an except suite;pn: gV that every state bears;xe: what is wanted of an exception that leaves the code -/
structure Cx where
 prog:Program
 w:World
 K:PySem.W.Frag
 mg:Str->Option Value
 base:Heap
 A:Around
 N:List Str
 s₀:Shared
 H₀:Hp
 env:Env
 outer:List Env
 stack:List Env
 ex:List Addr
 fn:Str->Bool
 calm:Bool
 pn:List (Addr×Obj)
 xe:Value->Shared->Prop
noncomputable def PD(l:List Env):List Addr:=l.filterMap (·.frame)
noncomputable abbrev Cx.fs(X:Cx):List Addr:=PD X.outer
def PF(sc:Scope)(x:Str):Prop:=sc.names.lookup x=some .local∨sc.names.lookup x=some .cell∨sc.names.lookup x=some .free
def PH(sc:Scope)(x:Str):Prop:=sc.names.lookup x=some .local∨sc.names.lookup x=some .cell
def OP(env:Env)(h:Heap)(m:Str->Option Value)(x:Str)(u:Value):Prop :=
 (env.kindOf x=some .local/\m x=some u)∨((env.kindOf x=some .cell∨env.kindOf x=some .free)/\∃c,env.cells.lookup x=some c/\h.IsCell c (some u))
structure Cx.Ok (X:Cx):Prop where
 mod:Mod X.K X.mg X.base
 kind:X.env.scope.kind=.function
 glob:X.env.globals=mainGlobals
 blt:X.env.builtins=builtinsNs
 above:X.s₀.heap.objs.size<=X.env.locals
 inj:∀x y c,X.env.cells.lookup x=some c->X.env.cells.lookup y=some c->x=y
 has:∀x,(X.env.kindOf x=some .cell∨X.env.kindOf x=some .free)->∃c,X.env.cells.lookup x=some c
 cab:∀x c,X.fn x=true->X.env.cells.lookup x=some c->X.s₀.heap.objs.size<=c
 hd:X.calm=true->X.A.handled=none
 frames:X.A.frames=some X.stack
 stk:X.stack=X.outer∨(X.stack=X.env::X.outer/\X.env.frame=some X.env.locals)
 exf:∀b∈X.ex,b≠X.env.locals/\∀x c,X.env.cells.lookup x=some c->c≠b
 bs:∀b o,X.base.get? b=some o->X.s₀.heap.get? b=some o/\X.H₀ b=none
 bsz:X.base.objs.size<=X.s₀.heap.objs.size
 noex:∀b o,X.base.get? b=some o->b∉X.ex
 exfs:∀b∈X.ex,b∉X.fs
 funs:X.s₀.heap.FunFrames X.base X.outer
 frf:∀b∈X.fs,X.H₀ b=none
 tbs:Pz X.K X.H₀
structure PJ (X:Cx) (gV:List (Addr×Obj)) (σ:List (Option V)) (H:Hp) (s:Shared):Prop where
 ok:X.Ok
 os:s.os=X.s₀.os
 bare:AllBare s.gens
 base:Un X.fs X.ex X.H₀ H X.s₀.heap s.heap
 loc:∃m,s.heap.Ns X.env.locals m/\∀(i:Nat)(x:Str)(v:V),X.N[i]?=some x->σ[i]?=some (some v)->PF X.env.scope x->∃u,b8 v u/\OP X.env s.heap m x u
 cell:∀x c,X.env.cells.lookup x=some c->∃v,s.heap.IsCell c v
 free:H X.env.locals=none
 freeC:∀x c,X.env.cells.lookup x=some c->H c=none∨(X.fn x=false/\∃o,H c=some (.frz o (.own c)))
 pin:∀p∈X.pn++gV,s.heap.get? p.1=some p.2/\H p.1=none/\p.1≠X.env.locals/\p.1∉X.fs/\∀v,p.2.data≠.cell v
 hok:Pw X.prog X.w H s.heap
 len:σ.length=X.N.length
section
variable{X:Cx}{gV:List (Addr×Obj)}{σ:List (Option V)}{H H':Hp}{s:Shared}{h':Heap}
theorem Cx.Ok.nofr(ok:X.Ok){b:Addr}{o:Obj}(e:X.base.get? b=some o):b∉X.fs:=λhb=>by have:=(ok.funs.mem hb).1;rw[e]at this;cases this
theorem PJ.bs(I:PJ X gV σ H s):∀b o,X.base.get? b=some o->s.heap.get? b=some o/\H b=none:=λb o e =>
 ⟨I.base.keep b o (I.ok.bs b o e).1 (I.ok.bs b o e).2 (I.ok.nofr e) (I.ok.noex b o e),I.base.free b o (I.ok.bs b o e).1 (I.ok.bs b o e).2 (I.ok.noex b o e)⟩
theorem PJ.bk(I:PJ X gV σ H s):∀b o,X.base.get? b=some o->s.heap.get? b=some o:=λb o e=>(I.bs b o e).1
theorem PJ.tbs(I:PJ X gV σ H s):Pz X.K H:=I.ok.tbs.un I.base
theorem PJ.mod(I:PJ X gV σ H s):Mod X.K X.mg X.base:=I.ok.mod
theorem PJ.kIn(I:PJ X gV σ H s):X.K.In s.heap:=I.ok.mod.kin.keeps I.bk
theorem PJ.fr(I:PJ X gV σ H s):∃m,Fr X.base X.env.locals s.heap m :=
 let ⟨m,hn,_⟩:=I.loc
 ⟨m,hn,I.bk,Nat.le_trans I.ok.bsz I.ok.above⟩
theorem PJ.lt(I:PJ X gV σ H s):X.env.locals<s.heap.objs.size:=let ⟨_,hn,_⟩:=I.loc;hn.lt
theorem PJ.sz(I:PJ X gV σ H s):X.s₀.heap.objs.size<=s.heap.objs.size:=Nat.le_trans I.ok.above (Nat.le_of_lt I.lt)
theorem PJ.nofs(I:PJ X gV σ H s){a:Addr}(h:s.heap.objs.size<=a):a∉X.fs:=λhb=>by obtain⟨_,o,ho,_⟩:=I.ok.funs.mem hb;exact absurd (UB (UF ho) (Nat.le_trans I.sz h)) (Nat.lt_irrefl _)
theorem PJ.cne(I:PJ X gV σ H s):∀x c,X.env.cells.lookup x=some c->c≠X.env.locals:=λx c e z=>by obtain⟨v,o,ho,hd⟩:=I.cell x c e;obtain⟨m,⟨o',es,ep,ho',hd',_⟩,_⟩:=I.loc;rw[z,ho']at ho;cases ho;rw[hd']at hd;cases hd
theorem PJ.funs(I:PJ X gV σ H s):s.heap.FunFrames X.base X.outer:=by
 have all:∀(l:List Env),(∀b∈PD l,b∈X.fs)->X.s₀.heap.FunFrames X.base l->s.heap.FunFrames X.base l:=by
  intro l
  induction l with
  |nil=>intro _ _;trivial
  | cons env r ih =>
   intro hs hl;obtain⟨hk,⟨L,o,hf,hn,ho,hd⟩,hr⟩:=hl;have hL:L∈X.fs:=hs L (by unfold PD;rw[List.filterMap_cons,hf];exact Uz);obtain⟨sl,e⟩:=I.base.slot L o ho (I.ok.frf L hL) hL λz=>I.ok.exfs L z hL;exact⟨hk,⟨L,_,hf,hn,e,hd⟩,ih (λb hb=>hs b (by unfold PD;rw[List.filterMap_cons,hf];exact tu _ hb)) hr⟩
 exact all X.outer (λ_ hb=>hb) I.ok.funs
theorem PJ.stack(I:PJ X gV σ H s):s.heap.FunFrames X.base X.stack:=by
 rcases I.ok.stk with e|⟨e,hf⟩
 . rw[e];exact I.funs
 . rw[e];obtain⟨m,hn,_⟩:=I.loc;refine .cons (by rw[I.ok.kind];decide) hf hn ?_ I.funs;exact Heap.get?_none_of_le (Nat.le_trans I.ok.bsz I.ok.above)
theorem PJ.stkSub(I:PJ X gV σ H s):∀b∈PD X.stack,b∈X.env.locals::X.fs:=λb hb=>by
 rcases I.ok.stk with e|⟨e,hf⟩
 . rw[e]at hb;exact tu _ hb
 . rw[e]at hb;unfold PD at hb;rw[List.filterMap_cons,hf]at hb;exact hb
theorem PJ.stkFree(I:PJ X gV σ H s):∀b∈PD X.stack,H b=none:=λb hb=>by
 rcases UK.mp (I.stkSub b hb)with e|hb
 . rw[e];exact I.free
 . obtain⟨_,o,ho,_⟩:=I.ok.funs.mem hb;exact I.base.free b o ho (I.ok.frf b hb) λz=>I.ok.exfs b z hb
theorem PJ.step{g':Array GenState}{t':Nat}{d':Drawn}{ch:List Addr}(I:PJ X gV σ H s)
  (hch:∀b∈ch,(b∈X.ex∨X.s₀.heap.objs.size<=b)/\b≠X.env.locals/\(∀x c,X.env.cells.lookup x=some c->c≠b)/\∀p∈X.pn++gV,p.1≠b)
  (keep:∀b o,b≠X.env.locals->b∉X.fs->b∉ch->s.heap.get? b=some o->H b=none->h'.get? b=some o)
  (slot:∀b o,b≠X.env.locals->b∈X.fs->b∉ch->s.heap.get? b=some o->H b=none->∃sl,h'.get? b=some {o with slots:=sl}) (free:∀b o,b∉ch->s.heap.get? b=some o->H b=none->H' b=none)
  (there:∀b o,b∉ch->s.heap.get? b=some o->∃o',h'.get? b=some o')
  (tups:∀b xs,H b=some (.tup xs)->H' b=some (.tup xs)) (frzs:∀b o u,H b=some (.frz o u)->H' b=some (.frz o u)) (tbls:∀b q,H b=some (.tbl q)->H' b=some (.tbl q))
  (ns:∀m,s.heap.Ns X.env.locals m->h'.Ns X.env.locals m) (hok:Pw X.prog X.w H' h') (hg:AllBare g') :
  PJ X gV σ H' {s with heap:=h',gens:=g',drawn:=d',toks:=t' }:=by
 have neL:∀b o,X.s₀.heap.get? b=some o->b≠X.env.locals:=λb o e=>Nat.ne_of_lt (UB (UF e) I.ok.above)
 have neC:∀b o,X.s₀.heap.get? b=some o->b∉X.ex->b∉ch:=λb o e hx hb=>by
  rcases(hch b hb).1 with z|z
  . exact hx z
  . exact absurd (UB (UF e) z) (Nat.lt_irrefl _)
 have cellK:∀x c,X.env.cells.lookup x=some c->∀v,s.heap.IsCell c v->h'.IsCell c v:=λx c e v ⟨o,ho,hd⟩=>by
  have nch:c∉ch:=λz=>(hch c z).2.2.1 x c e rfl;rcases I.freeC x c e with hn|⟨_,o2,hz⟩
  .
   by_cases hc:c∈X.fs
   . obtain⟨sl,q⟩:=slot c o (I.cne x c e) hc nch ho hn;exact⟨_,q,hd⟩
   . exact⟨o,keep c o (I.cne x c e) hc nch ho hn,hd⟩
  . have e1:=(I.hok c _ hz).1;rw[ho]at e1;cases e1;exact⟨o,(hok c _ (frzs c _ _ hz)).1,hd⟩
 refine⟨I.ok,I.os,hg,⟨λb o e n hb hx=>?_,λb o e n hb hx=>?_,λb o e n hx=>?_,λb o e hx=>?_,λb xs e=>tups b xs (I.base.tups b xs e),λb o xs e=>frzs b o xs (I.base.frzs b o xs e),λb ps e=>?_⟩,?_,λx c e=>?_,?_,λx c e=>?_,λp hp=>?_,hok,I.len⟩
 . exact keep b o (neL b o e) hb (neC b o e hx) (I.base.keep b o e n hb hx) (I.base.free b o e n hx)
 . obtain⟨sl,e1⟩:=I.base.slot b o e n hb hx;obtain⟨sl',e2⟩:=slot b _ (neL b o e) hb (neC b o e hx) e1 (I.base.free b o e n hx);exact⟨sl',e2⟩
 . obtain⟨o',e1⟩:=I.base.there b o e hx;exact free b o' (neC b o e hx) e1 (I.base.free b o e n hx)
 . obtain⟨o',e1⟩:=I.base.there b o e hx;exact there b o' (neC b o e hx) e1
 . exact tbls b ps (I.base.tbls b ps e)
 .
  obtain⟨m,hn,hl⟩:=I.loc;refine⟨m,ns m hn,λi x v e1 e2 e3=>?_⟩;obtain⟨u,r,l⟩:=hl i x v e1 e2 e3;refine⟨u,r,?_⟩;rcases l with l|⟨k,c,e,z⟩
  . exact .inl l
  . exact .inr ⟨k,c,e,cellK x c e _ z⟩
 . obtain⟨v,z⟩:=I.cell x c e;exact⟨v,cellK x c e v z⟩
 . obtain⟨m,⟨o,_,_,ho,_⟩,_⟩:=I.loc;exact free _ o (λz=>(hch _ z).2.1 rfl) ho I.free
 .
  obtain⟨v,o,ho,hd⟩:=I.cell x c e;rcases I.freeC x c e with hn|⟨hf,o2,hz⟩
  . exact .inl (free c o (λz=>(hch c z).2.2.1 x c e rfl) ho hn)
  . exact .inr ⟨hf,o2,frzs c _ _ hz⟩
 . obtain⟨e,n,ne,nf,d⟩:=I.pin p hp;have nch:p.1∉ch:=λz=>(hch p.1 z).2.2.2 p hp rfl;exact⟨keep p.1 p.2 ne nf nch e n,free p.1 p.2 nch e n,ne,nf,d⟩
theorem PJ.un{t':Nat}(I:PJ X gV σ H s)(u:Un X.fs [] H H' s.heap h')(hok:Pw X.prog X.w H' h'):PJ X gV σ H' {s with heap:=h',toks:=t' }:=by
 obtain⟨m,⟨o,es,ep,ho,r⟩,_⟩:=id I.loc;obtain⟨sl,hL⟩:=u.any ho I.free v6
 exact I.step (g':=s.gens) (d':=s.drawn) (ch:=[]) (λ_ z=>nomatch z) (λb o _ hb _ e n=>u.keep b o e n hb v6) (λb o _ hb _ e n=>u.slot b o e n hb v6) (λb o _ e n=>u.free b o e n v6) (λb o _ e=>u.there b o e v6) u.tups u.frzs u.tbls (λm' hm=>by
  obtain⟨o',es',ep',ho',r'⟩:=hm;rw[ho]at ho';cases ho'
  exact⟨_,es',ep',hL,r'⟩) hok I.bare
theorem PJ.call{g':Array GenState}{t':Nat}{d':Drawn}{ch:List Addr}(I:PJ X gV σ H s)(u:Un (PD X.stack) ch H H' s.heap h')(hok:Pw X.prog X.w H' h')(hg:AllBare g')
  (hch:∀b∈ch,(b∈X.ex∨X.s₀.heap.objs.size<=b)/\b≠X.env.locals/\(∀x c,X.env.cells.lookup x=some c->c≠b)/\∀p∈X.pn++gV,p.1≠b) :
  PJ X gV σ H' {s with heap:=h',gens:=g',drawn:=d',toks:=t' }:=by
 obtain⟨m,⟨o,es,ep,ho,r⟩,_⟩:=id I.loc;obtain⟨sl,hL⟩:=u.any ho I.free λz=>(hch _ z).2.1 rfl
 exact I.step (ch:=ch) hch (λb o hL hb hc e n=>u.keep b o e n (λz=>(UK.mp (I.stkSub b z)).elim hL hb) hc) (λb o _ _ hc e n=>u.any e n hc) (λb o hc e n=>u.free b o e n hc) (λb o hc e=>u.there b o e hc) u.tups u.frzs u.tbls (λm' hm=>by
  obtain⟨o',es',ep',ho',r'⟩:=hm;rw[ho]at ho';cases ho'
  exact⟨_,es',ep',hL,r'⟩) hok hg
theorem PJ.turned{t':Nat}{it:Addr}(I:PJ X gV σ H s)(k:∀b o,b≠it->s.heap.get? b=some o->h'.get? b=some o)(hn:H it=none)(hL:it≠X.env.locals)
  (h1:it∈X.ex∨X.s₀.heap.objs.size<=it) (h2:∀x c,X.env.cells.lookup x=some c->c≠it) (h3:∀p∈X.pn++gV,p.1≠it):PJ X gV σ H {s with heap:=h',toks:=t' }:=by
 have nit:∀b u,H b=some u->b≠it:=λb u e z=>by rw[z,hn]at e;cases e
 refine I.step (g':=s.gens) (d':=s.drawn) (ch:=[it]) (λb hb=>?_) (λb o _ _ hc e _=>k b o (λz=>hc (by simp[z])) e) (λb o _ _ hc e _=>⟨o.slots,k b o (λz=>hc (by simp[z])) e⟩) (λ_ _ _ _ n=>n)
  (λb o hc e=>⟨o,k b o (λz=>hc (by simp[z])) e⟩) (λ_ _ e=>e) (λ_ _ _ e=>e) (λ_ _ e=>e) (λm hm=>?_) (λb u e=>?_) I.bare
 .
  have e:b=it:=by simpa using hb
  subst e;exact⟨h1,hL,h2,h3⟩
 . obtain⟨o,es,ep,ho,r⟩:=hm;exact⟨o,es,ep,k _ o (Ne.symm hL) ho,r⟩
 .
  refine(I.hok b u e).stay (λc v hc q=>k c v ?_ q) (λ_ q=>q) (λ_ _ q=>q) λ_ _ _ _ q=>q;rcases hc with z|z
  . rw[z];exact nit b u e
  . exact nit c _ z
theorem PJ.tok(I:PJ X gV σ H s)(t:Nat):PJ X gV σ H {s with toks:=t}:=I.un (h':=s.heap) (t':=t) Un.refl I.hok
theorem PJ.kept{t':Nat}(I:PJ X gV σ H s)(k:∀b u,s.heap.get? b=some u->h'.get? b=some u):PJ X gV σ H {s with heap:=h',toks:=t' }:=I.un (Un.kept k) (I.hok.kept k)
theorem PJ.laid{a:Addr}{o:HO}{t':Nat}(I:PJ X gV σ H s)(k:∀b u,s.heap.get? b=some u->h'.get? b=some u)(hp:s.heap.objs.size<=a)(new:d3 X.prog X.w (Pv H a o) h' a o) :
  PJ X gV σ (Pv H a o) {s with heap:=h',toks:=t' }:=I.un (Un.laid k hp (I.hok.fresh hp)) (I.hok.laid k hp new)
theorem PJ.write{x e:Addr}{o:HO}{t':Nat}(I:PJ X gV σ H s)(mu:Px (H x))(he:e=x∨H e=some (.own x))(k:∀b u,b≠e->s.heap.get? b=some u->h'.get? b=some u)(heo:∃u,h'.get? e=some u)
  (new:d3 X.prog X.w (Pv H x o) h' x o):PJ X gV σ (Pv H x o) {s with heap:=h',toks:=t' }:=I.un (Un.write mu he k heo) (I.hok.write mu he k heo new)
theorem PJ.pins_of{pins':List (Addr×Obj)}(I:PJ X gV σ H s)(h:∀p∈pins',s.heap.get? p.1=some p.2/\H p.1=none/\p.1≠X.env.locals/\p.1∉X.fs/\∀v,p.2.data≠.cell v):PJ X pins' σ H s :=
 ⟨I.ok,I.os,I.bare,I.base,I.loc,I.cell,I.free,I.freeC,λp hp=>(List.mem_append.mp hp).elim (λz=>I.pin p (List.mem_append_left _ z)) (h p),I.hok,I.len⟩
theorem ze{N:List Str}(hN:N.Nodup){i j:Nat}{x:Str}(a:N[i]?=some x)(b:N[j]?=some x):i=j:=by obtain⟨h1,e1⟩:=UA.mp a;obtain⟨h2,e2⟩:=UA.mp b;exact(List.getElem_inj hN).mp (e1.trans e2.symm)
theorem vm{M:Model}{A:Around}{E:Value->Shared->Prop}{i:Nat}{x:Str}{v:V}{u:Value}{Q:Unit->Shared->Prop}(I:PJ X gV σ H s)(hN:X.N.Nodup)(hi:X.N[i]?=some x)(hx:PH X.env.scope x)(r:b8 v u)
  (h:∀s',PJ X gV (σ.set i (some v)) H s'->(∃a,Heap.SameBut a s.heap s'.heap/\(a=X.env.locals∨X.env.cells.lookup x=some a))->Q () s') (hf:X.fn x=true∨X.env.scope.names.lookup x=some .local:=by first|exact .inl rfl|exact .inr rfl|assumption):wpAny M A (storeName X.env x u) Q E s:=by
 obtain⟨m,hn,hl⟩:=id I.loc;have hcls:(X.env.scope.kind == .class ||(X.env.scope.kind == .module && X.env.locals != X.env.globals))=false:=by rw[I.ok.kind];rfl
 have hiσ:i<σ.length:=by rw[I.len];exact(UA.mp hi).1
 have cne:=I.cne
 have tracked:∀{a:Addr}{h':Heap},(∃o,s.heap.get? a=some o/\H a=none)->Heap.SameBut a s.heap h'->Pw X.prog X.w H h':=λ{a h'} ha hs b ob e=>by
  obtain⟨_,_,hfree⟩:=ha;refine(I.hok b ob e).stay (λc w' hc q=>(hs.2 c ?_).trans q) (λ_ q=>q) (λ_ _ q=>q) λ_ _ _ _ q=>q;rintro rfl;rcases hc with rfl|hc
  . rw[hfree]at e;cases e
  . rw[hfree]at hc;cases hc
 rcases hx with hk|hk
 .
  refine wpAny_storeName_local hk hn (λh' hn' hs=>?_) hcls;obtain⟨oL,_,_,hoL,_⟩:=id hn;refine h _ ⟨I.ok,I.os,I.bare,⟨λb o e n hb hx=>?_,λb o e n hb hx=>?_,I.base.free,λb o e hx=>?_,I.base.tups,I.base.frzs,I.base.tbls⟩,⟨_,hn',λj y v' e1 e2 e3=>?_⟩,λy c e=>?_,I.free,I.freeC,λp hp=>?_,tracked ⟨oL,hoL,I.free⟩ hs,by simpa using I.len⟩ ⟨_,hs,.inl rfl⟩
  . exact(hs.2 b (Nat.ne_of_lt (UB (UF e) I.ok.above))).trans (I.base.keep b o e n hb hx)
  . obtain⟨sl,e1⟩:=I.base.slot b o e n hb hx;exact⟨sl,(hs.2 b (Nat.ne_of_lt (UB (UF e) I.ok.above))).trans e1⟩
  . obtain⟨o',e1⟩:=I.base.there b o e hx;exact⟨o',(hs.2 b (Nat.ne_of_lt (UB (UF e) I.ok.above))).trans e1⟩
  .
   by_cases hj:j=i
   . subst hj;rw[hi]at e1;cases e1;rw[List.getElem?_set_self hiσ]at e2;cases e2;exact⟨u,r,.inl ⟨hk,v6⟩⟩
   .
    rw[List.getElem?_set_ne (Ne.symm hj)]at e2;obtain⟨u',r',q⟩:=hl j y v' e1 e2 e3;refine⟨u',r',?_⟩;rcases q with⟨k,e⟩|⟨k,c,e,z⟩
    . refine .inl ⟨k,?_⟩;have:y≠x:=λe=>hj (ze hN e1 (e ▸ hi));simp[this,e]
    . exact .inr ⟨k,c,e,z.sameBut hs (cne y c e)⟩
  . obtain⟨w',z⟩:=I.cell y c e;exact⟨w',z.sameBut hs (cne y c e)⟩
  . obtain⟨e,n,ne,nf,d⟩:=I.pin p hp;exact⟨(hs.2 p.1 ne).trans e,n,ne,nf,d⟩
 .
  have hfn:X.fn x=true:=by
   rcases hf with z|z
   . exact z
   . rw[z]at hk;cases hk
  obtain⟨c,hc⟩:=I.ok.has x (.inl hk);obtain⟨w',z⟩:=I.cell x c hc;refine wpAny_storeName_cell I.ok.kind hk hc z (λh' hc' hs=>?_);obtain⟨oc,hoc,hocd⟩:=id z;refine h {s with heap:=h' } ⟨I.ok,I.os,I.bare,⟨λb o e n hb hx=>?_,λb o e n hb hx=>?_,I.base.free,λb o e hx=>?_,I.base.tups,I.base.frzs,I.base.tbls⟩,⟨m,hn.sameBut hs (Ne.symm (cne x c hc)),λj y v' e1 e2 e3=>?_⟩,λy c' e=>?_,I.free,I.freeC,λp hp=>?_,tracked ⟨oc,hoc,(I.freeC x c hc).resolve_right λz=>by rw[hfn]at z;exact absurd z.1 x_⟩ hs,by simpa using I.len⟩ ⟨c,hs,.inr hc⟩
  . exact(hs.2 b (Nat.ne_of_lt (UB (UF e) (I.ok.cab x c hfn hc)))).trans (I.base.keep b o e n hb hx)
  . obtain⟨sl,e1⟩:=I.base.slot b o e n hb hx;exact⟨sl,(hs.2 b (Nat.ne_of_lt (UB (UF e) (I.ok.cab x c hfn hc)))).trans e1⟩
  . obtain⟨o',e1⟩:=I.base.there b o e hx;exact⟨o',(hs.2 b (Nat.ne_of_lt (UB (UF e) (I.ok.cab x c hfn hc)))).trans e1⟩
  .
   by_cases hj:j=i
   . subst hj;rw[hi]at e1;cases e1;rw[List.getElem?_set_self hiσ]at e2;cases e2;exact⟨u,r,.inr ⟨.inl hk,c,hc,hc'⟩⟩
   .
    rw[List.getElem?_set_ne (Ne.symm hj)]at e2;obtain⟨u',r',q⟩:=hl j y v' e1 e2 e3;refine⟨u',r',?_⟩;rcases q with q|⟨k,c',e,z'⟩
    . exact .inl q
    . refine .inr ⟨k,c',e,z'.sameBut hs ?_⟩;rintro rfl;exact hj (ze hN e1 (I.ok.inj _ _ _ e hc ▸ hi))
  .
   by_cases hcc:c'=c
   . subst hcc;exact⟨_,hc'⟩
   . obtain⟨w2,z2⟩:=I.cell y c' e;exact⟨w2,z2.sameBut hs hcc⟩
  . obtain⟨e,n,ne,nf,d⟩:=I.pin p hp;refine⟨(hs.2 p.1 ?_).trans e,n,ne,nf,d⟩;intro q;rw[q,hoc]at e;have q':oc=p.2:=Option.some.inj e;exact d w' (by rw[<- q'];exact hocd)
theorem mS{M:Model}{A:Around}{E:Value->Shared->Prop}{i:Nat}{x:Str}{v:V}{u:Value}{Q:Unit->Shared->Prop}(I:PJ X gV σ H s)(hN:X.N.Nodup)(hi:X.N[i]?=some x)(hx:PH X.env.scope x)(r:b8 v u)
  (h:∀s',PJ X gV (σ.set i (some v)) H s'->Q () s') (hf:X.fn x=true∨X.env.scope.names.lookup x=some .local:=by first|exact .inl rfl|exact .inr rfl|assumption):wpAny M A (storeName X.env x u) Q E s :=
 vm I hN hi hx r (λs' I' _=>h s' I') hf
theorem PJ.call'{s':Shared}{ch:List Addr}(I:PJ X gV σ H s)(ho:s'.os=s.os)(u:Un (PD X.stack) ch H H' s.heap s'.heap)(hok:Pw X.prog X.w H' s'.heap)(hg:AllBare s'.gens)
  (hch:∀b∈ch,(b∈X.ex∨X.s₀.heap.objs.size<=b)/\b≠X.env.locals/\(∀x c,X.env.cells.lookup x=some c->c≠b)/\∀p∈X.pn++gV,p.1≠b):PJ X gV σ H' s':=by
 obtain⟨h',g',d',t',o'⟩:=s';have e:o'=s.os:=ho;subst e;exact I.call (g':=g') (t':=t') (d':=d') u hok hg hch
end
noncomputable abbrev XK:=Value->Option Addr->Hp->Prop
noncomputable abbrev St:=List (Option V)
noncomputable abbrev VK:=V->Hp->Prop
abbrev TE:=St->Hp->VK->Prop
noncomputable abbrev TT:=St->Hp->(Bool->Hp->Prop)->Prop
noncomputable abbrev TA:=St->Hp->(List V->Hp->Prop)->Prop
structure Ko where
 nx:St->Hp->Prop
 rt:VK
 bk:St->Hp->Prop:=λ_ _=>False
 ct:St->Hp->Prop:=λ_ _=>False
abbrev TS:=Ko->St->Hp->Prop
def EP(X:Cx)(gV:List (Addr×Obj))(σ:St)(Q:VK)(u:Value)(s':Shared):Prop:=∃v H',PJ X gV σ H' s'/\b8 v u/\Q v H'
def TP(X:Cx)(gV:List (Addr×Obj))(σ:St)(Q:Bool->Hp->Prop)(b:Bool)(s':Shared):Prop:=∃H',PJ X gV σ H' s'/\Q b H'
def AP(X:Cx)(gV:List (Addr×Obj))(σ:St)(Q:List V->Hp->Prop)(us:List Value)(s':Shared):Prop:=∃vs H',PJ X gV σ H' s'/\bO vs us/\Q vs H'
def SP(X:Cx)(gV:List (Addr×Obj))(D:Ko)(f:Flow)(s':Shared):Prop :=
 match f with
 |.next=>∃σ' H',PJ X gV σ' H' s'/\D.nx σ' H'
 |.brk=>∃σ' H',PJ X gV σ' H' s'/\D.bk σ' H'
 |.cont=>∃σ' H',PJ X gV σ' H' s'/\D.ct σ' H'
 |.ret u=>∃v σ' H',PJ X gV σ' H' s'/\b8 v u/\D.rt v H'
def PE(X:Cx)(e:Expr)(t:TE):Prop :=
 ∀(gV:List (Addr×Obj))(s:Shared)(σ:St)(H:Hp)(Q:VK),PJ X gV σ H s->t σ H Q->wpAny (model X.prog X.w) X.A (eval e X.env) (EP X gV σ Q) X.xe s
def PT(X:Cx)(e:Expr)(t:TT):Prop :=
 ∀(gV:List (Addr×Obj))(s:Shared)(σ:St)(H:Hp)(Q:Bool->Hp->Prop),PJ X gV σ H s->t σ H Q->wpAny (model X.prog X.w) X.A (isTrue e X.env (eval e X.env)) (TP X gV σ Q) X.xe s
def PA(X:Cx)(es:List Expr)(t:TA):Prop :=
 ∀(pos:Pos)(gV:List (Addr×Obj))(s:Shared)(σ:St)(H:Hp)(Q:List V->Hp->Prop),PJ X gV σ H s->t σ H Q->wpAny (model X.prog X.w) X.A (spliced (backTo pos (starEach es X.env))) (AP X gV σ Q) X.xe s
def PS(X:Cx)(st:Stmt)(t:TS):Prop :=
 ∀(gV:List (Addr×Obj))(s:Shared)(σ:St)(H:Hp)(D:Ko),PJ X gV σ H s->t D σ H->wpAny (model X.prog X.w) X.A (exec st X.env) (SP X gV D) X.xe s
def PN(X:Cx)(st:List Stmt)(t:TS):Prop :=
 ∀(gV:List (Addr×Obj))(s:Shared)(σ:St)(H:Hp)(D:Ko),PJ X gV σ H s->t D σ H->wpAny (model X.prog X.w) X.A (execs st X.env) (SP X gV D) X.xe s
theorem PP{α:Type}{t:Sem α}{Q Q':α->Shared->Prop}{M:Model}{A:Around}{E:Value->Shared->Prop}{s:Shared}(h:wpAny M A t Q E s)(hQ:∀a s,Q a s->Q' a s):wpAny M A t Q' E s:=wpAny_mono h hQ λ_ _ x=>x
section
variable{X:Cx}
theorem PQ{a b:Expr}{ta tb:TE}(ha:PE X a ta)(hb:PE X b tb){gV:List (Addr×Obj)}{s:Shared}{σ:St}{H:Hp}{R:V->V->Hp->Prop}(I:PJ X gV σ H s)(h:ta σ H λx H1=>tb σ H1 λy H2=>R x y H2)
  {α:Type} {Q:α->Shared->Prop} {f:Value->Value->Sem α}
  (hf:∀v u s2 x y H2,PJ X gV σ H2 s2->b8 x v->b8 y u->R x y H2->wpAny (model X.prog X.w) X.A (f v u) Q X.xe s2) :
  wpAny (model X.prog X.w) X.A (eval a X.env) (λv s₁=>wpAny (model X.prog X.w) X.A (eval b X.env) (λu s₂=>wpAny (model X.prog X.w) X.A (f v u) Q X.xe s₂) X.xe s₁) X.xe s:=by
 refine PP (ha gV s σ H _ I h) λv s1 ⟨x,H1,I1,r1,q1⟩=>?_;refine PP (hb gV s1 σ H1 _ I1 q1) λu s2 ⟨y,H2,I2,r2,q2⟩=>?_;exact hf v u s2 x y H2 I2 r1 r2 q2
def HJ(i:Nat):TE:=λσ H Q=>∃v,σ[i]?=some (some v)/\Q v H
def tC(v:V):TE:=λ_ H Q=>Q v H
theorem gH{i:Nat}{x:Str}{pos:Pos}(hN:X.N[i]?=some x)(hv:PF X.env.scope x) (hd:(x == ("__debug__" : Str))=false:=by decide) (hcd:(x == ("__classdict__" : Str))=false:=by decide):PE X (.Name x pos) (HJ i):=by
 intro gV s σ H Q I h;obtain⟨v,e,h⟩:=h;obtain⟨m,hn,hl⟩:=I.loc;obtain⟨u,r,l⟩:=hl i x v hN e hv;have PR:EP X gV σ Q u s:=⟨v,H,I,r,h⟩;rcases l with⟨hk,hm⟩|⟨hk,c,hc,hcell⟩
 . exact wpAny_Name (wpAny_loadName_local I.ok.kind hk hn hm PR) hd
 .
  rcases hk with hk|hk
  . exact wpAny_Name (wpAny_loadName_cell I.ok.kind hk hc hcell PR) hd
  . exact wpAny_Name (wpAny_loadName_free I.ok.kind hk hc hcell PR hcd) hd
theorem Ky {i j pos}:PE X (.Constant (.int i) j pos) (tC (.int i)):=λ_ _ _ H _ I h=>wpAny_Constant_int ⟨.int i,H,I.tok _,⟨_,rfl⟩,h⟩
theorem M4 {b j pos}:PE X (.Constant (.bool b) j pos) (tC (.bl b)):=λ_ _ _ H _ I h=>Constant_bool ⟨.bl b,H,I,rfl,h⟩
theorem Kz {j pos}:PE X (.Constant .none j pos) (tC .non):=λ_ _ _ H _ I h=>Constant_none ⟨.non,H,I,rfl,h⟩
theorem GT {x j pos}:PE X (.Constant (.str x) j pos) (tC (.str x)):=λ_ _ _ H _ I h=>Calls.Constant_str ⟨.str x,H,I.tok _,⟨_,rfl⟩,h⟩
def Gl(X:Cx)(x:Str):Prop:=X.env.kindOf x=some .globalImplicit
theorem jH{E:Value->Shared->Prop}{gV:List (Addr×Obj)}{s:Shared}{σ:St}{H:Hp}{x:Str}{u:Value}{pos:Pos}{Q:Value->Shared->Prop}(I:PJ X gV σ H s)(hg:Gl X x)(hm:X.mg x=some u)(h:Q u s)
  (hd:(x == ("__debug__" : Str))=false:=by decide):wpAny (model X.prog X.w) X.A (eval (.Name x pos) X.env) Q E s :=
 Calls.Name_function_global I.ok.kind hg (Calls.loadGlobal_global (by rw[I.ok.glob];exact I.mod.glob.keeps I.bk) hm h) hd
theorem jn{E:Value->Shared->Prop}{gV:List (Addr×Obj)}{s:Shared}{σ:St}{H:Hp}{x:Str}{u:Value}{pos:Pos}{Q:Value->Shared->Prop}(I:PJ X gV σ H s)(hg:Gl X x)(hm:X.mg x=none)(hv:bootBuiltins x=some u)(h:Q u s)
  (hn:x≠"__name__":=by decide) (hd:(x == ("__debug__" : Str))=false:=by decide):wpAny (model X.prog X.w) X.A (eval (.Name x pos) X.env) Q E s:=by
 obtain⟨mb,h1,h2⟩:=I.mod.blt;exact Calls.Name_function_global I.ok.kind hg (Calls.loadGlobal_builtin (by rw[I.ok.glob];exact I.mod.glob.keeps I.bk) hm (by rw[I.ok.blt];exact h1.keeps I.bk) ((h2 x hn).trans hv) h) hd
theorem HK{x:Str}{v:V}{u:Value}{pos:Pos}(hg:Gl X x)(hm:X.mg x=some u)(r:b8 v u) (hd:(x == ("__debug__" : Str))=false:=by decide):PE X (.Name x pos) (tC v) :=
 λ_ _ _ H _ I h=>jH I hg hm ⟨v,H,I,r,h⟩ hd
theorem HL{x:Str}{v:V}{u:Value}{pos:Pos}(hg:Gl X x)(hm:X.mg x=none)(hv:bootBuiltins x=some u)(r:b8 v u) (hn:x≠"__name__":=by decide) (hd:(x == ("__debug__" : Str))=false:=by decide):PE X (.Name x pos) (tC v) :=
 λ_ _ _ H _ I h=>jn I hg hm hv ⟨v,H,I,r,h⟩ hn hd
variable{a b:Expr}{ta tb:TE}{pos:Pos}
noncomputable def tB(t:TE):TT:=λσ H Q=>t σ H λx H1=>∃c,x=.bl c/\Q c H1
end
def PU(K:PySem.W.Frag)(H:Hp)(a:Addr)(xs:List V):Prop :=
 Rd H a (.lst xs) ∨
  ∃(o:Obj)(its:Array Value)(n:Nat),K.lookup a=some o/\o.cls=.type "list"/\o.dict=none/\o.data=.seq its n/\its.size<=sizeLine/\bO xs its.toList
def PV(K:PySem.W.Frag)(H:Hp)(a:Addr)(xs:List V):Prop :=
 Rd H a (.tup xs) ∨
  ∃(o:Obj)(its:Array Value)(n:Nat),K.lookup a=some o/\o.cls=.type "tuple"/\o.data=.seq its n/\its.size<=sizeLine/\bO xs its.toList
noncomputable def OQ:Value->Option V
 |.none=>some .non
 |.bool b=>some (.bl b)
 |.int i _=>some (.int i)
 |.str x _=>some (.str x)
 |.bytes b _=>some (.byt b)
 |.float b _=>some (.flt b)
 |.ref a=>some (.ref a)
 |.type n=>some (.ty n)
 |_=>none
theorem b8.abs{x:V}{u:Value}(r:b8 x u):OQ u=some x:=by
 cases x with
 |non=>cases r;rfl
 |bl _=>cases r;rfl
 |int _=>obtain⟨t,rfl⟩:=r;rfl
 |str _=>obtain⟨t,rfl⟩:=r;rfl
 |byt _=>obtain⟨t,rfl⟩:=r;rfl
 |flt _=>obtain⟨t,rfl⟩:=r;rfl
 |ref _=>cases r;rfl
 |ty _=>cases r;rfl
theorem b8.inj{x y:V}{u:Value}(r:b8 x u)(q:b8 y u):x=y:=Option.some.inj (r.abs.symm.trans q.abs)
theorem bO.inj:∀{xs ys:List V}{us:List Value},bO xs us->bO ys us->xs=ys
 |_,_,_,.nil,.nil=>rfl
 |_,_,_,.cons r t,.cons r' t'=>by rw[r.inj r',bO.inj t t']
section
variable{X:Cx}{gV:List (Addr×Obj)}{σ:St}{H:Hp}{s:Shared}{a:Addr}{xs ys:List V}
theorem PU.of{K:PySem.W.Frag}(h:H a=some (.lst xs)):PU K H a xs:=.inl (.inl h)
theorem PV.of{K:PySem.W.Frag}(h:H a=some (.tup xs)):PV K H a xs:=.inl (.inl h)
theorem PJ.list(I:PJ X gV σ H s)(h:PU X.K H a xs):∃its:List Value,bO xs its/\PlainL s.heap a its.toArray/\xs.length<=sizeLine:=by
 rcases h with h|⟨o,its,n,hk,hc,hd,hs,hz,r⟩
 . obtain⟨z,its,n,r,e⟩:=h.ok I.hok;exact⟨its,r,⟨_,n,e,rfl,rfl,rfl⟩,z⟩
 . refine⟨its.toList,r,⟨o,n,I.kIn a o hk,hc,hd,by simpa using hs⟩,?_⟩;have e:=r.length;simp only[Array.length_toList]at e;omega
theorem PJ.tuple(I:PJ X gV σ H s)(h:PV X.K H a xs):∃its:List Value,bO xs its/\IsTup s.heap a its.toArray/\xs.length<=sizeLine:=by
 rcases h with h|⟨o,its,n,hk,hc,hs,hz,r⟩
 . obtain⟨z,its,r,p⟩:=h.ok I.hok;exact⟨its,r,p,z⟩
 . refine⟨its.toList,r,⟨o,I.kIn a o hk,hc,n,by simpa using hs⟩,?_⟩;have e:=r.length;simp only[Array.length_toList]at e;omega
theorem PJ.list_inj(I:PJ X gV σ H s)(h:PU X.K H a xs)(h':PU X.K H a ys):xs=ys:=by
 obtain⟨its,r,⟨o,n,e,_,_,d⟩,_⟩:=I.list h;obtain⟨its',r',⟨o',n',e',_,_,d'⟩,_⟩:=I.list h';rw[e]at e';cases e';rw[d]at d';injection d' with d1 _;have:its=its':=by simpa using congrArg Array.toList d1
 subst this;exact r.inj r'
theorem PJ.tuple_inj(I:PJ X gV σ H s)(h:PV X.K H a xs)(h':PV X.K H a ys):xs=ys:=by
 obtain⟨its,r,⟨o,e,_,n,d⟩,_⟩:=I.tuple h;obtain⟨its',r',⟨o',e',_,n',d'⟩,_⟩:=I.tuple h';rw[e]at e';cases e';rw[d]at d';injection d' with d1 _;have:its=its':=by simpa using congrArg Array.toList d1
 subst this;exact r.inj r'
end
noncomputable abbrev Cx.wish(X:Cx)(E:Value->Shared->Prop):Cx:={X with xe:=E}
noncomputable abbrev Cx.nox(X:Cx):Cx:=X.wish λ_ _=>False
theorem Cx.Ok.wish{X:Cx}(ok:X.Ok)(E:Value->Shared->Prop):(X.wish E).Ok :=
 ⟨ok.mod,ok.kind,ok.glob,ok.blt,ok.above,ok.inj,ok.has,ok.cab,ok.hd,ok.frames,ok.stk,ok.exf,ok.bs,ok.bsz,ok.noex,ok.exfs,ok.funs,ok.frf,ok.tbs⟩
theorem Cx.Ok.unwish{X:Cx}{E:Value->Shared->Prop}(ok:(X.wish E).Ok):X.Ok :=
 ⟨ok.mod,ok.kind,ok.glob,ok.blt,ok.above,ok.inj,ok.has,ok.cab,ok.hd,ok.frames,ok.stk,ok.exf,ok.bs,ok.bsz,ok.noex,ok.exfs,ok.funs,ok.frf,ok.tbs⟩
section
variable{X:Cx}{gV:List (Addr×Obj)}{σ:St}{H:Hp}{s:Shared}{E:Value->Shared->Prop}
theorem PJ.wish(I:PJ X gV σ H s)(E:Value->Shared->Prop):PJ (X.wish E) gV σ H s:=⟨I.ok.wish E,I.os,I.bare,I.base,I.loc,I.cell,I.free,I.freeC,I.pin,I.hok,I.len⟩
theorem PJ.unwish(I:PJ (X.wish E) gV σ H s):PJ X gV σ H s:=⟨I.ok.unwish,I.os,I.bare,I.base,I.loc,I.cell,I.free,I.freeC,I.pin,I.hok,I.len⟩
theorem SP.unwish{D:Ko}{f:Flow}{s':Shared}(h:SP (X.wish E) gV D f s'):SP X gV D f s':=by
 cases f with
 |next=>obtain⟨σ',H',I,q⟩:=h;exact⟨σ',H',I.unwish,q⟩
 |brk=>obtain⟨σ',H',I,q⟩:=h;exact⟨σ',H',I.unwish,q⟩
 |cont=>obtain⟨σ',H',I,q⟩:=h;exact⟨σ',H',I.unwish,q⟩
 |ret u=>obtain⟨v,σ',H',I,r,q⟩:=h;exact⟨v,σ',H',I.unwish,r,q⟩
theorem PN.nox{st:List Stmt}{t:TS}(h:PN X.nox st t):PN X st t:=λgV s σ H D I hw =>
 wpAny_mono (h gV s σ H D (I.wish _) hw) (λ_ _ q=>q.unwish) λ_ _ z=>False.elim z
end
section
variable{X:Cx}{st:Stmt}{rest:List Stmt}{t u:TS}{e:Expr}{te:TE}{pos:Pos}
def Oq(t u:TS):TS:=λD σ H=>t {D with nx:=u D} σ H
theorem En(h1:PS X st t)(h2:PN X rest u):PN X (st::rest) (Oq t u):=by
 intro gV s σ H D I h;refine wpAny_execs_cons (PP (h1 gV s σ H {D with nx:=u D} I h) λf s1 q=>?_)
 cases f with
 | next =>
  obtain⟨σ',H',I',q⟩:=q;exact h2 gV s1 σ' H' D I' q
 |ret v=>exact q
 |brk=>exact q
 |cont=>exact q
theorem BJ(h1:PS X st t):PN X [st] t:=by
 intro gV s σ H D I h;refine wpAny_execs_cons (PP (h1 gV s σ H D I h) λf s1 q=>?_)
 cases f with
 |next=>exact wpAny_execs_nil q
 |ret v=>exact q
 |brk=>exact q
 |cont=>exact q
theorem PJ.quiet{gV:List (Addr×Obj)}{σ:St}{H:Hp}{s:Shared}(I:PJ X gV σ H s):interactive X.env=false:=by simp[interactive,I.ok.kind]
def HM(te:TE):TS:=λD σ H=>te σ H λ_ H1=>D.nx σ H1
theorem BK(he:PE X e te)(hs:swapsWith e none pos.line X.env=pure false:=by rfl):PS X (.Expr e pos) (HM te):=by intro gV s σ H D I h;exact wpAny_Expr_any (PP (he gV s σ H _ I h) λv s1 ⟨x,H1,I1,r1,q1⟩=>⟨σ,H1,I1,q1⟩) I.quiet hs
end
noncomputable abbrev TG:=V->St->Hp->(St->Hp->Prop)->Prop
noncomputable abbrev PX:=List V->St->Hp->(St->Hp->Prop)->Prop
def PG(X:Cx)(target:Expr)(t:TG):Prop :=
 ∀(gV:List (Addr×Obj))(s:Shared)(σ:St)(H:Hp)(v:V)(u:Value)(Q:St->Hp->Prop),PJ X gV σ H s->b8 v u->t v σ H Q ->
  wpAny (model X.prog X.w) X.A (assign target X.env u) (λ_ s'=>∃σ' H',PJ X gV σ' H' s'/\Q σ' H') X.xe s
def PY(X:Cx)(ts:List Expr)(t:PX):Prop :=
 ∀(gV:List (Addr×Obj))(s:Shared)(σ:St)(H:Hp)(vs:List V)(us:List Value)(Q:St->Hp->Prop),PJ X gV σ H s->bO vs us->t vs σ H Q ->
  wpAny (model X.prog X.w) X.A (assignInOrder ((assignEach ts X.env).map (·.2)) us) (λ_ s'=>∃σ' H',PJ X gV σ' H' s'/\Q σ' H') X.xe s
noncomputable abbrev M5:=V->V->V->Hp->(Hp->Prop)->Prop
def Os(X:Cx)(t:M5):Prop :=
 ∀(gV:List (Addr×Obj))(s:Shared)(σ:St)(H:Hp)(o i v:V)(ov iv u:Value)(Q:Hp->Prop),PJ X gV σ H s->b8 o ov->b8 i iv->b8 v u->t o i v H Q ->
  wpAny (model X.prog X.w) X.A (setItem ov iv u) (λ_ s'=>∃H',PJ X gV σ H' s'/\Q H') X.xe s
section
variable{X:Cx}{pos:Pos}
noncomputable def M6(i:Nat):TG:=λv σ H Q=>Q (σ.set i (some v)) H
theorem tY{i:Nat}{x:Str}(hN:X.N.Nodup)(hi:X.N[i]?=some x)(hx:PH X.env.scope x)(hf:X.fn x=true∨X.env.scope.names.lookup x=some .local:=by first|exact .inl rfl|exact .inr rfl|assumption):PG X (.Name x pos) (M6 i):=by intro gV s σ H v u Q I r h;exact wpAny_assign_Name (mS I hN hi hx r (λs' I'=>⟨_,H,I',h⟩) hf)
noncomputable def OR:PX:=λvs σ H Q=>vs=[]/\Q σ H
noncomputable def M7(t:TG)(u:PX):PX:=λvs σ H Q=>∃v r,vs=v::r/\t v σ H λσ' H'=>u r σ' H' Q
theorem BL:PY X [] OR:=by intro gV s σ H vs us Q I r h;obtain⟨e,h⟩:=h;subst e;cases r;exact assignInOrder_nil ⟨σ,H,I,h⟩
theorem zg{e:Expr}{es:List Expr}{t:TG}{u:PX}(h1:PG X e t)(h2:PY X es u)
  (hs:(assignEach (e::es) X.env).map (·.2)=assign e X.env::(assignEach es X.env).map (·.2):=by rfl):PY X (e::es) (M7 t u):=by
 intro gV s σ H vs us Q I r h;obtain⟨v,vr,e1,h⟩:=h;subst e1
 cases r with
 | cons r rr =>
  rw[hs];refine assignInOrder_cons (PP (h1 gV s σ H _ _ _ I r h) λ_ s1 ⟨σ1,H1,I1,q1⟩=>?_);exact h2 gV s1 σ1 H1 _ _ Q I1 rr q1
noncomputable def OS(K:PySem.W.Frag)(n:Nat)(t:PX):TG:=λv σ H Q=>∃a xs,v=.ref a/\PV K H a xs/\xs.length=n/\t xs σ H Q
theorem GU{es:List Expr}{k:Nat}{t:PX}{n:Nat}(hc:X.calm=true)(h:PY X es t)
  (hn:(assignEach es X.env).length=n:=by rfl) (hst:(assignEach es X.env).findIdx? (·.1)=none:=by rfl):PG X (.Tuple es k pos) (OS X.K n t):=by
 intro gV s σ H v u Q I r hw;obtain⟨a,xs,e1,hq,hl,hw⟩:=hw;subst e1;cases r;obtain⟨its,rv,ht,hz⟩:=I.tuple hq;refine assign_Tuple_tuple (I.ok.hd hc) ht (by simp[hn,<- hl,rv.length]) hst λh' hx=>?_;have I1:PJ X gV σ H {s with heap:=h' }:=I.kept (t':=s.toks) λb o e=>hx b o (Nat.ne_of_lt (UF e)) e;exact h gV _ σ H xs _ Q I1 (by simpa using rv) hw
noncomputable def OT(to ti:TE)(t:M5):TG:=λv σ H Q=>to σ H λo H1=>ti σ H1 λi H2=>t o i v H2 λH3=>Q σ H3
theorem KA{o i:Expr}{to ti:TE}{t:M5}(ho:PE X o to)(hi:PE X i ti)(hs:Os X t)
  (ha:∀v,assign (.Subscript o i pos) X.env v=(do
   let ov <- holding [v] (eval o X.env)
   let iv <- holding [v,ov] (eval i X.env)
   standAt pos
   holding [v,ov,iv] (setItem ov iv v)
   release [v,ov,iv] []):=by intro _;rfl):PG X (.Subscript o i pos) (OT to ti t):=by
 intro gV s σ H v u Q I r h;rw[ha];refine Uw (wpAny_holding (PP (ho gV s σ H _ I h) λov s1 ⟨x,H1,I1,r1,q1⟩=>?_));refine Uw (wpAny_holding (PP (hi gV s1 σ H1 _ I1 q1) λiv s2 ⟨y,H2,I2,r2,q2⟩=>?_));refine Uw (wpAny_standAt (Uw (wpAny_holding (PP (hs gV s2 σ H2 x y v ov iv u _ I2 r1 r2 r q2) λ_ s3 ⟨H3,I3,q3⟩=>?_))));exact wpAny_release ⟨σ,H3,I3,q3⟩
def OU(te:TE)(g:TG):TS:=λD σ H=>te σ H λx H1=>g x σ H1 D.nx
theorem KB{tg e:Expr}{te:TE}{g:TG}(he:PE X e te)(hg:PG X tg g)(hs:swapsWithSole [tg] e pos.line X.env=pure false:=by rfl)(hw:swappedStores [tg] e X.env=pure none:=by rfl)
  (h1:(assignEach [tg] X.env).map (·.2)=[assign tg X.env]:=by rfl):PS X (.Assign [tg] e pos) (OU te g):=by
 intro gV s σ H D I h;refine wpAny_Assign_stores (PP (he gV s σ H _ I h) λv s1 ⟨x,H1,I1,r1,q1⟩=>?_) hs hw;rw[h1];exact PP (hg gV s1 σ H1 x v _ I1 r1 q1) λ_ s2 q=>q
def OV(i j:Nat)(ta:TA):TS:=λD σ H=>ta σ H λvs H1=>∃v w,vs=[v,w]/\D.nx ((σ.set i (some v)).set j (some w)) H1
theorem KC{i j:Nat}{x y:Str}{a b:Expr}{ta:TA}{px py pt:Pos} {kt k2 pt2} (hc:X.calm=true) (hN:X.N.Nodup) (hi:X.N[i]?=some x) (hj:X.N[j]?=some y) (hij:i≠j)
  (hx:X.env.scope.names.lookup x=some .local) (hy:X.env.scope.names.lookup y=some .local) (ha:PA X [a,b] ta)
  (hw:swappedStores [.Tuple [.Name x px,.Name y py] kt pt] (.Tuple [a,b] k2 pt2) X.env=pure (some [x,y]))
  (hs:swapsWithSole [.Tuple [.Name x px,.Name y py] kt pt] (.Tuple [a,b] k2 pt2) pos.line X.env=pure false:=by rfl) :
  PS X (.Assign [.Tuple [.Name x px,.Name y py] kt pt] (.Tuple [a,b] k2 pt2) pos) (OV i j ta):=by
 intro gV s σ H D I h;rw[exec_Assign_arm];refine Uw (wpAny_standAt ?_);rw[hs];refine Uw (UH ?_);rw[if_neg (by decide)];refine Uw (Tuple_ (PP (ha _ gV s σ H _ I h) λus s1 ⟨vs,H1,I1,r1,q1⟩=>?_));obtain⟨v,w,e1,q1⟩:=q1;subst e1
 obtain⟨u1,u2,rfl,rv,rw'⟩:∃u1 u2,us=[u1,u2]/\b8 v u1/\b8 w u2:=by
  cases r1 with
  | cons p q =>
   cases q with
   | cons p' q' =>
    cases q';exact⟨_,_,rfl,p,p'⟩
 refine wpAny_newObj_type ?_ (by show 2<=sizeLine;decide);have I2:PJ X gV σ H1 {s1 with heap:=s1.heap.push {cls:=.type "tuple",data:=.seq [u1,u2].toArray} }:=I1.kept (t':=s1.toks) λb o e=>Uy _ e;rw[hw];refine Uw (UH ?_)
 show wpAny (model X.prog X.w) X.A (do rule "assign.swapped-stores"; let items <- unpackItems (.ref s1.heap.objs.size) 2 none; assignInOrder [λv=>bindName X.env y v,λv=>bindName X.env x v] items.reverse; pure Flow.next) _ _ _
 refine Uw (wpAny_rule (Uw (unpackItems_tuple (items:=#[u1,u2]) (I.ok.hd hc) (IsTup.new s1.heap _) λh' hx'=>?_)));have I3:=I2.kept (h':=h') (t':=s1.toks) λb o e=>hx' b o (Nat.ne_of_lt (UF e)) e
 show wpAny _ _ (assignInOrder [λv=>bindName X.env y v,λv=>bindName X.env x v] [u2,u1] >>= λ_=>pure Flow.next) _ _ _
 refine Uw (assignInOrder_cons (wpAny_bindName (mS I3 hN hj (.inl hy) rw' (λs2 I4=>?_) (.inr hy))));refine assignInOrder_cons (wpAny_bindName (mS I4 hN hi (.inl hx) rv (λs3 I5=>assignInOrder_nil (UH ?_)) (.inr hx)));rw[List.set_comm _ _ (Ne.symm hij)]at I5;exact⟨_,H1,I5,q1⟩
end
section
variable{X:Cx}{pos:Pos}
def KD(c:TT)(tb:TS):TS:=λD σ H=>∃W:Nat->St->Hp->Prop,(∃m,W m σ H)/\∀m σ H,W m σ H ->
 c σ H λb H1=>if b=true then ∃N:St->Hp->Prop,(∀σ' H',N σ' H'->∃m',m' < m/\W m' σ' H')/\tb {D with nx:=N,ct:=N,bk:=D.nx} σ H1 else D.nx σ H1
theorem Eo{c:Expr}{body:List Stmt}{tc:TT}{tb:TS}(hp:PassesOwn (model X.prog X.w) X.A X.env X.xe)(hc:PT X c tc)(hb:PN X body tb):PS X (.While c body [] pos) (KD tc tb):=by
 intro gV s σ H D I h;obtain⟨W,⟨m0,w0⟩,turn⟩:=h;refine wpAny_While (codeAny_whileLoop (λn s'=>∃σ' H',PJ X gV σ' H' s'/\W n σ' H') ?_ m0 ⟨σ,H,I,w0⟩);rintro n s1 ⟨σ1,H1,I1,w1⟩;refine wpAny_passesOwn hp (PP (hc gV s1 σ1 H1 _ I1 (turn n σ1 H1 w1)) λb s2 ⟨H2,I2,q2⟩=>?_)
 cases b with
 | true =>
  obtain⟨N,hN,q2⟩:=q2;rw[if_pos rfl];refine wpAny_passesOwn hp (PP (hb gV s2 σ1 H2 _ I2 q2) λf s3 q3=>?_)
  cases f with
  | next =>
   obtain⟨σ3,H3,I3,n3⟩:=q3;obtain⟨m',hm,w3⟩:=hN σ3 H3 n3;exact⟨m',hm,σ3,H3,I3,w3⟩
  | cont =>
   obtain⟨σ3,H3,I3,n3⟩:=q3;obtain⟨m',hm,w3⟩:=hN σ3 H3 n3;exact⟨m',hm,σ3,H3,I3,w3⟩
  |brk=>exact q3
  |ret v=>exact q3
 | false =>
  rw[if_neg Bool.false_ne_true];exact wpAny_execs_nil ⟨σ1,H2,I2,q2⟩
end
structure It where
 go:Nat->Hp->Prop
 yld:Nat->Hp->V->Hp->Prop
 stop:Nat->Hp->Prop
def BM(X:Cx)(gV:List (Addr×Obj))(H:Hp)(b:Addr):Prop :=
 H b=none/\b≠X.env.locals/\b∉X.fs/\(b∈X.ex∨X.s₀.heap.objs.size<=b)/\(∀x c,X.env.cells.lookup x=some c->c≠b)/\∀p∈X.pn++gV,p.1≠b
theorem PJ.fpOk{X:Cx}{gV:List (Addr×Obj)}{σ:St}{H H':Hp}{s:Shared}{b:Addr}(I:PJ X gV σ H s)(hb:s.heap.objs.size<=b)(hn:H' b=none):BM X gV H' b:=by
 refine⟨hn,Nat.ne_of_gt (UB I.lt hb),I.nofs hb,.inr (Nat.le_trans I.sz hb),λx c e z=>?_,λp hp z=>?_⟩
 . obtain⟨v,q⟩:=I.cell x c e;exact absurd (UB q.lt (by rw[z];exact hb)) (Nat.lt_irrefl _)
 . exact absurd (UB (UF (I.pin p hp).1) (by rw[z];exact hb)) (Nat.lt_irrefl _)
structure HN (P:Program) (w:World) (K:PySem.W.Frag) (tg:Expr) (J:It) (fp:List Addr) (it:Addr) (tn:Nat->Heap->Prop):Prop where
 mem:it∈fp
 obj:∀i h,tn i h->∀b∈fp,∃o,h.get? b=some o/\∀v,o.data≠.cell v
 keep:∀i h h',tn i h->(∀b∈fp,∀o,h.get? b=some o->h'.get? b=some o)->tn i h'
 item:∀(X:Cx),X.prog=P->X.w=w->X.K=K->X.calm=true->∀(i:Nat)(gV:List (Addr×Obj))(s:Shared)(σ:St)(H:Hp)(E:Value->Shared->Prop),PJ X gV σ H s->(∀b∈fp,BM X gV H b)->tn i s.heap->J.go i H ->
  wpAny (model P w) X.A (pyNext (.ref it)) (λr s1=>∃u,r=some u /\
   wpAny (model P w) X.A (letOwnedTupleGo tg (.ref it) u) (λ_ s2=>∃x H',PJ X gV σ H' s2/\b8 x u/\J.yld i H x H'/\tn (i+1) s2.heap/\∀b∈fp,H' b=none) E s1) E s
 done:∀(X:Cx),X.prog=P->X.w=w->X.K=K->X.calm=true->∀(i:Nat)(gV:List (Addr×Obj))(s:Shared)(σ:St)(H:Hp)(E:Value->Shared->Prop),PJ X gV σ H s->(∀b∈fp,BM X gV H b)->tn i s.heap->J.stop i H ->
  wpAny (model P w) X.A (pyNext (.ref it)) (λr s1=>r=none/\PJ X gV σ H s1) E s
 self:∀(A:Around)(i:Nat)(s:Shared)(Q:Value->Shared->Prop)(E:Value->Shared->Prop),tn i s.heap->Q (.ref it) s->wpAny (model P w) A (pyIter (.ref it)) Q E s
noncomputable abbrev TI:=St->Hp->(It->Hp->Prop)->Prop
def PZ(X:Cx)(gV:List (Addr×Obj))(σ:St)(tg:Expr)(R:It->Hp->Prop)(itv:Value)(s2:Shared):Prop :=
 ∃(it:Addr)(fp:List Addr)(tn:Nat->Heap->Prop)(J:It)(H':Hp),itv=.ref it/\PJ X gV σ H' s2/\HN X.prog X.w X.K tg J fp it tn/\tn 0 s2.heap/\(∀b∈fp,BM X gV H' b)/\R J H'
def PI(X:Cx)(tg iter:Expr)(wi:TI):Prop :=
 ∀(gV:List (Addr×Obj))(s:Shared)(σ:St)(H:Hp)(R:It->Hp->Prop),PJ X gV σ H s->wi σ H R ->
  wpAny (model X.prog X.w) X.A (eval iter X.env) (λv s1=>wpAny (model X.prog X.w) X.A (pyIter v) (PZ X gV σ tg R) X.xe s1) X.xe s
theorem HP {M : Model} {A : Around} {E : Value → Shared → Prop} {s : Shared} {tg : Expr} {it : Addr} {u : Value} {o : Obj} {n : String} {vs : Array Value} {Q : Unit → Shared → Prop} (ho : s.heap.get? it = some o) (hc : o.cls = .type n) (hd : o.data = .fields vs)
    (hn : ["enumerate", "zip", "dict_itemiterator", "dict_reverseitemiterator", "odict_iterator", "itertools.zip_longest", "itertools.pairwise"].contains n = false) (hQ : Q () s) : wpAny M A (letOwnedTupleGo tg (.ref it) u) Q E s := by
  unfold letOwnedTupleGo
  cases tg<;>first
    |exact UH hQ
    | (cases u<;>first
        |exact UH hQ
        | (refine Uw (wpAny_load ho ?_)
           rw[hc, hd]
           show wpAny M A (if(["enumerate", "zip", "dict_itemiterator", "dict_reverseitemiterator", "odict_iterator", "itertools.zip_longest", "itertools.pairwise"].contains n && vs[0]? == some (rawInt _)) = true then _ else _) Q E s
           rw[if_neg (by intro h;rw[hn, Bool.false_and]at h;cases h)]
           exact UH hQ))
noncomputable def P0(K:PySem.W.Frag)(a:Addr):It :=
 ⟨λi H=>∃xs x,PU K H a xs/\xs[i]?=some x,λi H x H'=>H'=H/\∀xs,PU K H a xs->xs[i]?=some x,λi H=>∃xs,PU K H a xs/\xs.length<=i⟩
noncomputable def P1(K:PySem.W.Frag)(a:Addr):It :=
 ⟨λi H=>∃xs x,PV K H a xs/\xs[i]?=some x,λi H x H'=>H'=H/\∀xs,PV K H a xs->xs[i]?=some x,λi H=>∃xs,PV K H a xs/\xs.length<=i⟩
noncomputable def P2(lo:Int)(n:Nat):It:=⟨λi _=>i<n,λi H x H'=>H'=H/\x=.int (lo+i),λi _=>n<=i⟩
theorem BN{P:Program}{w:World}{K:PySem.W.Frag}{tg:Expr}(a it:Addr):HN P w K tg (P0 K a) [it] it (λi h=>h.IsListIter it a i) where
 mem:=by simp
 obj:=λi h st b hb=>by
  have e:b=it:=by simpa using hb
  subst e;obtain⟨o,e,c,d⟩:=st;exact⟨o,e,λv z=>by rw[d]at z;cases z⟩
 keep:=λi h h' st k=>st.at λo e=>k it v6 o e
 item:=by intro X hP hw hK hc i gV s σ H E I hf st hg;subst hP hw hK;obtain⟨xs,x,hq,hx⟩:=hg;obtain⟨its,rv,p,hz⟩:=I.list hq;obtain⟨u,hu,ru⟩:=rv.get hx;obtain⟨f0,f1,f2,f3,f4,f5⟩:=hf it v6;refine wpAny_pyNext_list_item st p.isList (x:=u) (by simpa using hu) λh' st' sb=>?_;have I1:PJ X gV σ H {s with heap:=h' }:=I.turned (t':=s.toks) (λb o hb e=>(sb.2 b hb).trans e) f0 f1 f3 f4 f5;obtain⟨o,e,c,d⟩:=id st';exact⟨u,rfl,HP (s:={s with heap:=h' }) e c d x_ ⟨x,H,I1,ru,⟨rfl,λys hy=>by rw[I.list_inj hy hq];exact hx⟩,st',λb hb=>(hf b hb).1⟩⟩
 done:=by intro X hP hw hK hc i gV s σ H E I hf st hg;subst hP hw hK;obtain⟨xs,hq,hx⟩:=hg;obtain⟨its,rv,p,hz⟩:=I.list hq;obtain⟨f0,f1,f2,f3,f4,f5⟩:=hf it v6;have hl:=rv.length;exact wpAny_pyNext_list_end (I.ok.hd hc) st p.isList (by simp;omega) λh' eb=>⟨rfl,I.turned (t':=s.toks) (λb o hb e=>eb b o hb e) f0 f1 f3 f4 f5⟩
 self:=λ_ _ _ _ _ st h=>wpAny_pyIter_listiter st h
theorem Ax{P:Program}{w:World}{K:PySem.W.Frag}{tg:Expr}(a it:Addr):HN P w K tg (P1 K a) [it] it (λi h=>h.IsTupleIter it a i) where
 mem:=by simp
 obj:=λi h st b hb=>by
  have e:b=it:=by simpa using hb
  subst e;obtain⟨o,e,c,d⟩:=st;exact⟨o,e,λv z=>by rw[d]at z;cases z⟩
 keep:=λi h h' st k=>st.at λo e=>k it v6 o e
 item:=by intro X hP hw hK hc i gV s σ H E I hf st hg;subst hP hw hK;obtain⟨xs,x,hq,hx⟩:=hg;obtain⟨its,rv,p,hz⟩:=I.tuple hq;obtain⟨u,hu,ru⟩:=rv.get hx;obtain⟨f0,f1,f2,f3,f4,f5⟩:=hf it v6;refine wpAny_pyNext_tuple_item st (show s.heap.IsTuple a its.toArray from p) (x:=u) (by simpa using hu) λh' st' sb=>?_;have I1:PJ X gV σ H {s with heap:=h' }:=I.turned (t':=s.toks) (λb o hb e=>(sb.2 b hb).trans e) f0 f1 f3 f4 f5;obtain⟨o,e,c,d⟩:=id st';exact⟨u,rfl,HP (s:={s with heap:=h' }) e c d x_ ⟨x,H,I1,ru,⟨rfl,λys hy=>by rw[I.tuple_inj hy hq];exact hx⟩,st',λb hb=>(hf b hb).1⟩⟩
 done:=by intro X hP hw hK hc i gV s σ H E I hf st hg;subst hP hw hK;obtain⟨xs,hq,hx⟩:=hg;obtain⟨its,rv,p,hz⟩:=I.tuple hq;obtain⟨f0,f1,f2,f3,f4,f5⟩:=hf it v6;have hl:=rv.length;exact wpAny_pyNext_tuple_end (I.ok.hd hc) st (show s.heap.IsTuple a its.toArray from p) (by simp;omega) λh' eb=>⟨rfl,I.turned (t':=s.toks) (λb o hb e=>eb b o hb e) f0 f1 f3 f4 f5⟩
 self:=λ_ _ _ _ _ st h=>wpAny_pyIter_tupleiter st h
theorem Ay{P:Program}{w:World}{K:PySem.W.Frag}{tg:Expr}(it:Addr)(lo:Int)(n:Nat):HN P w K tg (P2 lo n) [it] it (λi h=>IsRangeIter h it (lo+(i:Nat)*1) ((n:Int)-(i:Nat)) 1) where
 mem:=by simp
 obj:=λi h st b hb=>by
  have e:b=it:=by simpa using hb
  subst e
  exact⟨_,st,λv z=>by
   have z':Data.fields _=Data.cell v:=z
   cases z'⟩
 keep:=λi h h' st k=>k it v6 _ st
 item:=by intro X hP hw hK hc i gV s σ H E I hf st hg;subst hP hw hK;obtain⟨f0,f1,f2,f3,f4,f5⟩:=hf it v6;have W:=Walks.range (prog:=X.prog) (w:=X.w) (I.ok.hd hc) it lo 1 n;refine W.item i s _ _ hg st λv h' tk hv st' kk=>?_;obtain⟨t,rfl⟩:=hv;have I1:PJ X gV σ H {s with heap:=h',toks:=tk}:=I.turned (λb o hb e=>kk b o (by simpa using hb) e) f0 f1 f3 f4 f5;refine⟨_,rfl,HP (s:={s with heap:=h',toks:=tk}) (n:="range_iterator") st' rfl rfl x_ ⟨.int (lo+i),H,I1,⟨t,?_⟩,⟨rfl,rfl⟩,st',λb hb=>(hf b hb).1⟩⟩;rw[Int.mul_one]
 done:=by intro X hP hw hK hc i gV s σ H E I hf st hg;subst hP hw hK;obtain⟨f0,f1,f2,f3,f4,f5⟩:=hf it v6;exact wpAny_pyNext_range_end (I.ok.hd hc) st (by have:n<=i:=hg;omega) λh' eb=>⟨rfl,I.turned (t':=s.toks) (λb o hb e=>eb b o hb e) f0 f1 f3 f4 f5⟩
 self:=λ_ _ _ _ _ st h=>wpAny_pyIter_rangeiter st h
section
variable{X:Cx}{tg:Expr}
theorem zh{gV:List (Addr×Obj)}{σ:St}{H:Hp}{s:Shared}{R:It->Hp->Prop}{E:Value->Shared->Prop}{lo hi:Int}{t u v:Tok}{tk:Nat}(I:PJ X gV σ H s)(h1 : -(2^62)<=lo)(h2:lo<2^62)(h3 : -(2^62)<=hi)(h4:hi<2^62)
  (q:R (P2 lo (hi-lo).toNat) H):wpAny (model X.prog X.w) X.A (pyIter (.ref s.heap.objs.size)) (PZ X gV σ tg R) E {s with heap:=s.heap.push {cls:=.type "range",data:=.fields #[.int lo t,.int hi u,.int 1 v] },toks:=tk}:=by
 refine wpAny_pyIter_range (IsRange.new ..) (small_one h1 h2 h3 h4) ?_;have I1:PJ X gV σ H {s with heap:=s.heap.push {cls:=.type "range",data:=.fields #[.int lo t,.int hi u,.int 1 v] },toks:=tk}:=I.kept λb o e=>Uy _ e
 refine⟨(s.heap.push {cls:=.type "range",data:=.fields #[.int lo t,.int hi u,.int 1 v] }).objs.size,[(s.heap.push {cls:=.type "range",data:=.fields #[.int lo t,.int hi u,.int 1 v] }).objs.size],_,_,H,rfl,
  I1.kept (t':=tk) λb o e=>Uy _ e,Ay _ lo (hi-lo).toNat,?_,λb hb=>?_,q⟩
 .
  have e1:lo+((0:Nat):Int)*1=lo:=by simp
  have e2:(((hi-lo).toNat:Nat):Int)-((0:Nat):Int)=Builtin.Range.rangeSize lo hi 1:=by rw[rangeSize_one];split<;>omega
  show IsRangeIter _ _ (lo+((0:Nat):Int)*1) ((((hi-lo).toNat:Nat):Int)-((0:Nat):Int)) 1;rw[e1,e2];exact Heap.get?_push_size _ rfl
 .
  have e:b=(s.heap.push {cls:=.type "range",data:=.fields #[.int lo t,.int hi u,.int 1 v] }).objs.size:=by simpa using hb
  subst e;exact I1.fpOk (UJ _) (I1.hok.fresh (UJ _))
noncomputable def M8(ta:TA):TI:=λσ H R=>ta σ H λvs H1=>∃j:Int,vs=[.int j]/\-(2^62)<=j/\j<2^62/\R (P2 0 j.toNat) H1
noncomputable def M9(ta:TA):TI:=λσ H R=>ta σ H λvs H1=>∃i j:Int,vs=[.int i,.int j]/\(-(2^62)<=i/\i<2^62/\-(2^62)<=j/\j<2^62)/\R (P2 i (j-i).toNat) H1
theorem BO{a:Expr}{ta:TA}{p pos:Pos} (hg:Gl X "range") (hm:X.mg "range"=none) (ha:PA X [a] ta) (hs:starEach [a] X.env=[(false,eval a X.env)]:=by rfl):PI X tg (.Call (.Name "range" p) [a] [] pos) (M8 ta):=by
 intro gV s σ H R I h;refine Call_ (jn I hg hm boot_range (PyProof.Rows.callWith_type1 (PP (ha pos gV s σ H _ I h) λus s1 ⟨vs,H1,I1,r1,q1⟩=>?_) hs rfl));obtain⟨j,e,q1,q2,q⟩:=q1;subst e
 cases r1 with
 | cons r rr =>
  cases rr;obtain⟨t,rfl⟩:=r;exact call_range_1 (zh I1 xL xL q1 q2 (by simpa using q))
theorem BP{a b:Expr}{ta:TA}{p pos:Pos} (hg:Gl X "range") (hm:X.mg "range"=none) (ha:PA X [a,b] ta) (hs:starEach [a,b] X.env=[(false,eval a X.env),(false,eval b X.env)]:=by rfl) (hs2:starEach [b] X.env=[(false,eval b X.env)]:=by rfl) :
  PI X tg (.Call (.Name "range" p) [a,b] [] pos) (M9 ta):=by
 intro gV s σ H R I h;refine Call_ (jn I hg hm boot_range (PyProof.Rows.callWith_type1 (PP (ha pos gV s σ H _ I h) λus s1 ⟨vs,H1,I1,r1,q1⟩=>?_) (by rw[hs,hs2]) (by rw[hs2];rfl)));obtain⟨i,j,e,⟨q1,q2,q3,q4⟩,q⟩:=q1;subst e
 cases r1 with
 | cons r rr =>
  cases rr with
  | cons r' rr =>
   cases rr;obtain⟨t,rfl⟩:=r;obtain⟨t',rfl⟩:=r';exact call_range_2 (zh I1 q1 q2 q3 q4 q)
noncomputable def vn(fp:List Addr)(h:Heap):List (Addr×Obj):=fp.filterMap λb=>(h.get? b).map λo=>(b,o)
theorem kK{fp:List Addr}{h:Heap}{b:Addr}{o:Obj}(hb:b∈fp)(e:h.get? b=some o):(b,o)∈vn fp h:=List.mem_filterMap.mpr ⟨b,hb,by rw[e];rfl⟩
theorem BQ{fp:List Addr}{h:Heap}{p:Addr×Obj}(hp:p∈vn fp h):p.1∈fp/\h.get? p.1=some p.2:=by
 obtain⟨b,hb,e⟩:=List.mem_filterMap.mp hp
 cases q:h.get? b with
 |none=>rw[q]at e;cases e
 | some o =>
  rw[q]at e;have e':(b,o)=p:=Option.some.inj e;subst e';exact⟨hb,q⟩
theorem PJ.pinned{gV:List (Addr×Obj)}{σ:St}{H:Hp}{s:Shared}{fp:List Addr}(I:PJ X gV σ H s)(hf:∀b∈fp,BM X gV H b)(ho:∀b∈fp,∃o,s.heap.get? b=some o/\∀v,o.data≠.cell v):PJ X (gV++vn fp s.heap) σ H s :=
 I.pins_of λp hp=>(List.mem_append.mp hp).elim (λz=>I.pin p (List.mem_append_right _ z)) λz=>by obtain⟨hb,e⟩:=BQ z;obtain⟨f0,f1,f2,_⟩:=hf p.1 hb;obtain⟨o,e',d⟩:=ho p.1 hb;rw[e]at e';cases e';exact⟨e,f0,f1,f2,d⟩
theorem PJ.unpinned{gV pl:List (Addr×Obj)}{σ:St}{H:Hp}{s:Shared}(I:PJ X (gV++pl) σ H s):PJ X gV σ H s:=I.pins_of λp hp=>I.pin p (List.mem_append_right _ (List.mem_append_left _ hp))
end
abbrev R2:=V->V->Hp->VK->Prop
def P4(X:Cx)(f:Value->Value->Sem Value)(r:R2):Prop :=
 ∀(gV:List (Addr×Obj))(s:Shared)(σ:St)(H:Hp)(x y:V)(v u:Value)(Q:VK),PJ X gV σ H s->b8 x v->b8 y u->r x y H Q ->
  wpAny (model X.prog X.w) X.A (f v u) (EP X gV σ Q) X.xe s
def P5(X:Cx)(f:Value->Sem Value)(r:V->Hp->VK->Prop):Prop :=
 ∀(gV:List (Addr×Obj))(s:Shared)(σ:St)(H:Hp)(x:V)(v:Value)(Q:VK),PJ X gV σ H s->b8 x v->r x H Q ->
  wpAny (model X.prog X.w) X.A (f v) (EP X gV σ Q) X.xe s
def jI(X:Cx)(f:Value)(r:List V->Hp->VK->Prop):Prop :=
 ∀(gV:List (Addr×Obj))(s:Shared)(σ:St)(H:Hp)(xs:List V)(us:List Value)(Q:VK),PJ X gV σ H s->bO xs us->r xs H Q ->
  wpAny (model X.prog X.w) X.A (call f us) (EP X gV σ Q) X.xe s
def P6(r:R2)(ta tb:TE):TE:=λσ H Q=>ta σ H λx H1=>tb σ H1 λy H2=>r x y H2 Q
def rI(C:Int->Int->Prop)(g:Int->Int->V):R2:=λx y H Q=>∃i j,x=.int i/\y=.int j/\C i j/\Q (g i j) H
def P7(g:Int->Int->V):R2:=λx y H Q=>∃i j,x=.int i/\y=.int j/\Q (g i j) H
def rU(g:Int->V):V->Hp->VK->Prop:=λx H Q=>∃i,x=.int i/\Q (g i) H
section
variable{X:Cx}{a b:Expr}{ta tb:TE}
theorem OW(ha:PE X a ta)(hb:PE X b tb){gV:List (Addr×Obj)}{s:Shared}{σ:St}{H:Hp}{R:V->V->Hp->Prop}(I:PJ X gV σ H s)
  (h:ta σ H λx H1=>tb σ H1 λy H2=>R x y H2) {Q:Value->Shared->Prop} {f:Value->Value->Sem Value}
  (hf:∀v u s2 x y H2,PJ X gV σ H2 s2->b8 x v->b8 y u->R x y H2->wpAny (model X.prog X.w) X.A (f v u) Q X.xe s2) :
  wpAny (model X.prog X.w) X.A (eval a X.env) (λv s₁=>wpAny (model X.prog X.w) X.A (eval b X.env) (λu s₂=>wpAny (model X.prog X.w) X.A (f v u) Q X.xe s₂) X.xe s₁) X.xe s:=by
 refine PP (ha gV s σ H _ I h) λv s1 ⟨x,H1,I1,r1,q1⟩=>?_;refine PP (hb gV s1 σ H1 _ I1 q1) λu s2 ⟨y,H2,I2,r2,q2⟩=>?_;exact hf v u s2 x y H2 I2 r1 r2 q2
theorem P8{f:Value->Value->Sem Value}{C:Int->Int->Prop}{g:Int->Int->Int}
  (rule:∀(i j:Int)(t u:Tok)(s:Shared)(Q:Value->Shared->Prop)(E:Value->Shared->Prop),C i j->Q (.int (g i j) s.toks) {s with toks:=s.toks+1}->wpAny (model X.prog X.w) X.A (f (.int i t) (.int j u)) Q E s) :
  P4 X f (rI C λi j=>.int (g i j)):=by
 intro gV s σ H x y v u Q I rx ry h;obtain⟨i,j,rfl,rfl,hc,q⟩:=h;obtain⟨t,rfl⟩:=rx;obtain⟨t',rfl⟩:=ry;exact rule i j t t' s _ _ hc ⟨.int (g i j),H,I.tok _,⟨_,rfl⟩,q⟩
theorem Ot{f:Value->Value->Sem Value}{g:Int->Int->Int}
  (rule:∀(i j:Int)(t u:Tok)(s:Shared)(Q:Value->Shared->Prop)(E:Value->Shared->Prop),Q (.int (g i j) s.toks) {s with toks:=s.toks+1}->wpAny (model X.prog X.w) X.A (f (.int i t) (.int j u)) Q E s) :
  P4 X f (P7 λi j=>.int (g i j)):=by
 intro gV s σ H x y v u Q I rx ry h;obtain⟨i,j,rfl,rfl,q⟩:=h;obtain⟨t,rfl⟩:=rx;obtain⟨t',rfl⟩:=ry;exact rule i j t t' s _ _ ⟨.int (g i j),H,I.tok _,⟨_,rfl⟩,q⟩
theorem MU{f:Value->Value->Sem Value}{g:Int->Int->Bool}
  (rule:∀(i j:Int)(t u:Tok)(s:Shared)(Q:Value->Shared->Prop)(E:Value->Shared->Prop),Q (.bool (g i j)) s->wpAny (model X.prog X.w) X.A (f (.int i t) (.int j u)) Q E s) :
  P4 X f (P7 λi j=>.bl (g i j)):=by
 intro gV s σ H x y v u Q I rx ry h;obtain⟨i,j,rfl,rfl,q⟩:=h;obtain⟨t,rfl⟩:=rx;obtain⟨t',rfl⟩:=ry;exact rule i j t t' s _ _ ⟨.bl (g i j),H,I,rfl,q⟩
def OX(i j:Int):Prop:=0<=j/\j<=1000000/\i.natAbs<2^64
def Ou(i j:Int):Prop:=(-(2^64)<i/\i<2^64)∨(-(2^64)<j/\j<2^64)
theorem Ou.ok{i j:Int}(h:Ou i j):IntMulOk i j:=by
 rcases h with⟨h1,h2⟩|⟨h1,h2⟩
 . exact .of_left (intBits_le_64 h1 h2)
 . exact .of_right (intBits_le_64 h1 h2)
theorem KF:P4 X (binaryOp .Add) (P7 λi j=>.int (i+j)):=Ot λ_ _ _ _ _ _ _ q=>add_int q
theorem KG:P4 X (binaryOp .Sub) (P7 λi j=>.int (i-j)):=Ot λ_ _ _ _ _ _ _ q=>sub_int q
theorem HQ:P4 X (binaryOp .Mod) (rI (λ_ j=>j≠0) λi j=>.int (i.fmod j)):=P8 λ_ _ _ _ _ _ _ hc q=>mod_int' hc q
theorem KH:P4 X (binaryOp .Pow) (rI OX λi j=>.int (i^j.toNat)):=P8 λ_ _ _ _ _ _ _ hc q=>pow_int_small hc.1 hc.2.1 hc.2.2 q
theorem P9{f:Value->Sem Value}{g:Int->Int}
  (rule:∀(i:Int)(t:Tok)(s:Shared)(Q:Value->Shared->Prop)(E:Value->Shared->Prop),Q (.int (g i) s.toks) {s with toks:=s.toks+1}->wpAny (model X.prog X.w) X.A (f (.int i t)) Q E s) :
  P5 X f (rU λi=>.int (g i)):=by
 intro gV s σ H x v Q I rx h;obtain⟨i,rfl,q⟩:=h;obtain⟨t,rfl⟩:=rx;exact rule i t s _ _ ⟨.int (g i),H,I.tok _,⟨_,rfl⟩,q⟩
theorem KI:P5 X (unaryOp .USub) (rU λi=>.int (-i)):=P9 λ_ _ _ _ _ q=>neg_int q
end
section
variable{X:Cx}{a b c:Expr}{ta tb tc:TE}{pos:Pos}
theorem GV{gV:List (Addr×Obj)}{σ:St}{H:Hp}{s:Shared}{Q:VK}{k k':Bool}(I:PJ X gV σ H s)(q:Q (.bl k) H)(e:k=k'):EP X gV σ Q (.bool k') s:=by subst e;exact⟨.bl k,H,I,rfl,q⟩
theorem KJ:P4 X (compareOp .Lt) (P7 λi j=>.bl (decide (i<j))):=MU λ_ _ _ _ _ _ _ q=>lt_int q
theorem Na:P4 X (compareOp .LtE) (P7 λi j=>.bl (decide (i<=j))):=MU λ_ _ _ _ _ _ _ q=>le_int q
theorem Nc:P4 X (compareOp .Gt) (P7 λi j=>.bl (decide (j<i))):=MU λ_ _ _ _ _ _ _ q=>gt_int q
theorem Nd:P4 X (compareOp .GtE) (P7 λi j=>.bl (decide (j<=i))):=MU λ_ _ _ _ _ _ _ q=>ge_int q
theorem KL:P4 X (compareOp .Is) (λx y H Q=>y=.non/\Q (.bl (decide (x=.non))) H):=by
 intro gV s σ H x y v u Q I rx ry h;obtain⟨rfl,q⟩:=h;cases ry;refine is_none_gen (GV I q ?_)
 cases x<;>first
  |(cases rx;rfl)
  |(obtain⟨t,rfl⟩:=rx;rfl)
theorem HR:P4 X (compareOp .IsNot) (λx y H Q=>y=.non/\Q (.bl (!decide (x=.non))) H):=by
 intro gV s σ H x y v u Q I rx ry h;obtain⟨rfl,q⟩:=h;cases ry;refine isnot_none_gen (GV I q ?_)
 cases x<;>first
  |(cases rx;rfl)
  |(obtain⟨t,rfl⟩:=rx;rfl)
theorem aY(b:Expr){op:CmpOp}(h:op≠.In:=by decide)(h2:op≠.NotIn:=by decide):behindInMarks op b=false:=by
 have e1:(op == CmpOp.In)=false:=by cases op<;>first|rfl|exact absurd rfl h
 have e2:(op == CmpOp.NotIn)=false:=by cases op<;>first|rfl|exact absurd rfl h2
 cases b<;>simp[behindInMarks,e1,e2]
def GW(r r':R2)(ta tb tc:TE):TE:=λσ H Q=>ta σ H λx H1=>tb σ H1 λy H2=>r x y H2 λz H3=>∃k,z=.bl k /\
 (if k=true then tc σ H3 λw' H4=>r' y w' H4 Q else Q (.bl false) H3)
theorem Ep{op op':CmpOp}{r r':R2}(ho:P4 X (compareOp op) r)(ho':P4 X (compareOp op') r')(ha:PE X a ta)(hb:PE X b tb)(hc:PE X c tc)
  (hm:lastMarks [op,op'] [b,c]=false:=by with_unfolding_all rfl):PE X (.Compare a [op,op'] [b,c] pos) (GW r r' ta tb tc):=by
 intro gV s σ H Q I h
 refine Compare_chain (PP (ha gV s σ H _ I h) λv s1 ⟨x,H1,I1,r1,q1⟩=>chain_link (PP (hb gV s1 σ H1 _ I1 q1) λu s2 ⟨y,H2,I2,r2,q2⟩ =>
  PP (ho gV s2 σ H2 x y v u _ I2 r1 r2 q2) λd s3 ⟨z,H3,I3,r3,k,e,q3⟩=>?_)) hm
 subst e;cases r3;refine wpAny_truthy_bool ?_
 cases k with
 |false=>exact ite_ff ⟨.bl false,H3,I3,rfl,q3⟩
 |true=>exact ite_tt (chain_last (PP (hc gV s3 σ H3 _ I3 q3) λw' s4 ⟨z',H4,I4,r4,q4⟩=>ho' gV s4 σ H4 y z' u w' Q I4 r2 r4 q4))
theorem sQ:(sizeLine:Nat)<2^63:=by rw[sizeLine_eq];decide
theorem Az:P4 X (binaryOp .Add) (λx y H Q=>∃i j,x=.str i/\y=.str j/\i.length+j.length<=sizeLine/\Q (.str (i++j)) H):=by intro gV s σ H x y v u Q I rx ry h;obtain⟨i,j,rfl,rfl,hz,q⟩:=h;obtain⟨t,rfl⟩:=rx;obtain⟨t',rfl⟩:=ry;exact add_str (λt' tk=>⟨.str (i++j),H,I.tok _,⟨_,rfl⟩,q⟩) hz
theorem tZ{x:V}{us:List Value}(r:bO [x] us):∃u,us=[u]/\b8 x u:=by
 cases r with
 |cons r1 r2=>cases r2;exact⟨_,rfl,r1⟩
theorem Er{x y:V}{us:List Value}(r:bO [x,y] us):∃u w',us=[u,w']/\b8 x u/\b8 y w':=by
 cases r with
 | cons r1 r2 =>
  cases r2 with
  |cons r3 r4=>cases r4;exact⟨_,_,rfl,r1,r3⟩
theorem Es:jI X (.builtin "abs") (λxs H Q=>∃ i,xs=[.int i]/\Q (.int (if i < 0 then -i else i)) H):=by
 intro gV s σ H xs us Q I r h;obtain⟨i,rfl,q⟩:=h;obtain⟨u,rfl,t,rfl⟩:=tZ r
 exact call_abs_int λu tk=>⟨.int (if i<0 then -i else i),H,I.tok _,⟨_,rfl⟩,q⟩
theorem BR(hc:X.calm=true):jI X (.builtin "max") (λxs H Q=>∃ i j,xs=[.int i,.int j]/\Q (.int (if j > i then j else i)) H):=by
 intro gV s σ H xs us Q I r h;obtain⟨i,j,rfl,q⟩:=h;obtain⟨u,w',rfl,⟨t,rfl⟩,⟨t',rfl⟩⟩:=Er r;refine max_two_ints (I.ok.hd hc) λh' tk k=>⟨_,H,I.kept k,?_,q⟩;by_cases hj:j > i
 . rw[if_pos hj,if_pos hj];exact⟨_,rfl⟩
 . rw[if_neg hj,if_neg hj];exact⟨_,rfl⟩
theorem BS(hc:X.calm=true):jI X (.builtin "min") (λxs H Q=>∃ i j,xs=[.int i,.int j]/\Q (.int (if j < i then j else i)) H):=by
 intro gV s σ H xs us Q I r h;obtain⟨i,j,rfl,q⟩:=h;obtain⟨u,w',rfl,⟨t,rfl⟩,⟨t',rfl⟩⟩:=Er r;refine min_two_ints (I.ok.hd hc) λh' tk k=>⟨_,H,I.kept k,?_,q⟩;by_cases hj:j<i
 . rw[if_pos hj,if_pos hj];exact⟨_,rfl⟩
 . rw[if_neg hj,if_neg hj];exact⟨_,rfl⟩
theorem BU:jI X (.type "int") (λxs H Q=>(∃ i,xs=[.int i]/\Q (.int i) H)∨∃ k,xs=[.bl k]/\Q (.int (if k then 1 else 0)) H):=by
 intro gV s σ H xs us Q I r h;rcases h with⟨i,rfl,q⟩|⟨k,rfl,q⟩
 . obtain⟨u,rfl,t,rfl⟩:=tZ r;exact call_int_int ⟨.int i,H,I,⟨_,rfl⟩,q⟩
 .
  obtain⟨u,rfl,r1⟩:=tZ r;cases r1
  exact call_int_bool ⟨.int (if k then 1 else 0),H,I.tok _,⟨_,rfl⟩,q⟩
end
structure gI (k:Nat) (A:Around):Prop where
 hd:A.handled=none
 dp:A.depth+3*k+5<recursionLimit
 un:A.units+16*k+200<cLine
 gd:A.guards=some []
theorem gI.mono{j k:Nat}{A:Around}(r:gI k A)(h:j<=k):gI j A:=⟨r.hd,by have:=r.dp;omega,by have:=r.un;omega,r.gd⟩
theorem gI.deeper{k:Nat}{A:Around}(r:gI (k+1) A)(env:Env):gI k (A.deeper env) :=
 ⟨r.hd,by have:=r.dp;show A.depth+1+3*k+5<_;omega,by have:=r.un;show A.units+3+16*k+200<_;omega,r.gd⟩
theorem gI.in1{k:Nat}{A:Around}(r:gI (k+1) A):gI k A.in1 :=
 ⟨r.hd,by have:=r.dp;show A.depth+3*k+5<_;omega,by have:=r.un;show A.units+1+16*k+200<_;omega,r.gd⟩
theorem AA{A:Around}{C:Addr}{us:List Value}{kw:List (Str×Value)}:(A.under (.builtin "type.__call__" ⟨.ref C::us,kw⟩)).depth=A.depth+1:=by
 first|rfl|simp[Around.under,Code.weight,Code.isCreation,Code.isGuard,Code.isCaller,Code.frames,Code.isFrame,guardIds]
theorem AB{A:Around}{C:Addr}{us:List Value}{kw:List (Str×Value)}:(A.under (.builtin "type.__call__" ⟨.ref C::us,kw⟩)).units=A.units+1:=by
 first|rfl|simp[Around.under,Code.cUnits,Code.frames,Code.isFrame]
theorem gI.make{k:Nat}{A:Around}(r:gI (k+1) A)(C:Addr)(us:List Value)(kw:List (Str×Value)):gI k (A.under (.builtin "type.__call__" ⟨.ref C::us,kw⟩)) :=
 ⟨r.hd,by have:=r.dp;rw[AA];omega,by have:=r.un;rw[AB];omega,by rw[<- r.gd];first|rfl|simp[Around.under,Code.guards,Code.isGuard,pushGuards,guardIds]⟩
theorem gI.depth{k:Nat}{A:Around}(r:gI k A):A.depth<recursionLimit:=by have:=r.dp;omega
theorem gI.units{k:Nat}{A:Around}(r:gI k A):A.units+64<cLine:=by have:=r.un;omega
noncomputable def Ng:TA:=λ_ H Q=>Q [] H
noncomputable def BV(ta:TE)(tr:TA):TA:=λσ H Q=>ta σ H λx H1=>tr σ H1 λxs H2=>Q (x::xs) H2
section
variable{X:Cx}{e:Expr}{es:List Expr}{te:TE}{t:TA}{pos:Pos}
theorem ly:PA X [] Ng:=λ_ _ _ _ H Q I h=>Calls.spliced_nil ⟨[],H,I,.nil,h⟩
theorem cW(ha:PE X e te)(hr:PA X es t)(hs:starEach (e::es) X.env=(false,eval e X.env)::starEach es X.env:=by rfl):PA X (e::es) (BV te t):=by intro pos gV s σ H Q I h;rw[hs];show wpAny _ _ (spliced ((false,eval e X.env)::backTo pos (starEach es X.env))) _ _ s;refine Calls.spliced_cons (PP (ha gV s σ H _ I h) λu s1 ⟨x,H1,I1,r1,q1⟩=>?_);exact PP (hr pos gV s1 σ H1 _ I1 q1) λus s2 ⟨xs,H2,I2,r2,q2⟩=>⟨x::xs,H2,I2,.cons r1 r2,q2⟩
end
noncomputable abbrev Sp:=List V->Hp->VK->XK->Prop
noncomputable abbrev Qa:=List Env->Hp->Shared->XK->Value->Shared->Prop
structure AC (P:Program) (w:World) (K:PySem.W.Frag) (mg:Str->Option Value) (base:Heap) (A:Around) (outer:List Env) (s:Shared) (H:Hp):Prop where
 frames:A.frames=some outer
 mod:Mod K mg base
 bs:∀b o,base.get? b=some o->s.heap.get? b=some o/\H b=none
 bsz:base.objs.size<=s.heap.objs.size
 funs:s.heap.FunFrames base outer
 frf:∀b∈PD outer,H b=none
 hok:Pw P w H s.heap
 bare:AllBare s.gens
 tbs:Pz K H
def CE(outer:List Env)(P:Program)(w:World)(H:Hp)(s:Shared)(Q:VK)(u:Value)(s':Shared):Prop :=
 ∃v H',s'.os=s.os/\AllBare s'.gens/\Un (PD outer) [] H H' s.heap s'.heap/\Pw P w H' s'.heap/\b8 v u/\Q v H'
def CR(CX:Qa)(outer:List Env)(P:Program)(w:World)(H:Hp)(s:Shared)(Q:VK)(E:XK)(r:Result)(s':Shared):Prop :=
 match r with
 |.ok (.ret u)=>CE outer P w H s Q u s'
 |.ok _=>False
 |.error e=>CX outer H s E e s'
structure FnOk (P:Program) (w:World) (K:PySem.W.Frag) (mg:Str->Option Value) (base:Heap) (CX:Qa) (k:Nat) (f:Addr) (fd:FuncData) (ps:List Str) (sp:Sp):Prop where
 len:∀vs H Q E,sp vs H Q E->vs.length=ps.length
 run:∀(A:Around)(outer:List Env)(s:Shared)(H:Hp)(args:Args)(us:List Value)(vs:List V)(Q:VK)(E:XK),gI k A->AC P w K mg base A outer s H->BindsTo s fd args (ps.zip us)->bO vs us->sp vs H Q E ->
  codeAny (model P w) A (.call (.ref f) args) (CR CX outer P w H s Q E) s
theorem FnOk.mono{P:Program}{w:World}{K:PySem.W.Frag}{mg:Str->Option Value}{base:Heap}{CX:Qa}{j k:Nat}{f:Addr}{fd:FuncData}{ps:List Str}{sp:Sp}(F:FnOk P w K mg base CX j f fd ps sp)(h:j<=k) :
  FnOk P w K mg base CX k f fd ps sp:=⟨F.len,λA outer s H args us vs Q E hr=>F.run A outer s H args us vs Q E (hr.mono h)⟩
theorem AC.make{P:Program}{w:World}{K:PySem.W.Frag}{mg:Str->Option Value}{base:Heap}{A:Around}{outer:List Env}{s:Shared}{H:Hp}(e:AC P w K mg base A outer s H)(C:Addr)(us:List Value)(kw:List (Str×Value)) :
  AC P w K mg base (A.under (.builtin "type.__call__" ⟨.ref C::us,kw⟩)) outer s H:=⟨by first | exact e.frames | (simpa[Around.under,Code.envs,Code.isFrame,pushEnvs]using e.frames),e.mod,e.bs,e.bsz,e.funs,e.frf,e.hok,e.bare,e.tbs⟩
theorem AC.in1{P:Program}{w:World}{K:PySem.W.Frag}{mg:Str->Option Value}{base:Heap}{A:Around}{outer:List Env}{s:Shared}{H:Hp}(e:AC P w K mg base A outer s H) :
  AC P w K mg base A.in1 outer s H:=⟨e.frames,e.mod,e.bs,e.bsz,e.funs,e.frf,e.hok,e.bare,e.tbs⟩
section
variable{X:Cx}{gV:List (Addr×Obj)}{σ:St}{H:Hp}{s s':Shared}
theorem PJ.env0(I:PJ X gV σ H s):AC X.prog X.w X.K X.mg X.base X.A X.stack s H :=
 ⟨I.ok.frames,I.ok.mod,I.bs,Nat.le_trans I.ok.bsz I.sz,I.stack,I.stkFree,I.hok,I.bare,I.tbs⟩
theorem PJ.after{Q:VK}{u:Value}(I:PJ X gV σ H s)(h:CE X.stack X.prog X.w H s Q u s'):EP X gV σ Q u s':=by obtain⟨v,H',os,bare,un,hok,r,q⟩:=h;obtain⟨hh,g,d,t,os'⟩:=s';obtain rfl:os'=s.os:=os;exact⟨v,H',I.call (h':=hh) (g':=g) (d':=d) (t':=t) (ch:=[]) un hok bare (λb z=>absurd z v6),r,q⟩
end
def nN(K:PySem.W.Frag)(fd:FuncData)(ps:List Str)(ds:List Value):Prop :=
 ∀(s:Shared)(us:List Value),K.In s.heap->(us++ds).length=ps.length->BindsTo s fd ⟨us,[]⟩ (ps.zip (us++ds))
theorem nN.all{K:PySem.W.Frag}{fd:FuncData}{ps:List Str}(h:∀us:List Value,us.length=ps.length->bindArgs fd ⟨us,[]⟩=pure (ps.zip us)):nN K fd ps []:=λs us _ hl=>by rw[List.append_nil]at hl ⊢;exact .of_eq (h us hl)
def zi(CX:Qa)(X:Cx)(E:XK):Prop:=∀(gV:List (Addr×Obj))(σ:St)(H:Hp)(s:Shared)(e:Value)(s':Shared),PJ X gV σ H s->CX X.stack H s E e s'->X.xe e s'
section
variable{X:Cx}{CX:Qa}{k:Nat}{f:Addr}{fd:FuncData}{ps:List Str}{sp:Sp}{dvs:List V}{ds:List Value}{E:XK}{e:Expr}
theorem BW{gV:List (Addr×Obj)}{σ:St}{H:Hp}{s:Shared}{Q:VK}{us:List Value}{vs:List V}(F:FnOk X.prog X.w X.K X.mg X.base CX k f fd ps sp)(hr:gI k X.A)(hb:nN X.K fd ps ds)(hd:bO dvs ds)(hx:zi CX X E)
  (I:PJ X gV σ H s) (r:bO vs us) (h:sp (vs++dvs) H Q E):wpAny (model X.prog X.w) X.A (call (.ref f) us) (EP X gV σ Q) X.xe s:=by
 have r2:bO (vs++dvs) (us++ds):=r.append hd;have hl:(us++ds).length=ps.length:=by rw[<- r2.length];exact F.len _ _ _ _ h
 refine wpAny_call (codeAny_mono (F.run X.A X.stack s H ⟨us,[]⟩ (us++ds) (vs++dvs) Q E hr I.env0 (hb s us I.kIn hl) r2 h) λr s' hq=>?_)
 cases r with
 |error e=>exact hx gV σ H s e s' I hq
 | ok fl =>
  cases fl with
  |ret u=>exact I.after hq
  |next=>exact False.elim hq
  |brk=>exact False.elim hq
  |cont=>exact False.elim hq
end
structure az (N P:List Str) (sc:Scope):Prop where
 kind:sc.kind=.function
 co:sc.isCoroutine=false
 gen:sc.isGenerator=false
 nd:N.Nodup
 pre:N.take P.length=P
 par:∀x∈P,sc.names.lookup x=some .local∨sc.names.lookup x=some .cell
 nofree:∀y∈sc.names,y.2≠.free
theorem vo{kindOf:Str->Option NameKind}{x:Str}:∀{binds:List (Str×Value)}{m:Str->Option Value},(∀v,(x,v)∉binds)->bindL kindOf binds m x=m x
 |[],_,_=>rfl
 | (n,v)::r,m,h=>by
  unfold bindL;rw[vo λw hw=>h w (tu _ hw)];split
  .
   have:x≠n:=by rintro rfl;exact h v Uz
   simp[this]
  . rfl
theorem vp{kindOf:Str->Option NameKind}{x:Str}:∀{binds:List (Str×Value)}{m:Str->Option Value},(∀v,(x,v)∉binds)->bindC kindOf binds m x=m x
 |[],_,_=>rfl
 | (n,v)::r,m,h=>by
  unfold bindC;rw[vp λw hw=>h w (tu _ hw)];split
  . rfl
  .
   have:x≠n:=by rintro rfl;exact h v Uz
   simp[this]
theorem vq{kindOf:Str->Option NameKind}{x:Str}{v:Value}:∀{P:List Str}{vs:List Value}{i:Nat}{m:Str->Option Value},P.Nodup->P[i]?=some x->vs[i]?=some v->kindOf x=some .local ->
  bindL kindOf (P.zip vs) m x=some v
 |[],_,_,_,_,h,_,_=>by simp at h
 |_::_,[],_,_,_,_,h,_=>by simp at h
 | p::P,w::vs,0,m,nd,h1,h2,hk=>by simp at h1 h2;subst h1;subst h2;show bindL kindOf ((p,w)::P.zip vs) m p=_;unfold bindL;rw[vo λv hv=>(List.nodup_cons.mp nd).1 (List.of_mem_zip hv).1,if_pos hk];simp
 | p::P,w::vs,i+1,m,nd,h1,h2,hk=>by show bindL kindOf ((p,w)::P.zip vs) m x=_;unfold bindL;exact vq (i:=i) (List.nodup_cons.mp nd).2 (by simpa using h1) (by simpa using h2) hk
theorem vt{kindOf:Str->Option NameKind}{x:Str}{v:Value}:∀{P:List Str}{vs:List Value}{i:Nat}{m:Str->Option Value},P.Nodup->P[i]?=some x->vs[i]?=some v->kindOf x≠some .local ->
  bindC kindOf (P.zip vs) m x=some v
 |[],_,_,_,_,h,_,_=>by simp at h
 |_::_,[],_,_,_,_,h,_=>by simp at h
 | p::P,w::vs,0,m,nd,h1,h2,hk=>by simp at h1 h2;subst h1;subst h2;show bindC kindOf ((p,w)::P.zip vs) m p=_;unfold bindC;rw[vp λv hv=>(List.nodup_cons.mp nd).1 (List.of_mem_zip hv).1,if_neg hk];simp
 | p::P,w::vs,i+1,m,nd,h1,h2,hk=>by show bindC kindOf ((p,w)::P.zip vs) m x=_;unfold bindC;exact vt (i:=i) (List.nodup_cons.mp nd).2 (by simpa using h1) (by simpa using h2) hk
noncomputable def nO(N:List Str)(vs:List V):St:=vs.map some++List.replicate (N.length-vs.length) none
noncomputable def Eg(CX:Qa)(P:Program)(w:World)(K:PySem.W.Frag)(mg:Str->Option Value)(base:Heap)(N:List Str)(qual:Str)(scope:Scope)(f:Addr)(cd:Value)(A:Around)(outer:List Env)(s:Shared)(H:Hp)(E:XK):Cx where
 prog:=P
 w:=w
 K:=K
 mg:=mg
 base:=base
 A:=A.deeper (envOfC qual scope s.heap.objs.size f cd)
 N:=N
 s₀:=s
 H₀:=H
 env:=envOfC qual scope s.heap.objs.size f cd
 outer:=outer
 stack:=envOfC qual scope s.heap.objs.size f cd::outer
 ex:=[]
 calm:=true
 fn:=λ_=>true
 pn:=[]
 xe:=λe s'=>wpAny (model P w) (A.deeper (envOfC qual scope s.heap.objs.size f cd)) (leaving (envOfC qual scope s.heap.objs.size f cd) e) (λ_ s''=>CX outer H s E e s'') (λe' s''=>CX outer H s E e' s'') s'
theorem zj{sc:Scope}{n:Nat}{x:Str}(h:sc.names.lookup x=some .cell):∃c,(cellsFrom n sc.names []).lookup x=some c:=by have q:=PySem.W.cellsFrom_some sc.names n [] (.inl h);exact Option.isSome_iff_exists.mp q
theorem BX{CX:Qa}{P:Program}{w:World}{K:PySem.W.Frag}{mg:Str->Option Value}{base:Heap}{N ps:List Str}{qual:Str}{scope:Scope}{f:Addr}{cd:Value}{A:Around}{outer:List Env}{s s1:Shared}{H:Hp}{E:XK}{us:List Value}{vs:List V}
  (S:az N ps scope) (hd:A.handled=none) (e0:AC P w K mg base A outer s H) (hl:vs.length=ps.length) (r:bO vs us)
  (x:InCallC s s.heap.objs.size (bindL (envOfC qual scope s.heap.objs.size f cd).kindOf (ps.zip us) λ_=>none) (cellsFrom (s.heap.objs.size+1) scope.names []) (bindC (envOfC qual scope s.heap.objs.size f cd).kindOf (ps.zip us) λ_=>none) s1) :
  PJ (Eg CX P w K mg base N qual scope f cd A outer s H E) [] (nO N vs) H s1:=by
 have hpl:ps.length<=N.length:=by have:=congrArg List.length S.pre;rw[List.length_take]at this;omega
 obtain⟨h1,tk,rfl,hk⟩:=x.done;have noA:∀b:Addr,b∉(Eg CX P w K mg base N qual scope f cd A outer s H E).ex:=λb z=>absurd (show b∈([]:List Addr)from z) v6
 refine⟨⟨e0.mod,S.kind,rfl,rfl,UJ _,λy z c h1 h2=>?_,λy hy=>?_,λy c _ h=>?_,λ_=>hd,Around.frames_deeper e0.frames,.inr ⟨rfl,rfl⟩,λb z=>absurd z (noA b),e0.bs,e0.bsz,λb _ _=>noA b,λb z=>absurd z (noA b),e0.funs,e0.frf,e0.tbs⟩,
  rfl,e0.bare,Un.kept hk,⟨_,x.toInCall.ns,λi y v h1 h2 h3=>?_⟩,λy c h=>⟨_,x.cell y c h⟩,e0.hok.fresh (UJ _),λy c h=>?_,λp hp=>absurd (show p∈([]:List (Addr×Obj))from hp) v6,e0.hok.kept hk,?_⟩
 . exact name_of_addr x.apart (PySem.mem_of_lookup h1) (PySem.mem_of_lookup h2)
 .
  have hy:scope.names.lookup y=some .cell∨scope.names.lookup y=some .free:=hy;rcases hy with hy|hy
  . exact zj hy
  . exact absurd rfl (S.nofree _ (PySem.mem_of_lookup hy))
 . exact Nat.le_of_lt (x.above y c (PySem.mem_of_lookup h))
 .
  have hi:i<vs.length:=by
   unfold nO at h2;by_cases hi:i<vs.length
   . exact hi
   . rw[List.getElem?_append_right (by simpa using hi)]at h2;rw[List.getElem?_replicate]at h2;split at h2<;>cases h2
  have ha:vs[i]?=some v:=by
   unfold nO at h2;rw[List.getElem?_append_left (by simpa using hi),List.getElem?_map]at h2
   cases e:vs[i]? with
   |none=>rw[e]at h2;cases h2
   |some a=>rw[e]at h2;cases h2;rfl
  obtain⟨u,hu,rv⟩:=r.get ha;have hp:ps[i]?=some y:=by rw[<- S.pre,List.getElem?_take_of_lt xL];exact h1
  have ndP:ps.Nodup:=by rw[<- S.pre];exact S.nd.sublist (List.take_sublist _ _)
  refine⟨u,rv,?_⟩;rcases S.par y (List.mem_of_getElem? hp)with k|k
  . exact .inl ⟨k,vq ndP hp hu k⟩
  . obtain⟨c,e⟩:=zj (n:=s.heap.objs.size+1) k;refine .inr ⟨.inl k,c,e,?_⟩;have q:=x.cell y c e;rw[vt ndP hp hu (by show scope.names.lookup y≠_;rw[k];decide)]at q;exact q
 . exact .inl (e0.hok.fresh (Nat.le_of_lt (x.above y c (PySem.mem_of_lookup h))))
 . unfold nO;show _=N.length;rw[List.length_append,UC,List.length_replicate];omega
theorem HS{CX:Qa}{P:Program}{w:World}{K:PySem.W.Frag}{mg:Str->Option Value}{base:Heap}{k:Nat}{f:Addr}{name qual:Str}{params:Arguments}{body:List Stmt}{scope:Scope}{dV kV doc pm cdv ct oc:Value}{an od:Option Addr}
  {osl:Array (Option Value)} {N ps:List Str} {sp:Sp} (lk:K.lookup f=some ⟨oc,od,.func (PySem.W.fnOf name qual params body scope dV kV doc pm an cdv ct),osl⟩) (hcd:PySem.W.codeIn K cdv qual=true) (S:az N ps scope)
  (len:∀vs H Q E,sp vs H Q E->vs.length=ps.length)
  (hbody:∀(A:Around)(outer:List Env)(s:Shared)(H:Hp)(vs:List V)(Q:VK)(E:XK),gI k (A.deeper (envOfC qual scope s.heap.objs.size f cdv))->sp vs H Q E ->
   ∃t,PN (Eg CX P w K mg base N qual scope f cdv A outer s H E) body t/\t {nx:=λ_ H'=>Q .non H',rt:=Q} (nO N vs) H) :
  FnOk P w K mg base CX (k+1) f (PySem.W.fnOf name qual params body scope dV kV doc pm an cdv ct) ps sp:=by
 refine⟨len,λA outer s H args us vs Q E hr e0 hb r hsp=>?_⟩;have hl:=len _ _ _ _ hsp;have KX:K.In s.heap:=e0.mod.kin.keeps λb o e=>(e0.bs b o e).1;have lim:s.heap.NoLimit:=e0.mod.nolimit.keeps λb o e=>(e0.bs b o e).1
 have hkind:∀y∈ps.zip us,scope.names.lookup y.1=some .local∨(scope.names.lookup y.1=some .cell/\((cellsFrom (s.heap.objs.size+1) scope.names []).lookup y.1).isSome=true):=fun⟨n,v⟩ hy=>by
  rcases S.par n (List.of_mem_zip hy).1 with q|q
  . exact .inl q
  . exact .inr ⟨q,PySem.W.cellsFrom_some _ _ _ (.inl q)⟩
 refine codeAny_call_function hr.depth (KX _ _ lk) rfl S.co S.gen rfl (PySem.W.codeRec_of KX hcd) (hb _ _ _ _ ?_);refine wpAny_newFunctionEnv_cells S.kind hkind λenv he s1 x=>?_;subst he;refine⟨lim.keeps x.toInCall.keep,codeAny_func ?_⟩;obtain⟨t,ht,hq⟩:=hbody A outer s H vs Q E (hr.deeper _) hsp;have I:PJ (Eg CX P w K mg base N qual scope f cdv A outer s H E) [] (nO N vs) H s1:=BX S hr.hd e0 hl r x;refine wpAny_mono (ht [] s1 (nO N vs) H _ I hq) (λfl s' hs=>?_) λe s' hs=>hs
 have PR:∀{σ':St}{H':Hp}{v:V}{u:Value},PJ (Eg CX P w K mg base N qual scope f cdv A outer s H E) [] σ' H' s'->b8 v u->Q v H'->CE outer P w H s Q u s' :=
  λ{σ' H' v u} J rv q=>⟨v,H',J.os,J.bare,J.base,J.hok,rv,q⟩
 cases fl with
 | ret u =>
  obtain⟨v,σ',H',J,rv,q⟩:=hs;exact PR J rv q
 | next =>
  obtain⟨σ',H',J,q⟩:=hs;exact PR (v:=V.non) (u:=Value.none) J rfl q
 | brk =>
  obtain⟨_,_,_,q⟩:=hs;exact False.elim q
 | cont =>
  obtain⟨_,_,_,q⟩:=hs;exact False.elim q
section
variable{X:Cx}{x:Str}{p pos:Pos}{e:Expr}{es:List Expr}{t:TA}{id:String}{r:List V->Hp->VK->Prop}
def Qb(r:List V->Hp->VK->Prop)(t:TA):TE:=λσ H Q=>t σ H λvs H1=>r vs H1 Q
theorem zk(hc:jI X (.builtin id) r)(hg:Gl X x)(hm:X.mg x=none)(hv:bootBuiltins x=some (.builtin id))(ha:PA X (e::es) t) (hn:x≠"__name__":=by decide) (hdb:(x == ("__debug__" : Str))=false:=by decide)
  (he:starEach (e::es) X.env=(false,eval e X.env)::starEach es X.env:=by rfl) (hpl:(backTo pos (starEach es X.env)).any (·.1)=false:=by rfl):PE X (.Call (.Name x p) (e::es) [] pos) (Qb r t):=by
 intro gV s σ H Q I h;refine wpAny_Call_Name_kw (jn I hg hm hv ?_ hn hdb);exact PyProof.Rows.callWith_builtin1 (PP (ha pos gV s σ H _ I h) λus s1 ⟨vs,H1,I1,r1,q1⟩=>hc gV s1 σ H1 vs us Q I1 r1 q1) he hpl
end
end L2
namespace HT
open PySem PyProof.Rows
section
variable{prog:Program}{w:World}{A:Around}{E:Value->Shared->Prop}{s:Shared}
noncomputable def sIx(n d:Nat):Option Int->Nat
 |none=>d
 |some v=>if v<0 then(v+(n:Int)).toNat else min v.toNat n
theorem KM(n d:Nat)(hd:d<=n)(o:Option Int):sIx n d o<=n:=by
 cases o with
 |none=>exact hd
 | some v =>
  show(if v<0 then(v+(n:Int)).toNat else min v.toNat n)<=n
  by_cases hv:v<0
  . rw[if_pos hv];omega
  . rw[if_neg hv];exact Nat.min_le_right _ _
theorem BY(v:Int)(n d:Nat):(if v<0 then max (v+(n:Int)) 0 else min v (n:Int))=((sIx n d (some v):Nat):Int):=by
 show(if v<0 then max (v+(n:Int)) 0 else min v (n:Int))=(((if v<0 then(v+(n:Int)).toNat else min v.toNat n):Nat):Int)
 by_cases hv:v<0
 . simp only[if_pos hv];omega
 . simp only[if_neg hv];omega
theorem AD(lo hi:Option Int)(n:Nat):Builtin.Slice.sliceAdjust lo hi 1 (n:Int)=(((sIx n 0 lo:Nat):Int),((sIx n n hi:Nat):Int)):=by
 have h1:¬((1:Int)<0):=by omega
 unfold Builtin.Slice.sliceAdjust;simp only[h1,if_false];refine Prod.ext ?_ ?_
 .
  cases lo with
  |none=>rfl
  |some v=>exact BY v n 0
 .
  cases hi with
  |none=>rfl
  |some v=>exact BY v n n
theorem AE(i j:Nat):Builtin.Slice.slicePlaces (i:Int) (j:Int) 1=j-i:=by
 unfold Builtin.Slice.slicePlaces;have h1:(1:Int) > 0:=by omega
 simp only[h1,if_true,Int.ediv_one];split<;>omega
theorem sR{v:Value}{o:Option Int}{Q:Option Int->Shared->Prop}(p:IsPart v o)(h:Q o s):wpAny (model prog w) A (Builtin.Slice.slicePartIndex v) Q E s:=by
 cases p with
 |none=>exact slicePart_none h
 |int i t=>exact slicePart_int h
theorem pf{sl:Addr}{vl vu:Value}{lo hi:Option Int}{n:Nat}{Q:Int×Int×Nat->Shared->Prop}(hs:s.heap.IsSliceOf sl vl vu .none)(pl:IsPart vl lo)(pu:IsPart vu hi)
  (h:Q (((sIx n 0 lo:Nat):Int),1,sIx n n hi-sIx n 0 lo) s):wpAny (model prog w) A (Builtin.Slice.sliceApplied (.ref sl) (pure (n:Int))) Q E s:=by
 obtain⟨os,hos,hcs,hds⟩:=id hs;unfold Builtin.Slice.sliceApplied Builtin.Slice.sliceFields;refine Uw (Uw (wpAny_field hos hds (x:=vl) rfl (Uw (wpAny_field hos hds (x:=vu) rfl (Uw (wpAny_field hos hds (x:=.none) rfl (UH ?_)))))));refine Uw (slicePart_none ?_)
 show wpAny _ _ (if((1:Int) == 0)=true then _ else _) _ _ s
 rw[if_neg (by decide)];refine Uw (sR pl (Uw (sR pu (Uw (UH ?_)))))
 show wpAny _ _ (match Builtin.Slice.sliceAdjust lo hi 1 (n:Int)with|(lo,hi)=>pure (lo,(1:Int),Builtin.Slice.slicePlaces lo hi 1)) _ _ s
 rw[AD lo hi n];show wpAny _ _ (pure (((sIx n 0 lo:Nat):Int),(1:Int),Builtin.Slice.slicePlaces ((sIx n 0 lo:Nat):Int) ((sIx n n hi:Nat):Int) 1)) _ _ s;rw[AE];exact UH h
theorem Et(xs:Array Value)(i k:Nat):((List.range k).filterMap λ(m:Nat)=>xs[((i:Int)+(m:Int)*1).toNat]?).toArray=((xs.toList.drop i).take k).toArray:=by
 have e:(λ(m:Nat)=>xs[((i:Int)+(m:Int)*1).toNat]?)=λm=>xs[i+m]?:=by
  funext m
  have:((i:Int)+(m:Int)*1).toNat=i+m:=by omega
  rw[this]
 rw[e];have:=pick_run xs i k;rw[List.filterMap_map]at this;have e2:((λx=>xs[x]?) ∘ λx=>i+x)=λm=>xs[i+m]?:=rfl;rw[e2]at this;rw[this]
theorem getItem_tuple_cut{t sl:Addr}{items:Array Value}{vl vu:Value}{lo hi:Option Int}{Q:Value->Shared->Prop}(ht:IsTup s.heap t items)(hs:s.heap.IsSliceOf sl vl vu .none)(pl:IsPart vl lo)(pu:IsPart vu hi)
  (hw:¬(sIx items.size 0 lo=0/\sIx items.size items.size hi=items.size))
  (h:Q (.ref s.heap.objs.size) {s with heap:=s.heap.push {cls:=.type "tuple",data:=.seq ((items.toList.drop (sIx items.size 0 lo)).take (sIx items.size items.size hi-sIx items.size 0 lo)).toArray} })
  (hsz:items.size<=sizeLine):wpAny (model prog w) A (getItem (.ref t) (.ref sl)) Q E s:=by
 have htake:sizeOk (.seq ((items.toList.drop (sIx items.size 0 lo)).take (sIx items.size items.size hi-sIx items.size 0 lo)).toArray):=by show((items.toList.drop (sIx items.size 0 lo)).take (sIx items.size items.size hi-sIx items.size 0 lo)).toArray.size<=sizeLine;rw[List.size_toArray,List.length_take,List.length_drop,Array.length_toList];omega
 have hj:sIx items.size items.size hi<=items.size:=KM _ _ (UJ _) hi;obtain⟨os,hos,hcs,hds⟩:=id hs;have hTs:s.TypeIs (.ref sl) "slice":=⟨os,hos,hcs⟩;unfold getItem
 try with_reducible refine wpAny_holding ?_
 first|refine Uw (UH ?_)|skip
 refine Uw (wpAny_sequenceKey ht.typeIs x_ ?_)
 refine Uw (wpAny_callSpecial?_slot (name:=Str.ofString "__getitem__") ht.typeIs PyProof.Rows.slot_tuple_getitem
  (wpAny_call_entry PyProof.Rows.slot_tuple_getitem ht.typeIs entry_tuple_getitem ?_ (args_tuple_getitem _ _)))
 show wpAny _ _ (Builtin.Tuple.tupleItemsOf (.ref t) >>= _) _ _ s;refine Uw (tupleItemsOf_ ht ?_);refine Uw (wpAny_typeOf hTs ?_);rw[if_pos (by decide)];refine Uw (pf hs pl pu ?_);have hno:¬((((sIx items.size 0 lo:Nat):Int) == 0 && (1:Int) == 1 && (sIx items.size items.size hi-sIx items.size 0 lo) == items.size)=true):=by intro q;rw[Bool.and_eq_true,Bool.and_eq_true]at q;have q1:((sIx items.size 0 lo:Nat):Int)=0:=eq_of_beq q.1.1;have q2:sIx items.size items.size hi-sIx items.size 0 lo=items.size:=eq_of_beq q.2;exact hw ⟨xL,xL⟩
 show wpAny _ _ (if(((sIx items.size 0 lo:Nat):Int) == 0 && (1:Int) == 1 && (sIx items.size items.size hi-sIx items.size 0 lo) == items.size)=true then _ else _) _ _ s
 rw[if_neg hno,Et]
 first
  |exact Uw (m:=Builtin.Tuple.tupleExact _) (wpAny_newObj_type (UH ⟨_,rfl,UH h⟩) htake)
  |exact Uw (m:=Builtin.Tuple.tupleExact _) (wpAny_newObj_type (Uw (UH (UH ⟨_,rfl,UH h⟩))) htake)
  |exact Uw (Uw (m:=Builtin.Tuple.tupleExact _) (wpAny_newObj_type (UH (UH ⟨_,rfl,UH h⟩)) htake))
  |exact Uw (Uw (m:=Builtin.Tuple.tupleExact _) (wpAny_newObj_type (UH ⟨_,rfl,UH h⟩) htake))
end
end HT
namespace L2
open PySem PySem.Spec PyProof.Rows
noncomputable abbrev TO:=St->Hp->(Option Int->Hp->Prop)->Prop
def PO(X:Cx)(e:Option Expr)(t:TO):Prop :=
 ∀(gV:List (Addr×Obj))(s:Shared)(σ:St)(H:Hp)(Q:Option Int->Hp->Prop),PJ X gV σ H s->t σ H Q ->
  wpAny (model X.prog X.w) X.A (evalPart e X.env) (λu s'=>∃o H',PJ X gV σ H' s'/\IsPart u o/\Q o H') X.xe s
noncomputable def HU:TO:=λ_ H Q=>Q none H
noncomputable def Nh(t:TE):TO:=λσ H Q=>t σ H λx H1=>∃i,x=.int i/\Q (some i) H1
section
variable{X:Cx}{e:Expr}{te:TE}{lo hi:Option Expr}{tl th:TO}{pos p2:Pos}
theorem HV:PO X none HU:=by intro gV s σ H Q I h;rw[evalPart_none];exact UH ⟨none,H,I,.none,h⟩
theorem HW(h:PE X e te):PO X (some e) (Nh te):=by intro gV s σ H Q I hw;rw[evalPart_some];refine PP (h gV s σ H _ I hw) λu s1 ⟨x,H1,I1,r1,q1⟩=>?_;obtain⟨i,rfl,q⟩:=q1;obtain⟨t,rfl⟩:=r1;exact⟨some i,H1,I1,.int i t,q⟩
def Qc(X:Cx)(r:V->Option Int->Option Int->Hp->VK->Prop):Prop :=
 ∀(gV:List (Addr×Obj))(s:Shared)(σ:St)(H:Hp)(x:V)(v vl vu:Value)(lo hi:Option Int)(sl:Addr)(Q:VK),PJ X gV σ H s->b8 x v->s.heap.IsSliceOf sl vl vu .none->IsPart vl lo->IsPart vu hi->r x lo hi H Q ->
  ∃ T id,typeLookup (.type T) "__getitem__"=pure (some (.builtin id))/\s.TypeIs v T/\wpAny (model X.prog X.w) X.A (getItem v (.ref sl)) (EP X gV σ Q) X.xe s
theorem Qc.or{r r':V->Option Int->Option Int->Hp->VK->Prop}(h:Qc X r)(h':Qc X r'):Qc X (λx lo hi H Q=>r x lo hi H Q∨r' x lo hi H Q):=by
 intro gV s σ H x v vl vu lo hi sl Q I rx hs pl pu q;rcases q with q|q
 . exact h gV s σ H x v vl vu lo hi sl Q I rx hs pl pu q
 . exact h' gV s σ H x v vl vu lo hi sl Q I rx hs pl pu q
def Qd(r:V->Option Int->Option Int->Hp->VK->Prop)(te:TE)(tl th:TO):TE:=λσ H Q=>te σ H λx H1=>tl σ H1 λl H2=>th σ H2 λu H3=>r x l u H3 Q
theorem Eu{r:V->Option Int->Option Int->Hp->VK->Prop}(hr:Qc X r)(he:PE X e te)(hl:PO X lo tl)(hu:PO X hi th):PE X (.Subscript e (.Slice lo hi none p2) pos) (Qd r te tl th):=by intro gV s σ H Q I h;refine Subscript_ (PP (he gV s σ H _ I h) λv s1 ⟨x,H1,I1,r1,q1⟩=>?_);refine wpAny_Slice (PP (hl gV s1 σ H1 _ I1 q1) λvl s2 ⟨l,H2,I2,pl,q2⟩=>PP (hu gV s2 σ H2 _ I2 q2) λvu s3 ⟨u,H3,I3,pu,q3⟩=>?_);rw[evalPart_none];refine UH ?_;have I4:PJ X gV σ H3 {s3 with heap:=s3.heap.push {cls:=.type "slice",data:=.fields #[vl,vu,.none] } }:=I3.kept (t':=s3.toks) λb ob q=>Uy _ q;obtain⟨T,id,hT,ht,hg⟩:=hr gV {s3 with heap:=s3.heap.push {cls:=.type "slice",data:=.fields #[vl,vu,.none] } } σ H3 x v vl vu l u s3.heap.objs.size Q I4 r1 (Heap.IsSliceOf.new ..) pl pu q3;show wpAny (model X.prog X.w) X.A (subscriptTail e (.Slice lo hi none p2) v (.ref s3.heap.objs.size)) (EP X gV σ Q) X.xe {s3 with heap:=s3.heap.push {cls:=.type "slice",data:=.fields #[vl,vu,.none] } };exact tail_any (ops:=[.ref s3.heap.objs.size,v]) ht hT hg (by with_unfolding_all rfl)
noncomputable def GX(xs:List V)(lo hi:Option Int):List V:=(xs.drop (HT.sIx xs.length 0 lo)).take (HT.sIx xs.length xs.length hi-HT.sIx xs.length 0 lo)
theorem pV(xs:List V)(lo hi:Option Int):(GX xs lo hi).length<=xs.length:=by unfold GX;rw[List.length_take,List.length_drop];omega
def OY(K:PySem.W.Frag):V->Option Int->Option Int->Hp->VK->Prop:=λx lo hi H Q=>∃a xs,x=.ref a/\PV K H a xs /\
 ¬(HT.sIx xs.length 0 lo=0/\HT.sIx xs.length xs.length hi=xs.length)/\∀p,H p=none->Q (.ref p) (Pv H p (.tup (GX xs lo hi)))
theorem KN:Qc X (OY X.K):=by
 intro gV s σ H x v vl vu lo hi sl Q I rx hs pl pu h;obtain⟨a,xs,rfl,hx,hw,q⟩:=h;cases rx;obtain⟨its,r,ht,hz⟩:=I.tuple hx;have p4:its.toArray.size=xs.length:=by rw[List.size_toArray];exact r.length.symm
 refine⟨"tuple",_,PyProof.Rows.slot_tuple_getitem.lookup,ht.typeIs,?_⟩;refine HT.getItem_tuple_cut ht hs pl pu (by rw[p4];exact hw) ?_ (by rw[p4];exact hz);rw[p4];refine⟨.ref s.heap.objs.size,_,I.laid (t':=s.toks) (o:=.tup (GX xs lo hi)) (λb ob q=>Uy _ q) (UJ _) ?_,rfl,q _ (I.hok.fresh (UJ _))⟩;exact⟨Nat.le_trans (pV xs lo hi) hz,_,(r.drop (HT.sIx xs.length 0 lo)).take (HT.sIx xs.length xs.length hi-HT.sIx xs.length 0 lo),IsTup.new _ _⟩
end
noncomputable def Qe(n:Nat)(i:Int):Option Nat:=if 0<=i then(if i<n then some i.toNat else none)else if -(n:Int)<=i then some (i+n).toNat else none
noncomputable def Qf{α:Type}(xs:List α)(i:Int):Option α:=(Qe xs.length i).bind λj=>xs[j]?
theorem BZ{n:Nat}{i:Int}{j:Nat}(h:Qe n i=some j):seqIndex? i n=some j/\j<n/\-(n:Int)<=i/\i<n:=by
 unfold Qe at h;by_cases h0:0<=i
 .
  rw[if_pos h0]at h;by_cases h1:i<n
  . rw[if_pos h1]at h;have e:i.toNat=j:=Option.some.inj h;exact⟨by rw[seqIndex_of h0 h1,e],xL,xL,h1⟩
  . rw[if_neg h1]at h;cases h
 .
  rw[if_neg h0]at h;by_cases h1 : -(n:Int)<=i
  . rw[if_pos h1]at h;have e:(i+n).toNat=j:=Option.some.inj h;exact⟨by rw[seqIndex_neg xL h1,e],xL,h1,xL⟩
  . rw[if_neg h1]at h;cases h
theorem xA{α:Type}{xs:List α}{i:Int}{v:α}(h:Qf xs i=some v):∃j,seqIndex? i xs.length=some j/\xs[j]?=some v/\j<xs.length/\-(xs.length:Int)<=i/\i<xs.length:=by
 unfold Qf at h
 cases e:Qe xs.length i with
 |none=>rw[e]at h;cases h
 | some j =>
  rw[e]at h;obtain⟨h1,h2,h3,h4⟩:=BZ e;exact⟨j,h1,h,h2,h3,h4⟩
theorem iP{α:Type}{xs:List α}{j:Nat}{v:α}(h:xs[j]?=some v):Qf xs (j:Int)=some v:=by
 have hj:j<xs.length:=(UA.mp h).1;have e:Qe xs.length (j:Int)=some j:=by unfold Qe;rw[if_pos (by omega),if_pos (by omega)];simp
 unfold Qf;rw[e];exact h
def xB(b:Expr):Prop:=∀o i,subscripted b false o i=operate [o,i] (getItem o i)
def Qg(X:Cx)(r:R2):Prop :=
 ∀(value slice:Expr)(gV:List (Addr×Obj))(s:Shared)(σ:St)(H:Hp)(x y:V)(v u:Value)(Q:VK),PJ X gV σ H s->b8 x v->b8 y u->r x y H Q ->
  subscripted slice false v u=operate [v,u] (getItem v u)->wpAny (model X.prog X.w) X.A (subscriptTail value slice v u) (EP X gV σ Q) X.xe s
def Qh(X:Cx)(id:String)(r:V->List V->Hp->VK->Prop):Prop :=
 ∀(gV:List (Addr×Obj))(s:Shared)(σ:St)(H:Hp)(x:V)(xs:List V)(v:Value)(us:List Value)(Q:VK),PJ X gV σ H s->b8 x v->bO xs us->r x xs H Q ->
  wpAny (model X.prog X.w) X.A (call (.builtin id) (v::us)) (EP X gV σ Q) X.xe s
section
variable{X:Cx}{a b:Expr}{ta tb:TE}{pos:Pos}
theorem Ni{r:R2}(hr:Qg X r)(ha:PE X a ta)(hb:PE X b tb)(hs:xB b):PE X (.Subscript a b pos) (P6 r ta tb):=by intro gV s σ H Q I h;exact Subscript_ (OW ha hb I h λv u s2 x y H2 I2 rx ry q=>hr a b gV s2 σ H2 x y v u Q I2 rx ry q (hs _ _))
def OZ(K:PySem.W.Frag):R2:=λx y H Q=>∃p xs i v,x=.ref p/\y=.int i/\PU K H p xs/\Qf xs i=some v/\Q v H
def O0(K:PySem.W.Frag):R2:=λx y H Q=>∃p xs i v,x=.ref p/\y=.int i/\PV K H p xs/\Qf xs i=some v/\Q v H
def O1:R2:=λx y H Q=>∃z i c,x=.str z/\y=.int i/\z.length<=sizeLine/\Qf z.cps.toList i=some c/\Q (.str ⟨#[c]⟩) H
theorem B0:Qg X (OZ X.K):=by
 intro value slice gV s σ H x y v u Q I rx ry h hs;obtain⟨p,xs,i,z,rfl,rfl,hq,he,q⟩:=h;cases rx;obtain⟨t,rfl⟩:=ry;obtain⟨its,r,pl,hz⟩:=I.list hq;obtain⟨j,h1,h2,h3,h4,h5⟩:=xA he;obtain⟨w,ew,rw'⟩:=r.get h2;have hl:=r.length;have hn:=sQ;have PR:EP X gV σ Q w s:=⟨z,H,I,rw',q⟩;by_cases h0:0<=i
 .
  have hj:i.toNat=j:=by rw[seqIndex_of h0 h5]at h1;exact Option.some.inj h1
  exact item_listR pl.isList h0 xL (by rw[hj];simpa using ew) PR hs
 .
  have hj:(i+(its.toArray.size:Int)).toNat=j:=by rw[seqIndex_neg xL h4]at h1;rw[List.size_toArray,<- hl];exact Option.some.inj h1
  exact subscriptTail_builtinR (x:=w) pl.isList.typeIs slot_list_getitem.lookup
   (wpAny_getItem_list_neg (Q:=λr s'=>r=w/\EP X gV σ Q r s') pl.isList xL (by rw[List.size_toArray]<;>omega) xL (by rw[hj];simpa using ew) ⟨rfl,PR⟩) hs
theorem KO:Qg X (O0 X.K):=by
 intro value slice gV s σ H x y v u Q I rx ry h hs;obtain⟨p,xs,i,z,rfl,rfl,hq,he,q⟩:=h;cases rx;obtain⟨t,rfl⟩:=ry;obtain⟨its,r,pl,hz⟩:=I.tuple hq;obtain⟨j,h1,h2,h3,h4,h5⟩:=xA he;obtain⟨w,ew,rw'⟩:=r.get h2;have hl:=r.length;have hn:=sQ;have PR:EP X gV σ Q w s:=⟨z,H,I,rw',q⟩
 exact subscriptTail_builtinR (x:=w) pl.typeIs slot_tuple_getitem.lookup
  (getItem_tuple (j:=j) (Q:=λr s'=>r=w/\EP X gV σ Q r s') pl xL xL (by rw[List.size_toArray,<- hl];exact h1) (by simpa using ew) ⟨rfl,PR⟩) hs
theorem KP:Qg X O1:=by
 intro value slice gV s σ H x y v u Q I rx ry h hs;obtain⟨z,i,c,rfl,rfl,hz,he,q⟩:=h;obtain⟨t,rfl⟩:=rx;obtain⟨t',rfl⟩:=ry;obtain⟨j,h1,h2,h3,h4,h5⟩:=xA he;have hl:z.cps.toList.length=z.length:=by simp[Str.length]
 rw[hl]at h1 h4 h5;have hn:=sQ
 exact tail_any (typeIs_str s z t) slot_str_getitem.lookup (getItem_str (c:=c) (by
  have e1:decide (i < -(2^63:Int))=false:=decide_eq_false xL;have e2:decide (i≥2^63)=false:=decide_eq_false xL
  rw[e1,e2,Bool.or_false]) (by rw[h1];simpa using h2) ⟨.str ⟨#[c]⟩,H,I.tok _,⟨_,rfl⟩,q⟩) hs
theorem AF(its:List Value)(n j:Nat)(u:Value):Obj.mapSeq (·.setIfInBounds j u) {cls:=.type "list",data:=.seq its.toArray n}={cls:=.type "list",data:=.seq (its.set j u).toArray n}:=by simp[Obj.mapSeq]
theorem PJ.lst{gV:List (Addr×Obj)}{σ:St}{H:Hp}{s:Shared}{p:Addr}{xs:List V}(I:PJ X gV σ H s)(h:H p=some (.lst xs)) :
  ∃(its:List Value)(n:Nat),bO xs its/\s.heap.get? p=some {cls:=.type "list",data:=.seq its.toArray n}/\xs.length<=sizeLine:=by
 obtain⟨z,its,n,r,e⟩:=I.hok p _ h;exact⟨its,n,r,e,z⟩
theorem PJ.lstUpd{gV:List (Addr×Obj)}{σ:St}{H:Hp}{s:Shared}{p:Addr}{xs ys:List V}{its its':List Value}{n n':Nat}{f:Obj->Obj}(I:PJ X gV σ H s)(h:H p=some (.lst xs))
  (ho:s.heap.get? p=some {cls:=.type "list",data:=.seq its.toArray n}) (hf:f {cls:=.type "list",data:=.seq its.toArray n}={cls:=.type "list",data:=.seq its'.toArray n' }) (r:bO ys its') (hz:ys.length<=sizeLine) (t:Nat) :
  PJ X gV σ (Pv H p (.lst ys)) {s with heap:=s.heap.update p f,toks:=t}:=by
 have e:(s.heap.update p f).get? p=some {cls:=.type "list",data:=.seq its'.toArray n' }:=by rw[Heap.get?_update_self f ho (by rw[hf]<;>rfl),hf]
 refine I.write (x:=p) (e:=p) (by rw[h];trivial) (.inl rfl) (λb u hb q=>(Heap.get?_update_other _ _ (Ne.symm hb)).trans q) ⟨_,e⟩ ?_;exact⟨hz,its',n',r,e⟩
def Nj:V->V->V->Hp->(Hp->Prop)->Prop:=λo i v H Q=>∃p xs k j,o=.ref p/\i=.int k/\H p=some (.lst xs)/\Qe xs.length k=some j/\Q (Pv H p (.lst (xs.set j v)))
theorem Ew:Os X Nj:=by
 intro gV s σ H o i v ov iv u Q I ro ri rv h;obtain⟨p,xs,k,j,rfl,rfl,hp,hj,q⟩:=h;cases ro;obtain⟨t,rfl⟩:=ri;obtain⟨its,n,r,ho,hz⟩:=I.lst hp;obtain⟨h1,h2,h3,h4⟩:=BZ hj;have hl:=r.length;have hn:=sQ
 have I':PJ X gV σ (Pv H p (.lst (xs.set j v))) {s with heap:=s.heap.update p (Obj.mapSeq (·.setIfInBounds j u)) } :=
  I.lstUpd hp ho (AF its n j u) (r.set rv j) (by rw[List.length_set];exact hz) s.toks
 by_cases h0:0<=k
 .
  have hk:k.toNat=j:=by rw[seqIndex_of h0 h4]at h1;exact Option.some.inj h1
  exact PySem.W.ki_setAt ho h0 xL (by rw[List.size_toArray,<- hl];exact h4) (by rw[hk];exact⟨_,I',q⟩)
 .
  have hk:(k+(its.toArray.size:Int)).toNat=j:=by rw[seqIndex_neg xL h3]at h1;rw[List.size_toArray,<- hl];exact Option.some.inj h1
  exact PySem.W.ki_setBack ho xL (by rw[List.size_toArray,<- hl];exact h3) xL (by rw[hk];exact⟨_,I',q⟩)
theorem vw(lo hi:Option Int)(n:Nat):(sliceBounds lo hi none n).1=((HT.sIx n 0 lo:Nat):Int)/\(sliceBounds lo hi none n).2.1=((HT.sIx n n hi:Nat):Int)/\(sliceBounds lo hi none n).2.2=1:=by
 refine⟨?_,?_,rfl⟩
 .
  cases lo with
  |none=>simp[sliceBounds,HT.sIx]
  | some i =>
   simp only[sliceBounds,HT.sIx,Option.getD_none,show(1:Int) > 0 by decide,if_true];by_cases h:i<0
   . simp only[h,if_true]<;>omega
   . simp only[h,if_false]<;>omega
 .
  cases hi with
  |none=>simp[sliceBounds,HT.sIx]
  | some i =>
   simp only[sliceBounds,HT.sIx,Option.getD_none,show(1:Int) > 0 by decide,if_true];by_cases h:i<0
   . simp only[h,if_true]<;>omega
   . simp only[h,if_false]<;>omega
theorem t4(its:List Value)(lo hi:Option Int):slicePick its.toArray lo hi none=((its.drop (HT.sIx its.length 0 lo)).take (HT.sIx its.length its.length hi-HT.sIx its.length 0 lo)).toArray:=by obtain⟨h1,h2,h3⟩:=vw lo hi its.toArray.size;unfold slicePick;rw[h1,h2,h3];simp only[sliceRange_one,pick_run,List.size_toArray]<;>rfl
def O2(K:PySem.W.Frag):V->Option Int->Option Int->Hp->VK->Prop:=λx lo hi H Q=>∃a xs,x=.ref a/\PU K H a xs/\∀p,H p=none->Q (.ref p) (Pv H p (.lst (GX xs lo hi)))
theorem HX:Qc X (O2 X.K):=by intro gV s σ H x v vl vu lo hi sl Q I rx hs pl pu h;obtain⟨a,xs,rfl,hx,q⟩:=h;cases rx;obtain⟨its,r,ht,hz⟩:=I.list hx;have p4:=r.length;refine⟨"list",_,slot_list_getitem.lookup,ht.isList.typeIs,?_⟩;refine wpAny_getItem_list_slice ht.isList hs pl pu .none v6 ?_ (by rw[List.size_toArray]<;>omega);rw[t4,<- p4];refine⟨.ref s.heap.objs.size,_,I.laid (t':=s.toks) (o:=.lst (GX xs lo hi)) (λb ob q=>Uy _ q) (UJ _) ?_,rfl,q _ (I.hok.fresh (UJ _))⟩;exact⟨Nat.le_trans (pV xs lo hi) hz,_,0,(r.drop (HT.sIx xs.length 0 lo)).take (HT.sIx xs.length xs.length hi-HT.sIx xs.length 0 lo),Heap.get?_push_size _ rfl⟩
noncomputable def rY:V->Bool
 |.non=>true
 |.bl _=>true
 |.int _=>true
 |.str _=>true
 |_=>false
noncomputable def Qi:V->V->Bool
 |.non,.non=>true
 |.bl a,.bl b=>a == b
 |.bl a,.int b=>(if a then 1 else 0) == b
 |.int a,.bl b=>a == (if b then 1 else 0)
 |.int a,.int b=>a == b
 |.str a,.str b=>a == b
 |_,_=>false
theorem KQ{A:Around}{s:Shared}{y x:V}{u v:Value}(ry:b8 y u)(rx:b8 x v)(fy:rY y=true)(fx:rY x=true):SeqAt.EqAt A s u v (Qi y x):=by
 cases y with
 | non =>
  cases ry
  cases x with
  |non=>cases rx;exact SeqAt.EqAt.same _
  |bl b=>cases rx;exact SeqAt.EqAt.none_bool b
  |int b=>obtain⟨t,rfl⟩:=rx;exact SeqAt.EqAt.none_int b t
  |str b=>obtain⟨t,rfl⟩:=rx;exact SeqAt.EqAt.none_str b t
  |_=>exact absurd (show false=true from fx) Bool.false_ne_true
 | bl a =>
  cases ry
  cases x with
  |non=>cases rx;exact SeqAt.EqAt.bool_none a
  |bl b=>cases rx;exact SeqAt.EqAt.bool_bool a b
  |int b=>obtain⟨t,rfl⟩:=rx;exact SeqAt.EqAt.bool_int a b t
  |str b=>obtain⟨t,rfl⟩:=rx;exact SeqAt.EqAt.bool_str a b t
  |_=>exact absurd (show false=true from fx) Bool.false_ne_true
 | int a =>
  obtain⟨t',rfl⟩:=ry
  cases x with
  |non=>cases rx;exact SeqAt.EqAt.int_none a t'
  |bl b=>cases rx;exact SeqAt.EqAt.int_bool a t' b
  |int b=>obtain⟨t,rfl⟩:=rx;exact SeqAt.EqAt.int_int a t' b t
  |str b=>obtain⟨t,rfl⟩:=rx;exact SeqAt.EqAt.int_str a t' b t
  |_=>exact absurd (show false=true from fx) Bool.false_ne_true
 | str a =>
  obtain⟨t',rfl⟩:=ry
  cases x with
  |non=>cases rx;exact SeqAt.EqAt.str_none a t'
  |bl b=>cases rx;exact SeqAt.EqAt.str_bool a t' b
  |int b=>obtain⟨t,rfl⟩:=rx;exact SeqAt.EqAt.str_int a t' b t
  |str b=>obtain⟨t,rfl⟩:=rx;exact SeqAt.EqAt.str_str a t' b t
  |_=>exact absurd (show false=true from fx) Bool.false_ne_true
 |_=>exact absurd (show false=true from fy) Bool.false_ne_true
noncomputable def Qj(x:V)(u:Value):Bool:=match u with
 |.none=>Qi .non x
 |.bool b=>Qi (.bl b) x
 |.int i _=>Qi (.int i) x
 |.str z _=>Qi (.str z) x
 |_=>false
theorem GY{x y:V}{u:Value}(r:b8 y u)(f:rY y=true):Qj x u=Qi y x:=by
 cases y with
 |non=>cases r;rfl
 |bl b=>cases r;rfl
 |int i=>obtain⟨t,rfl⟩:=r;rfl
 |str z=>obtain⟨t,rfl⟩:=r;rfl
 |_=>exact absurd (show false=true from f) Bool.false_ne_true
theorem pW{x:V}:∀{xs:List V}{us:List Value},bO xs us->xs.all rY=true->us.any (Qj x)=xs.any λy=>Qi y x
 |_,_,.nil,_=>rfl
 | y::xs,u::us,.cons r t,f=>by rw[List.all_cons,Bool.and_eq_true]at f;rw[List.any_cons,List.any_cons,GY r f.1,pW t f.2]
theorem mT{A:Around}{s:Shared}{x:V}{v:Value}(rx:b8 x v)(fx:rY x=true):∀{xs:List V}{us:List Value},bO xs us->xs.all rY=true->∀u∈us,SeqAt.EqAt A s u v (Qj x u)
 |_,_,.nil,_=>λu hu=>by cases hu
 | y::xs,u::us,.cons r t,f=>λu' hu=>by
  rw[List.all_cons,Bool.and_eq_true]at f;rcases UK.mp hu with rfl|hu
  . rw[GY r f.1];exact KQ r rx f.1 fx
  . exact mT rx fx t f.2 u' hu
noncomputable def Qk(x:V)(xs:List V):Bool:=xs.any λy=>Qi y x
def Ql(K:PySem.W.Frag)(neg:Bool):R2:=λx y H Q=>∃p xs,y=.ref p/\(PU K H p xs∨PV K H p xs)/\rY x=true/\xs.all rY=true/\Q (.bl (if neg then !Qk x xs else Qk x xs)) H
theorem B1:P4 X (compareOp .In) (Ql X.K false):=by
 intro gV s σ H x y v u Q I rx ry h;obtain⟨p,xs,rfl,hq,fx,fs,q⟩:=h;cases ry;rcases hq with hq|hq
 . obtain⟨its,r,pl,hz⟩:=I.list hq;refine SeqAt.in_listAt (Qj x) pl.isList (λw hw=>mT rx fx r fs w (by simpa using hw)) ⟨.bl _,H,I,rfl,?_⟩;rw[show its.toArray.any (Qj x)=its.any (Qj x) by simp,pW r fs];exact q
 . obtain⟨its,r,pl,hz⟩:=I.tuple hq;refine SeqAt.in_tupleAt (Qj x) pl (λw hw=>mT rx fx r fs w (by simpa using hw)) ⟨.bl _,H,I,rfl,?_⟩;rw[show its.toArray.any (Qj x)=its.any (Qj x) by simp,pW r fs];exact q
theorem vx:P4 X (compareOp .NotIn) (Ql X.K true):=by
 intro gV s σ H x y v u Q I rx ry h;obtain⟨p,xs,rfl,hq,fx,fs,q⟩:=h;cases ry;rcases hq with hq|hq
 . obtain⟨its,r,pl,hz⟩:=I.list hq;refine SeqAt.notIn_listAt (Qj x) pl.isList (λw hw=>mT rx fx r fs w (by simpa using hw)) ⟨.bl _,H,I,rfl,?_⟩;rw[show its.toArray.any (Qj x)=its.any (Qj x) by simp,pW r fs];exact q
 . obtain⟨its,r,pl,hz⟩:=I.tuple hq;refine SeqAt.notIn_tupleAt (Qj x) pl (λw hw=>mT rx fx r fs w (by simpa using hw)) ⟨.bl _,H,I,rfl,?_⟩;rw[show its.toArray.any (Qj x)=its.any (Qj x) by simp,pW r fs];exact q
theorem oQ:jI X (.builtin "len") (λxs H Q=>∃ p ys,xs=[.ref p]/\(PU X.K H p ys∨PV X.K H p ys)/\Q (.int ys.length) H):=by
 intro gV s σ H xs us Q I r h;obtain⟨p,ys,rfl,hq,q⟩:=h;obtain⟨u,rfl,rx⟩:=tZ r;cases rx;have hn:=sQ;rcases hq with hq|hq
 . obtain⟨its,r',pl,hz⟩:=I.list hq;have p4:=r'.length;exact Calls.call_len_list pl.isList (by simp only[List.size_toArray]<;>omega) ⟨.int ys.length,H,I.tok _,⟨s.toks+1,by rw[List.size_toArray,p4]⟩,q⟩
 . obtain⟨its,r',pl,hz⟩:=I.tuple hq;have p4:=r'.length;exact len_tuple pl (by simp only[List.size_toArray]<;>omega) ⟨.int ys.length,H,I.tok _,⟨s.toks+1,by rw[List.size_toArray,p4]⟩,q⟩
theorem vz:jI X (.builtin "len") (λxs H Q=>∃ z,xs=[.str z]/\z.length<=sizeLine/\Q (.int z.length) H):=by intro gV s σ H xs us Q I r h;obtain⟨z,rfl,hz,q⟩:=h;obtain⟨u,rfl,t,rfl⟩:=tZ r;have hn:=sQ;exact len_str xL ⟨.int z.length,H,I.tok _,⟨_,rfl⟩,q⟩
theorem jI.or{f:Value}{r r':List V->Hp->VK->Prop}(h:jI X f r)(h':jI X f r'):jI X f (λxs H Q=>r xs H Q∨r' xs H Q):=by
 intro gV s σ H xs us Q I rs q;rcases q with q|q
 . exact h gV s σ H xs us Q I rs q
 . exact h' gV s σ H xs us Q I rs q
theorem vA:jI X (.type "list") (λxs H Q=>∃ p ys,xs=[.ref p]/\(PU X.K H p ys∨PV X.K H p ys)/\∀ l,H l=none->Q (.ref l) (Pv H l (.lst ys))):=by
 intro gV s σ H xs us Q I r h;obtain⟨p,ys,rfl,hq,q⟩:=h;obtain⟨u,rfl,rx⟩:=tZ r;cases rx
 have PR:∀(its:List Value),bO ys its->ys.length<=sizeLine->∀(h':Heap)(c':Nat),(∀b o',s.heap.get? b=some o'->h'.get? b=some o') ->
   h'.get? s.heap.objs.size=some {cls:=.type "list",dict:=none,data:=.seq its.toArray c',slots:=#[] }->EP X gV σ Q (.ref s.heap.objs.size) {s with heap:=h' }:=λits r' hz h' c' kp e =>
  ⟨.ref s.heap.objs.size,_,I.laid (t':=s.toks) kp (UJ _) (show d3 X.prog X.w _ h' _ (.lst ys)from⟨hz,its,c',r',e⟩),rfl,q _ (I.hok.fresh (UJ _))⟩
 rcases hq with hq|hq
 . obtain⟨its,r',pl,hz⟩:=I.list hq;have p4:=r'.length;obtain⟨o,ho,hc,n,hd⟩:=pl.isList;exact call_list_seq p (.inl rfl) ho hc hd (λh' c' kp e=>PR its r' hz h' c' kp e) (by simp only[List.size_toArray]<;>omega)
 . obtain⟨its,r',pl,hz⟩:=I.tuple hq;have p4:=r'.length;obtain⟨o,ho,hc,n,hd⟩:=pl;exact call_list_seq p (.inr rfl) ho hc hd (λh' c' kp e=>PR its r' hz h' c' kp e) (by simp only[List.size_toArray]<;>omega)
def Qm(K:PySem.W.Frag)(T:String)(x:V)(H:Hp):Prop:=match x with
 |.str _=>T="str"
 |.int _=>T="int"
 | .ref p=>(T="list"/\∃ xs,PU K H p xs)∨(T="tuple"/\∃ o,K.lookup p=some o/\o.cls=.type "tuple"/\o.dict=none) ∨
   (T="dict"/\((∃ kvs,H p=some (.dK kvs))∨∃ kvs,H p=some (.dT kvs)))∨(T="set"/\∃ S n,H p=some (.set S n))
 |_=>False
theorem GZ{gV:List (Addr×Obj)}{σ:St}{H:Hp}{s:Shared}{T:String}{x:V}{v:Value}(I:PJ X gV σ H s)(r:b8 x v)(ty:Qm X.K T x H) :
  s.TypeIs v T/\∀a,v=.ref a->∃ob,s.heap.get? a=some ob/\ob.dict=none:=by
 cases x with
 | str z =>
  obtain⟨t,rfl⟩:=r;cases(show T="str" from ty);exact⟨typeIs_str s z t,λ_ e=>nomatch e⟩
 | int i =>
  obtain⟨t,rfl⟩:=r;cases(show T="int" from ty);exact⟨typeIs_int s i t,λ_ e=>nomatch e⟩
 | ref p =>
  cases r;rcases ty with⟨rfl,xs,hq⟩|⟨rfl,o,hk,hc,hd⟩|⟨rfl,hk⟩|⟨rfl,S,n,hk⟩
  . obtain⟨its,_,pl,_⟩:=I.list hq;refine⟨pl.isList.typeIs,λa e=>?_⟩;cases e;obtain⟨o,n,e,c,hd,_⟩:=pl;exact⟨o,e,hd⟩
  . refine⟨⟨o,I.kIn p o hk,hc⟩,λa e=>?_⟩;cases e;exact⟨o,I.kIn _ o hk,hd⟩
  .
   have z:∃o,s.heap.get? p=some o/\o.ExactDict:=by
    rcases hk with⟨kvs,hk⟩|⟨kvs,hk⟩
    . obtain⟨_,_,_,_,o,_,_,e,ex,_⟩:=I.hok p _ hk;exact⟨o,e,ex⟩
    . obtain⟨_,_,_,_,o,_,_,e,ex,_⟩:=I.hok p _ hk;exact⟨o,e,ex⟩
   obtain⟨o,e,ex⟩:=z;refine⟨⟨o,e,ex.1⟩,λa e2=>?_⟩;cases e2;exact⟨o,e,ex.2.1⟩
  . obtain⟨o,_,_,_,e,ex,_⟩:=I.hok p _ hk;refine⟨⟨o,e,ex.1⟩,λa e2=>?_⟩;cases e2;exact⟨o,e,ex.2.1⟩
 |_=>exact False.elim ty
def O3(K:PySem.W.Frag)(T:String)(r:V->List V->Hp->VK->Prop)(to:TE):TE:=λσ H Q=>to σ H λx H1=>Qm K T x H1/\r x [] H1 Q
def Qn(K:PySem.W.Frag)(T:String)(r:V->List V->Hp->VK->Prop)(to:TE)(t:TA):TE:=λσ H Q=>to σ H λx H1=>Qm K T x H1/\t σ H1 λxs H2=>r x xs H2 Q
variable{o e:Expr}{es:List Expr}{to:TE}{t:TA}{name:Str}{apos cpos:Pos}{T id:String}{r:V->List V->Hp->VK->Prop}
theorem KR(pa:PlainAttrs T)(slot:Slot T name id) (hty:typeOf (.builtin id)=pure (.type "method_descriptor")) (hm:Qh X id r) (ho:PE X o to)
  (hbase:attributeBase o name X.env (eval o X.env)=eval o X.env:=by rfl) (hline:(apos.endLine == cpos.line)=true:=by rfl):PE X (.Call (.Attribute o name apos) [] [] cpos) (O3 X.K T r to):=by
 intro gV s σ H Q I h;refine wpAny_Call_method0_late hbase hline (PP (ho gV s σ H _ I h) λv s1 ⟨x,H1,I1,r1,ty,q1⟩=>?_);obtain⟨h1,h2⟩:=GZ I1 r1 ty;exact⟨T,id,pa,slot,hty,h1,h2,Calls.callWith_builtin rfl (PySem.evalArgs_none (hm gV s1 σ H1 x [] v [] Q I1 r1 .nil q1))⟩
theorem KS(pa:PlainAttrs T)(slot:Slot T name id) (hty:typeOf (.builtin id)=pure (.type "method_descriptor")) (hm:Qh X id r) (ho:PE X o to) (ha:PA X (e::es) t)
  (hbase:attributeBase o name X.env (eval o X.env)=eval o X.env:=by rfl)
  (hfew:((backTo cpos (starEach (e::es) X.env)).all (λx=>!x.1) && (backToKw cpos (keywordEach [] X.env)).all (λx=>x.1.isSome)
   && decide ((e::es).length+([]:List Keyword).length+(if([]:List Keyword).isEmpty then 0 else 1)<30))=true:=by rfl)
  (hline:(apos.endLine == cpos.line)=true:=by rfl) (hs:starEach (e::es) X.env=(false,eval e X.env)::starEach es X.env:=by rfl) (hplain:(backTo cpos (starEach es X.env)).any (·.1)=false:=by rfl) :
  PE X (.Call (.Attribute o name apos) (e::es) [] cpos) (Qn X.K T r to t):=by
 intro gV s σ H Q I h;refine wpAny_Call_method_late hbase hfew hline rfl (PP (ho gV s σ H _ I h) λv s1 ⟨x,H1,I1,r1,ty,q1⟩=>?_);obtain⟨h1,h2⟩:=GZ I1 r1 ty;refine⟨T,id,pa,slot,hty,h1,h2,?_⟩;have hA:=ha cpos gV s1 σ H1 _ I1 q1;rw[hs]at hA ⊢;refine Calls.callWith_builtin (by show(false ||(backTo cpos (starEach es X.env)).any (·.1))=false;rw[hplain]<;>rfl) (Calls.evalArgs_plain ?_);exact PP hA λus s2 ⟨vs,H2,I2,r2,q2⟩=>hm gV s2 σ H2 x vs v us Q I2 r1 r2 q2
/- xs.append(e),list.index on a module's tuple .. are Qh facts of 06m -/
end
def Qo(X:Cx)(id:String)(r:V->List V->Hp->VK->Prop):Prop :=
 ∀(gV:List (Addr×Obj))(s:Shared)(σ:St)(H:Hp)(x:V)(xs:List V)(v:Value)(us:List Value)(Q:VK),PJ X gV σ H s->b8 x v->bO xs us->r x xs H Q ->
  wpAny (model X.prog X.w) X.A (call (.builtin id) (v::us)) (EP X gV σ Q) X.xe s
theorem bO.one:∀{x:V}{us:List Value},bO [x] us->∃u,us=[u]/\b8 x u
 |_,_,.cons r .nil=>⟨_,rfl,r⟩
theorem bO.two:∀{x y:V}{us:List Value},bO [x,y] us->∃u v,us=[u,v]/\b8 x u/\b8 y v:=by
 intro x y us h
 cases h with
 |cons r h=>
  cases h with
  |cons q h=>cases h;exact⟨_,_,rfl,r,q⟩
theorem bO.zero:∀{us:List Value},bO [] us->us=[]
 |_,.nil=>rfl
theorem bO.eraseIdx:∀{xs:List V}{us:List Value}(i:Nat),bO xs us->bO (xs.eraseIdx i) (us.eraseIdx i)
 |_,_,_,.nil=>.nil
 |_,_,0,.cons _ t=>t
 |_,_,i+1,.cons r t=>.cons r (bO.eraseIdx i t)
theorem bO.reverse{xs:List V}{us:List Value}(h:bO xs us):bO xs.reverse us.reverse:=by
 induction h with
 |nil=>exact .nil
 |cons r t ih=>rw[List.reverse_cons,List.reverse_cons];exact bO.append ih (.cons r .nil)
theorem bO.rep{xs:List V}{us:List Value}(h:bO xs us):∀k:Nat,bO (List.replicate k xs).flatten (List.replicate k us).flatten
 |0=>.nil
 | k+1=>by rw[List.replicate_succ,List.replicate_succ,List.flatten_cons,List.flatten_cons];exact bO.append h (bO.rep h k)
theorem vB{α:Type}:∀(l:List α)(i:Nat),(l.eraseIdx i).length<=l.length
 |[],_=>UJ _
 |_::_,0=>Nat.le_succ _
 |_::r,i+1=>Nat.succ_le_succ (vB r i)
theorem vC(its:List Value):∀(k:Nat)(acc:List Value),
  List.foldl (λx1 x2=>x1++x2) acc.toArray (List.replicate k its.toArray)=(acc++(List.replicate k its).flatten).toArray
 |0,acc=>by simp
 | k+1,acc=>by
  have e:acc.toArray++its.toArray=(acc++its).toArray:=by simp
  have e2:(acc++its)++(List.replicate k its).flatten=acc++(List.replicate (k+1) its).flatten:=by rw[List.replicate_succ,List.flatten_cons,List.append_assoc]
  rw[<- e2,<- vC its k (acc++its),<- e,List.replicate_succ,List.foldl_cons]
section
variable{X:Cx}{gV:List (Addr×Obj)}{σ:St}{H:Hp}{s:Shared}{l:Addr}{xs ys:List V}
theorem PJ.lset{its its':List Value}{n:Nat}{f:Array Value->Array Value}{t':Nat}(I:PJ X gV σ H s)(hH:H l=some (.lst xs))
  (e:s.heap.get? l=some {cls:=.type "list",data:=.seq its.toArray n}) (hf:f its.toArray=its'.toArray) (hv:bO ys its') (hz:ys.length<=sizeLine) :
  PJ X gV σ (Pv H l (.lst ys)) {s with heap:=s.heap.update l (Obj.mapSeq f),toks:=t' }:=by
 have q:=PySem.IsL.update e f;rw[hf]at q;refine I.write (x:=l) (e:=l) (by rw[hH];exact trivial) (.inl rfl) (λb' u hb hu=>(Heap.get?_update_other s.heap (Obj.mapSeq f) (Ne.symm hb)).trans hu) ⟨_,q⟩ ?_;exact⟨hz,its',_,hv,q⟩
theorem PJ.lnew{its:List Value}{t':Nat}(I:PJ X gV σ H s)(hv:bO ys its)(hz:ys.length<=sizeLine) :
  PJ X gV σ (Pv H s.heap.objs.size (.lst ys)) {s with heap:=s.heap.push {cls:=.type "list",data:=.seq its.toArray},toks:=t' } :=
 I.laid (λ_ _ q=>Uy _ q) (UJ _) ⟨hz,its,0,hv,Heap.get?_push_size _ rfl⟩
theorem PJ.fresh(I:PJ X gV σ H s):H s.heap.objs.size=none:=I.hok.fresh (UJ _)
theorem PJ.lstM(I:PJ X gV σ H s)(hH:H l=some (.lst xs)):xs.length<=sizeLine/\∃(its:List Value)(n:Nat),bO xs its/\xs.length=its.length/\s.heap.get? l=some {cls:=.type "list",data:=.seq its.toArray n}:=by obtain⟨z,its,n,r,e⟩:=I.hok l _ hH;exact⟨z,its,n,r,r.length,e⟩
theorem Ey{n:Nat}(h:n<=sizeLine):Builtin.List.listTooLong n=false:=by unfold Builtin.List.listTooLong;exact decide_eq_false xL
end
section
variable{X:Cx}
def HY:V->List V->Hp->VK->Prop:=λx vs H Q=>∃l xs y,x=.ref l/\vs=[y]/\H l=some (.lst xs)/\xs.length<sizeLine/\Q .non (Pv H l (.lst (xs++[y])))
theorem vD:Qo X "list.append" HY:=by intro gV s σ H x vs v us Q I rx rv h;obtain⟨l,xs,y,rfl,rfl,hH,hz,q⟩:=h;cases rx;obtain⟨u,rfl,ru⟩:=rv.one;obtain⟨z,its,n,r,hl,e⟩:=I.lstM hH;refine call_meets F.slot_list_append ⟨_,e,rfl⟩ F.entry_list_append (F.args_list_append_2 _ _) (PySem.list_append l its.toArray n u (by rw[List.size_toArray];omega)) ⟨e,?_⟩;refine⟨.non,_,I.lset (its':=its++[u]) hH e v6 (r.append (.cons ru .nil)) ?_,rfl,q⟩;rw[List.length_append,List.length_singleton];omega
def Po:V->List V->Hp->VK->Prop:=λx vs H Q=>∃l xs y,x=.ref l/\vs=[]/\H l=some (.lst xs)/\xs[xs.length-1]?=some y/\Q y (Pv H l (.lst xs.dropLast))
def KU:V->List V->Hp->VK->Prop:=λx vs H Q=>∃l xs i k y,x=.ref l/\vs=[.int i]/\H l=some (.lst xs)/\-(2^63)<=i/\i<2^63/\seqIndex? i xs.length=some k/\xs[k]?=some y/\Q y (Pv H l (.lst (xs.eraseIdx k)))
theorem Ez:Qo X "list.pop" KU:=by
 intro gV s σ H x vs v us Q I rx rv h;obtain⟨l,xs,i,k,y,rfl,rfl,hH,h1,h2,hk,hy,q⟩:=h;cases rx;obtain⟨u,rfl,ru⟩:=rv.one;obtain⟨t,rfl⟩:=ru;obtain⟨z,its,n,r,hl,e⟩:=I.lstM hH;obtain⟨w,hw,rw'⟩:=r.get hy
 refine call_meets F.slot_list_pop ⟨_,e,rfl⟩ F.entry_list_pop (F.args_list_pop_2 _ _)
  (MeetsSeq.list_pop_at l its.toArray n i t k w (fitsIndex_both h1 h2) (by rw[List.size_toArray,<- hl];exact hk) (by rw[<- Array.getElem?_toList];exact hw) (by rw[List.size_toArray];omega)) ⟨e,?_⟩
 refine⟨y,_,I.lset (its':=its.eraseIdx k) hH e ?_ (r.eraseIdx k) ?_,rw',q⟩
 . show its.toArray.eraseIdxIfInBounds k=(its.eraseIdx k).toArray;rw[List.eraseIdxIfInBounds_toArray]
 . have:=vB xs k;omega
def EC:V->List V->Hp->VK->Prop:=λx vs H Q=>∃l xs,x=.ref l/\vs=[]/\H l=some (.lst xs)/\Q .non (Pv H l (.lst xs.reverse))
theorem AG:Qo X "list.reverse" EC:=by intro gV s σ H x vs v us Q I rx rv h;obtain⟨l,xs,rfl,rfl,hH,q⟩:=h;cases rx;have hus:=rv.zero;subst hus;obtain⟨z,its,n,r,hl,e⟩:=I.lstM hH;refine call_meets F.slot_list_reverse ⟨_,e,rfl⟩ F.entry_list_reverse (F.args_list_reverse_1 _) (AutoSeq1.list_reverse_list_0 l its.toArray n (by rw[List.size_toArray];omega)) ⟨e,?_⟩;refine⟨.non,_,I.lset (its':=its.reverse) hH e v6 r.reverse ?_,rfl,q⟩;rw[List.length_reverse];omega
def O4:R2:=λx y H Q=>∃l k xs,x=.ref l/\y=.int k/\H l=some (.lst xs)/\-(2^63)<=k/\k<2^63/\xs.length*k.toNat<=sizeLine /\
 ∀p,H p=none->Q (.ref p) (Pv H p (.lst (List.replicate k.toNat xs).flatten))
theorem Ib{α:Type}(xs:List α)(k:Nat):(List.replicate k xs).flatten.length=k*xs.length:=by
 induction k with
 |zero=>simp
 |succ k ih=>rw[List.replicate_succ,List.flatten_cons,List.length_append,ih,Nat.succ_mul,Nat.add_comm]
theorem KW:P4 X (binaryOp .Mult) O4:=by
 intro gV s σ H x y v u Q I rx ry h;obtain⟨l,k,xs,rfl,rfl,hH,h1,h2,hz,q⟩:=h;cases rx;obtain⟨t,rfl⟩:=ry;obtain⟨z,its,n,r,hl,e⟩:=I.lstM hH;have p4:its.toArray.size*k.toNat<=sizeLine:=by rw[List.size_toArray,<- hl];exact hz
 have hcap:¬its.toArray.size*k.toNat > (2^63-1) / 8:=by
  have:(sizeLine:Nat)<=(2^63-1) / 8:=by decide
  omega
 have hfit:¬(!Builtin.List.listFitsIndex k)=true:=by rw[fitsIndex_both h1 h2];exact Bool.false_ne_true
 have hlong:¬Builtin.List.listTooLong (its.toArray.size*k.toNat)=true:=by rw[Ey p4];exact Bool.false_ne_true
 have hnew:List.foldl (λx1 x2=>x1++x2) #[] (List.replicate (if its.toArray.isEmpty=true then 0 else k.toNat) its.toArray)=(List.replicate k.toNat its).flatten.toArray:=by
  have f0:∀m:Nat,List.foldl (λx1 x2=>x1++x2) #[] (List.replicate m its.toArray)=(List.replicate m its).flatten.toArray:=λm=>by have:=vC its m [];rw[List.nil_append]at this;exact this
  rw[f0]
  cases its with
  |nil=>simp
  |cons a r'=>rw[if_neg (by simp)]
 refine wpAny_binaryOp_repeat_ref (T:="list") (U:="int") x_ ⟨_,e,rfl⟩ (λs'=>typeIs_int s' k t) noFill_list_mul F.fills_int_mul F.slot_int_rmul repeat_list F.slot_int_index.lookup
  (call_meets F.slot_int_rmul (typeIs_int s k t) F.entry_int_rmul (F.args_int_rmul_2 _ _) (int___rmul___int_list k t l its.toArray n)
   ⟨e,rfl,⟨_,e,rfl⟩,call_meets F.slot_list_mul ⟨_,e,rfl⟩ F.entry_list_mul (F.args_list_mul_2 _ _) (AutoListH.list___mul___list_int_3 l its.toArray n k t hfit hcap hlong) ⟨e,?_⟩⟩)
 rw[hnew];exact⟨.ref _,_,I.lnew (t':=s.toks) (r.rep k.toNat) (by rw[Ib,Nat.mul_comm];exact hz),rfl,q _ I.fresh⟩
end
end L2
namespace Att
open PySem PySem.W PySem.Calls PyProof.Rows
theorem pX{P:Params}{h:Heap}:∀(ns:List Int)(vs:List Value),WellAll P h vs (ns.map WData.int)->IntsAre vs ns:=by
 intro ns
 induction ns with
 | nil =>
  intro vs w;rw[List.map_nil]at w;cases w;exact .nil
 | cons n ns ih =>
  intro vs w;rw[List.map_cons]at w
  cases w with
  | cons a b =>
   cases a;exact .cons _ _ (ih _ b)
theorem B2{l:OpenLaw}{n:Nat}(hn:l.most=some n){P:Params}{h:Heap}{args:List WData}{vals:List Value}
  (hpre:l.row.toRowW.claim.pre args=true) (hwl:WellAll P h vals args) :
  ∃ a vs ns,vals=[Value.ref a]/\args=[WData.list (ns.map WData.int)]/\h.get? a=some {cls:=.type "list",data:=.seq vs.toArray}/\IntsAre vs ns/\ns.length<=n:=by
 have hsh:WShape.hasAll [] args [.list .int]=true:=(pre_splitW hpre).1;have hc:l.pre.holds [] {args:=args}=true:=(pre_splitW hpre).2;obtain⟨d,r,rfl,h1,h2⟩:=hasAllW_cons hsh;obtain rfl:=hasAllW_nil h2;obtain⟨xs,rfl,h3⟩:=hasW_list h1;obtain⟨ns,rfl⟩:=items_int h3
 have p4:ns.length<=n:=by
  unfold OpenLaw.pre at hc;have h4:(WTm.not (.lt (.lit (.int (n:Int))) (.len (.arg 0)))).holds [] {args:=[.list (ns.map .int)] }=true:=by have h4:=(holds_andW hc).1;rw[hn]at h4;exact h4
  have h5:=condW_of h4 (w_not (w_lt w_lit (w_len_list (w_arg rfl))));rw[UC]at h5;refine Nat.le_of_not_lt λq=>?_;have q':(n:Int)<((ns.length:Nat):Int):=by omega
  first
   |(rw[decide_eq_true q']at h5;exact absurd h5 x_)
   |(simp at h5;omega)
 cases hwl with
 | cons w1 w2 =>
  cases w2
  cases w1 with
  |list ho hall=>exact⟨_,_,ns,rfl,rfl,ho,pX ns _ hall,p4⟩
theorem B3(l:OpenLaw)(args:List WData):l.row.toRowW.claim.post args (.bool true) args=true :=
 postW_of (r:=l.row.toRowW) (X:=(true == true))
  (show WShape.has [] (.bool true) .bool=true by first|rfl|decide|simp[WShape.has,WShape.arms,WShape.armsAll])
  (show(WTm.eq .res (.lit (.bool true))).value [] {args:=args,res:=some (.bool true),after:=args}=some (.bool (true == true))from w_eq_bool (w_res rfl) w_lit) rfl
theorem attach_call{l:OpenLaw}{n:Nat}{q:Program}{loose:List Str}{XP:(Str->Option Value)->Heap->Prop}{YP:World->Heap->Prop}{d:DefRec}
  (hn:l.most=some n) (hdf:d.params.defaults=[])
  (call:∀(w:World)(s₀ s₁:Shared)(mg mb:Str->Option Value)(fa:Addr)(o:Obj)(pm cd doc:Value)(a:Addr)(vs:List Value)(ns:List Int),
   Ground q loose [] XP w s₀ mg mb s₁.heap->YP w s₁.heap ->
   s₁.heap.get? fa=some o->o.data=.func (docDef d.name d.params d.body d.scope pm cd doc)->s₁.heap.CodeRec cd d.name->mg d.name=some (.ref fa) ->
   s₁.heap.get? a=some {cls:=.type "list",data:=.seq vs.toArray}->IntsAre vs ns->ns.length<=n->s₁.gens=#[] ->
   codeAny (model l.prog w) callerA (.call (.ref fa) ⟨[.ref a],[]⟩) (λr s'=>r=.ok (.ret (.bool true))/\OldK s₁.heap s'.heap/\s'.os=s₁.os/\AllBare s'.gens) s₁) :
  WalkO q loose XP YP l.row.toRowW d [] (λf vs=>PySem.call f vs):=by
 intro w s₀ s₁ mg mb G Y fa o pm cd doc dV kV ho hd hcd hD hmg hg args vals as hpre hlay hrd hwl hlo;obtain rfl:dV=.none:=Dflts.none hD hdf;obtain rfl:kV=.none:=Dflts.noKw hD;obtain⟨a,vs,ns,rfl,rfl,hobj,hints,p4⟩:=B2 hn hpre hwl;refine enter_call (codeAny_mono (call w s₀ s₁ mg mb fa o pm cd doc a vs ns G Y ho (fd_plain hd) hcd hmg hobj hints p4 hg) λr s' hq=>?_);obtain⟨rfl,h2,h3,h4⟩:=hq;exact⟨.inl ⟨.bool true,.bool true,[],rfl,λ_=>rfl,.bool true,B3 l _,λ_=>⟨List.Pairwise.nil,λ_ hm=>(nomatch hm)⟩⟩,h2,h3,h4⟩
section
noncomputable def noObjs(h:Heap):Heap:={h with objs:=#[] }
theorem noObjs_get(h:Heap)(b:Addr):(noObjs h).get? b=none:=by
 cases e:(noObjs h).get? b with
 |none=>rfl
 |some o=>exact absurd (UF e) (Nat.not_lt_zero _)
noncomputable def Ov(h:Heap)(L d:Addr):List (Addr×Obj):=(List.range h.objs.size).filterMap λa=>if a=L∨a=d then none else(h.get? a).map λo=>(a,o)
end
end Att
namespace L2
open PySem PySem.Spec PyProof.Rows
theorem vE:∀{vs:List Value}{ns:List Int},IntsAre vs ns->bO (ns.map V.int) vs
 |_,_,.nil=>.nil
 |_,_,.cons n t h=>.cons ⟨t,rfl⟩ (vE h)
def MV(H:Hp):Prop:=∀b,H b=none∨(∃o xs,H b=some (.frz o (.lst xs)))∨∃q,H b=some (.tbl q)
noncomputable def eU(K:PySem.W.Frag):List (Addr×Str):=lamNames.filterMap λx=>(PySem.W.tabIn K x).map λp=>(p.2,sP x)
noncomputable def tabsOk(K:PySem.W.Frag):Bool:=decide ((eU K).map (·.1)).Nodup && (eU K).all λp=>(K.lookup p.1).isNone
theorem B4{K:PySem.W.Frag}{P:Addr}{q:Str}(h:(P,q)∈eU K):∃x∈lamNames,∃c,PySem.W.tabIn K x=some (c,P)/\q=sP x:=by
 obtain⟨x,hx,e⟩:=List.mem_filterMap.mp h
 cases z:PySem.W.tabIn K x with
 |none=>rw[z]at e;cases e
 |some p=>rw[z]at e;cases e;exact⟨x,hx,p.1,z,rfl⟩
theorem lz{α β:Type}[BEq α][LawfulBEq α]:∀{l:List (α×β)}{a:α}{b:β},l.lookup a=some b->(a,b)∈l
 |[],_,_,h=>nomatch h
 | (x,y)::r,a,b,h=>by
  rw[List.lookup_cons]at h
  cases hb:a == x with
  |true=>rw[hb]at h;cases h;rw[eq_of_beq hb];exact .head _
  |false=>rw[hb]at h;exact .tail _ (lz h)
theorem jJ{α β:Type}[BEq α][LawfulBEq α]:∀{l:List (α×β)}{a:α}{b:β},(l.map (·.1)).Nodup->(a,b)∈l->l.lookup a=some b
 |[],_,_,_,h=>nomatch h
 | (x,y)::r,a,b,nd,h=>by
  rw[List.map_cons,List.nodup_cons]at nd;rw[List.lookup_cons];rcases UK.mp h with e|h
  . cases e;simp
  . have:a≠x:=λz=>nd.1 (z ▸ List.mem_map_of_mem (f:=(·.1)) h);rw[show(a == x)=false from beq_false_of_ne this];exact jJ nd.2 h
theorem AH{K:PySem.W.Frag}{x:Str}{c P:Addr}(h:PySem.W.tabIn K x=some (c,P)):K.lookup c≠none:=by
 unfold PySem.W.tabIn at h;split at h
 .
  split at h
  .
   split at h
   .
    split at h
    .
     rename_i hco;split at h
     . cases h;intro z;rw[hco]at z;cases z
     . cases h
    . cases h
   . cases h
  . cases h
 . cases h
theorem ED{P:Program}{w:World}{K:PySem.W.Frag}{mg mb:Str->Option Value}{CX:Qa}{k:Nat}{fa a:Addr}{fd:FuncData}{x:Str}{sp:Sp}{s₁:Shared}{vs:List Value}{ns:List Int}
  (KX:K.In s₁.heap) (hns:s₁.heap.Ns mainGlobals mg) (hb:s₁.heap.Ns builtinsNs mb) (hbb:∀ x:Str,x≠"__name__"->mb x=bootBuiltins x) (hlim:s₁.heap.NoLimit) (hsys:∃ mm,s₁.heap.Ns sysModules mm) (hbm:Kx mg s₁.heap) (hto:tabsOk K=true)
  (htb:∀x∈lamNames,∀c P,PySem.W.tabIn K x=some (c,P)->PySem.W.CodeHd s₁.heap c P/\s₁.heap.get? P=some (PySem.W.tabObj #[])) (hg:s₁.gens=#[])
  (ha:s₁.heap.get? a=some {cls:=.type "list",data:=.seq vs.toArray}) (hi:IntsAre vs ns) (hl:ns.length<=sizeLine) (hr:gI k callerA)
  (F:∀base:Heap,K.In base->base.Ns mainGlobals mg->FnOk P w K mg base CX k fa fd [x] sp) (hbind:∀(s:Shared)(u:Value),BindsTo s fd ⟨[u],[]⟩ [(x,u)])
  (hsp:∀H:Hp,MV H->PU K H a (ns.map V.int)->sp [.ref a] H (λv _=>v=.bl true) λ_ _ _=>False)
  (hCX:∀H e s',CX [] H s₁ (λ_ _ _=>False) e s'->False) :
  codeAny (model P w) callerA (.call (.ref fa) ⟨[.ref a],[]⟩) (λr s'=>r=.ok (.ret (.bool true))/\OldK s₁.heap s'.heap/\s'.os=s₁.os/\AllBare s'.gens) s₁:=by
 have rv:=vE hi;have lenV:=hi.length;obtain⟨nd,kn⟩:=Bool.and_eq_true_iff.mp hto;have nd:=of_decide_eq_true nd;have tabAt:∀{b:Addr}{q:Str},(eU K).lookup b=some q->PySem.isCodeTable s₁.heap b/\s₁.heap.get? b=some (PySem.W.tabObj #[])/\K.lookup b=none:=λ{b q} e=>by have hm:(b,q)∈eU K:=lz e;obtain⟨x,hx,c,e1,_⟩:=B4 hm;obtain⟨h1,h2⟩:=htb x hx c b e1;refine⟨(h1.tab h2).isCodeTable,h2,?_⟩;have:=List.all_eq_true.mp kn (b,q) hm;simpa using this
 have core:∀H:Hp,MV H->PU K H a (ns.map V.int)->Pw P w H s₁.heap->(∀b,H b≠none->b=a∨∃q,H b=some (.tbl q)/\(eU K).lookup b=some q)->(∀b,H b≠none->K.lookup b=none)->Pz K H ->
   codeAny (model P w) callerA (.call (.ref fa) ⟨[.ref a],[]⟩) (λr s'=>r=.ok (.ret (.bool true))/\OldK s₁.heap s'.heap/\s'.os=s₁.os/\AllBare s'.gens) s₁:=by
  intro H hO hS hok hA hK hT;have base_of:∀{b:Addr}{o:Obj},s₁.heap.get? b=some o->H b=none->(El s₁.heap H).get? b=some o:=λe n=>Em e n
  have noB:∀{b:Addr}{o:Obj},s₁.heap.get? b=some o->(∀us n,o.data≠.seq us n)->(∀us,o.data≠.fields us)->H b=none:=λ{b o} e d1 d2=>by
   cases q:H b with
   |none=>rfl
   | some u =>
    rcases hA b (by rw[q];simp)with e' | ⟨z,_,e'⟩
    . subst e';rw[ha]at e;cases e;exact absurd rfl (d1 _ _)
    . rw[(tabAt e').2.1]at e;cases e;exact absurd rfl (d2 _)
  have noA:∀{b:Addr}{o:Obj}{es:Array DictEntry}{ep:Nat},s₁.heap.get? b=some o->o.data=.dict es ep->H b=none:=λ{b o es ep} e d =>
   noB e (λus n z=>by rw[d]at z;cases z) λus z=>by rw[d]at z;cases z
  have nsK:∀{b:Addr}{m:Str->Option Value},s₁.heap.Ns b m->(El s₁.heap H).Ns b m:=λ{b m} ⟨o,es,ep,e,d,r⟩=>⟨o,es,ep,base_of e (noA e d),d,r⟩
  have hKb:K.In (El s₁.heap H):=λb o e=>base_of (KX b o e) (by
   cases q:H b with
   |none=>rfl
   |some u=>rw[hK b (by rw[q];simp)]at e;cases e)
  have hM:Mod K mg (El s₁.heap H):=⟨hKb,nsK hns,⟨mb,nsK hb,hbb⟩,let ⟨mc,h1,h2⟩:=hlim;⟨mc,nsK h1,h2⟩,let ⟨mm,h1⟩:=hsys;⟨mm,nsK h1⟩,by
   obtain⟨bm,ob,b1,b2,b3,b4,b5,b6⟩:=hbm
   exact⟨bm,ob,b1,b2,base_of b3 (noB b3 (λus n z=>by rw[b6]at z;cases z) λus z=>by rw[b6]at z;cases z),b4,b5,b6⟩,λx hx c P e=>by
   obtain⟨⟨o,vs,file,tf,flags,tg,Qp,text,tt,e1,r⟩,_⟩:=htb x hx c P e
   exact⟨o,vs,file,tf,flags,tg,Qp,text,tt,base_of e1 (by
    cases q:H c with
    |none=>rfl
    |some u=>exact absurd (hK c (by rw[q];simp)) (AH e)),r⟩⟩
  have e0:AC P w K mg (El s₁.heap H) callerA [] s₁ H:=⟨rfl,hM,λb o e=>HH e,Nat.le_of_eq (BH _ _),trivial,λb hb=>absurd (show b∈([]:List Addr)from hb) v6,hok,.of_eq hg,hT⟩;refine codeAny_mono ((F _ hKb (nsK hns)).run callerA [] s₁ H ⟨[.ref a],[]⟩ [.ref a] [.ref a] _ _ hr e0 (hbind s₁ (.ref a)) (.cons rfl .nil) (hsp H hO hS)) λr s' h=>?_
  cases r with
  |error e=>exact(hCX H e s' h).elim
  | ok fl =>
   cases fl with
   |next=>exact False.elim h
   |brk=>exact False.elim h
   |cont=>exact False.elim h
   | ret u =>
    obtain⟨v,H',os,bare,un,hok',r',q⟩:=h;have q':v=.bl true:=q;subst q';obtain rfl:u=Value.bool true:=r'
    have PR:∀b o,s₁.heap.get? b=some o->s'.heap.get? b=some o∨(PySem.isCodeTable s₁.heap b/\o=PySem.W.tabObj #[]/\∃ps,s'.heap.get? b=some (PySem.W.tabObj ps)):=λb o e=>by
     cases q:H b with
     |none=>exact .inl (un.keep b o e q (by intro z;exact absurd (show b∈([]:List Addr)from z) v6) v6)
     | some u =>
      rcases hO b with z|⟨ob,xs,z⟩|⟨t,z⟩
      . rw[q]at z;cases z
      . have z2:=un.frzs b ob _ z;obtain⟨e1,_⟩:=hok b _ z;obtain⟨e2,_⟩:=hok' b _ z2;rw[e]at e1;cases e1;exact .inl e2
      .
       rcases hA b (by rw[q];simp)with e' | ⟨t2,_,e'⟩
       . subst e';obtain⟨ps,e1,_⟩:=hok b _ z;rw[ha]at e1;cases e1
       . obtain⟨ps,e2,_⟩:=hok' b _ (un.tbls b _ z);obtain⟨t1,t2,_⟩:=tabAt e';rw[e]at t2;cases t2;exact .inr ⟨t1,rfl,ps,e2⟩
    refine⟨rfl,⟨λb o e=>?_,λb o e=>?_⟩,os,bare⟩
    .
     rcases PR b o e with z|⟨t,rfl,ps,z⟩
     . exact .inl z
     . exact .inr (.inl ⟨t,rfl,#[],ps,rfl,by rw[Array.empty_append];exact z⟩)
    .
     rcases PR b o e with z|⟨t,_,ps,z⟩
     . exact⟨o,z⟩
     . exact⟨_,z⟩
 have tbsOf:∀{H:Hp},(∀b q,(eU K).lookup b=some q->H b=some (.tbl q))->Pz K H:=λ{H} h x hx c P e=>h P _ (jJ nd (List.mem_filterMap.mpr ⟨x,hx,by rw[e];rfl⟩));have okT:∀{H:Hp}{b:Addr}{q:Str},(eU K).lookup b=some q->d3 P w H s₁.heap b (.tbl q):=λ{H b q} e=>⟨#[],(tabAt e).2.1,trivial,λpos cv z=>by simp[codeAmong]at z⟩;have na:∀q,(eU K).lookup a≠some q:=λq z=>by have:=(tabAt z).2.1;rw[ha]at this;cases this
 cases hk:K.lookup a with
 | some o =>
  have e:=KX a o hk;rw[ha]at e;cases e;refine core (λb=>((eU K).lookup b).map .tbl) (λb=>?_) (.inr ⟨_,vs.toArray,_,hk,rfl,rfl,rfl,by rw[List.size_toArray,lenV];exact hl,by simpa using rv⟩) (λb u z=>?_) (λb z=>?_) (λb z=>?_) (tbsOf λb q e=>by show Option.map _ _=_;rw[e];rfl)
  .
   show Option.map HO.tbl ((eU K).lookup b)=none∨_
   cases q:(eU K).lookup b with
   |none=>exact .inl rfl
   |some t=>exact .inr (.inr ⟨t,by show Option.map _ _=_;rw[q];rfl⟩)
  .
   have z':Option.map HO.tbl ((eU K).lookup b)=some u:=z
   cases q:(eU K).lookup b with
   |none=>rw[q]at z';cases z'
   |some t=>rw[q]at z';cases z';exact okT q
  .
   have z':Option.map HO.tbl ((eU K).lookup b)≠none:=z
   cases q:(eU K).lookup b with
   |none=>rw[q]at z';exact absurd rfl z'
   |some t=>exact .inr ⟨t,rfl,rfl⟩
  .
   have z':Option.map HO.tbl ((eU K).lookup b)≠none:=z
   cases q:(eU K).lookup b with
   |none=>rw[q]at z';exact absurd rfl z'
   |some t=>exact(tabAt q).2.2
 | none =>
  have at_a:∀ b,(if b=a then some (HO.frz {cls:=.type "list",data:=.seq vs.toArray} (.lst (ns.map V.int)))else((eU K).lookup b).map .tbl)≠none->b=a∨∃ q,(eU K).lookup b=some q:=λb z=>by
   by_cases hb:b=a
   . exact .inl hb
   .
    rw[if_neg hb]at z
    cases q:(eU K).lookup b with
    |none=>rw[q]at z;exact absurd rfl z
    |some t=>exact .inr ⟨t,rfl⟩
  have tabA:∀ b q,(eU K).lookup b=some q->(if b=a then some (HO.frz {cls:=.type "list",data:=.seq vs.toArray} (.lst (ns.map V.int)))else((eU K).lookup b).map .tbl)=some (.tbl q):=λb q e=>by rw[if_neg (λ(z:b=a)=>na q (by rw[<- z];exact e)),e];rfl
  refine core (λb=>if b=a then some (.frz {cls:=.type "list",data:=.seq vs.toArray} (.lst (ns.map V.int)))else((eU K).lookup b).map .tbl) (λb=>?_) (.inl (.inr ⟨{cls:=.type "list",data:=.seq vs.toArray},if_pos rfl⟩)) (λb u z=>?_) (λb z=>?_) (λb z=>?_) (tbsOf λb q e=>tabA b q e)
  .
   by_cases hb:b=a
   . exact .inr (.inl ⟨_,_,if_pos hb⟩)
   .
    cases q:(eU K).lookup b with
    |none=>exact .inl (by show ite _ _ _=_;rw[if_neg hb,q];rfl)
    |some t=>exact .inr (.inr ⟨t,tabA b t q⟩)
  .
   by_cases hb:b=a
   . have z':=(if_pos hb).symm.trans z;cases z';subst hb;exact⟨ha,by rw[UC];exact hl,vs,_,rv,ha⟩
   .
    have z':=(if_neg hb).symm.trans z
    cases q:(eU K).lookup b with
    |none=>rw[q]at z';cases z'
    |some t=>rw[q]at z';cases z';exact okT q
  .
   rcases at_a b z with e|⟨q,e⟩
   . exact .inl e
   . exact .inr ⟨q,tabA b q e,e⟩
  .
   rcases at_a b z with e|⟨q,e⟩
   . rw[e];exact hk
   . exact(tabAt e).2.2
theorem walk_of{l:PySem.W.OpenLaw}{n k:Nat}{q:Program}{loose:List Str}{XP:(Str->Option Value)->Heap->Prop}{YP:World->Heap->Prop}{d:DefRec}{K:Params->PySem.W.Frag}{CX:World->Qa}{sp:World->Sp}{x:Str}
  (hn:l.most=some n) (hq:importsNone q=true) (hn2:n<=sizeLine) (hdf:d.params.defaults=[]) (hr:gI k callerA)
  (hY:∀(w:World)(h:Heap),YP w h->(K w.params).In h) (hto:∀w:World,tabsOk (K w.params)=true) (hrc:∀(w:World),∀x∈lamNames,PySem.W.tabIn (K w.params) x=none∨((recsOf q).find? λe=>e.name == x).isSome=true)
  (F:∀(w:World)(mg:Str->Option Value)(fa:Addr)(h:Heap),(K w.params).In h->h.Ns mainGlobals mg->mg d.name=some (.ref fa) ->
   ∃fd:FuncData,(∀(s:Shared)(u:Value),BindsTo s fd ⟨[u],[]⟩ [(x,u)]) /\
    ∀base:Heap,(K w.params).In base->base.Ns mainGlobals mg->FnOk l.prog w (K w.params) mg base (CX w) k fa fd [x] (sp w))
  (hsp:∀(w:World)(H:Hp)(a:Addr)(ns:List Int),ns.length<=n->MV H->PU (K w.params) H a (ns.map V.int)->sp w [.ref a] H (λv _=>v=.bl true) λ_ _ _=>False)
  (hCX:∀(w:World)(H:Hp)(s:Shared)(e:Value)(s':Shared),CX w [] H s (λ_ _ _=>False) e s'->False) :
  PySem.W.WalkO q loose XP YP l.row.toRowW d [] (λf vs=>PySem.call f vs):=by
 refine Att.attach_call hn hdf λw s₀ s₁ mg mb fa o pm cd doc a vs ns G Y ho hd hcd hmg hobj hints p4 hg=>?_;have KX:=hY w _ Y;obtain⟨fd,hb,hF⟩:=F w mg fa _ KX G.T.g hmg
 exact ED KX G.T.g G.T.b G.T.builtins G.T.nolimit (let ⟨mm,h1,_⟩:=(G.T.seer hq).mods;⟨mm,h1⟩) (let ⟨bm,ob,b1,b2,b3,b4,b5,b6⟩:=G.T.bmain;⟨bm,ob,b1,b2,b3,b4,b5,b6⟩) (hto w) (λy hy c P e=>by
  rcases hrc w y hy with z|z
  . rw[z]at e;cases e
  .
   obtain⟨d',hd'⟩:=Option.isSome_iff_exists.mp z
   exact PySem.W.tab_of G.T KX hd' e) hg hobj hints (Nat.le_trans p4 hn2) hr hF hb (λH hO hS=>hsp w H a ns p4 hO hS) λH e s'=>hCX w H s₁ e s'
noncomputable def jK(s:Stmt):Arguments:=match s with
 |.FunctionDef _ a _ _ _ _ _ _ _ _=>a
 |_=>{posonlyargs:=[],args:=[],vararg:=none,kwonlyargs:=[],kw_defaults:=[],kwarg:=none,defaults:=[] }
noncomputable def cX(s:Stmt):List Stmt:=match s with
 |.FunctionDef _ _ b _ _ _ _ _ _ _=>b
 |_=>[]
noncomputable def ak(s:Stmt):Scope:=match s with
 |.FunctionDef _ _ _ _ _ _ sc _ _ _=>sc
 |_=>{kind:=.function,names:=[],isGenerator:=false,isCoroutine:=false}
noncomputable abbrev CX0:Qa:=λ_ _ _ _ _ _=>False
noncomputable abbrev E0:XK:=λ_ _ _=>False
theorem Ic{X:Cx}:zi CX0 X E0:=λ_ _ _ _ _ _ _ h=>h.elim
structure Qq (K:PySem.W.Frag) (x qual:Str) (st:Stmt) (f:Addr) (fd:FuncData):Prop where
 ex:∃(oc:Value)(od:Option Addr)(kV doc pm:Value)(an:Option Addr)(cdv ct:Value)(osl:Array (Option Value)),
  fd=PySem.W.fnOf x qual (jK st) (cX st) (ak st) .none kV doc pm an cdv ct/\K.lookup f=some ⟨oc,od,.func fd,osl⟩/\PySem.W.codeIn K cdv qual=true
 kp:PySem.W.keepIn K (.ref f)=true
section
variable{P:Program}{w:World}{K:PySem.W.Frag}{mg:Str->Option Value}{base:Heap}
theorem Qq.ok{x qual:Str}{st:Stmt}{f:Addr}{fd:FuncData}{N ps:List Str}{k:Nat}{sp:Sp}(F:Qq K x qual st f fd)(S:az N ps (ak st))(len:∀vs H Q E,sp vs H Q E->vs.length=ps.length)
  (hbody:∀(cdv:Value)(A:Around)(outer:List Env)(s:Shared)(H:Hp)(vs:List V)(Q:VK)(E:XK),gI k (A.deeper (envOfC qual (ak st) s.heap.objs.size f cdv))->sp vs H Q E ->
   ∃t,PN (Eg CX0 P w K mg base N qual (ak st) f cdv A outer s H E).nox (cX st) t/\t {nx:=λ_ H'=>Q .non H',rt:=Q} (nO N vs) H):FnOk P w K mg base CX0 (k+1) f fd ps sp:=by
 obtain⟨oc,od,kV,doc,pm,an,cdv,ct,osl,rfl,lk,hcd⟩:=F.ex;refine HS lk hcd S len λA outer s H vs Q E hr hsp=>?_;obtain⟨t,h,q⟩:=hbody cdv A outer s H vs Q E hr hsp;exact⟨t,h.nox,q⟩
theorem Qq.binds{x qual:Str}{st:Stmt}{f:Addr}{fd:FuncData}{ps:List Str}(F:Qq K x qual st f fd)
  (h:∀(kV doc pm:Value)(an:Option Addr)(cdv ct:Value)(us:List Value),us.length=ps.length->bindArgs (PySem.W.fnOf x qual (jK st) (cX st) (ak st) .none kV doc pm an cdv ct) ⟨us,[]⟩=pure (ps.zip us)):nN K fd ps []:=by
 obtain⟨oc,od,kV,doc,pm,an,cdv,ct,osl,rfl,lk,hcd⟩:=F.ex;exact .all (h kV doc pm an cdv ct)
theorem sS{x qual:Str}{st:Stmt}{f:Addr}{oc:Value}{od an:Option Addr}{osl:Array (Option Value)}{kV doc pm cdv ct:Value}(l:K.lookup f=some ⟨oc,od,.func (PySem.W.fnOf x qual (jK st) (cX st) (ak st) .none kV doc pm an cdv ct),osl⟩)
  (c:PySem.W.codeIn K cdv qual=true) (k:PySem.W.keepIn K (.ref f)=true):Qq K x qual st f (PySem.W.fnOf x qual (jK st) (cX st) (ak st) .none kV doc pm an cdv ct):=⟨⟨oc,od,kV,doc,pm,an,cdv,ct,osl,rfl,l,c⟩,k⟩
end
section
variable{X:Cx}
theorem pv(i:Nat){x:Str}{pos:Pos}(hN:X.N[i]?=some x:=by rfl)(hv:PF X.env.scope x:=by first | exact Or.inl rfl | exact Or.inr (Or.inl rfl) | exact Or.inr (Or.inr rfl)) (hd:(x == ("__debug__" : Str))=false:=by decide)
  (hcd:(x == ("__classdict__" : Str))=false:=by decide):PE X (.Name x pos) (HJ i):=gH hN hv hd hcd
end
def Ow(H H':Hp):Prop:=∀b o,H b=some o->H' b=some o
theorem Ow.free{H H':Hp}(e:Ow H H'){l:Addr}(h:H' l=Option.none):H l=Option.none:=by
 cases q:H l with
 |none=>rfl
 | some o =>
  rw[e l o q]at h;cases h
end L2
set_option maxHeartbeats 0
namespace L2
open PySem PySem.Spec
open Sem (wp)
theorem kM:Slot "function" "__getattribute__" "object.__getattribute__" :=
 .of (owner:="object") (n:="__getattribute__") (by rw[typeLookup_type,builtinLookup_eq_fast]; kernel_rfl) y_ y_ y_
  (by first|exact .inl y_|exact .inr y_) (by rw[isSubtype_type];kernel_rfl)
theorem xC:entryFor table "object.__getattribute__"=some Builtin.«object.__getattribute__»:=by
 first | exact F.entry_object_getattribute | exact entryFor_alias (id':="object.__getattribute__") z_ (by first | rfl | decide +kernel) y_ z_ | kernel_rfl
theorem AI(a b:Value):argsOk "object.__getattribute__" ⟨[a,b],[]⟩:=by
 first|exact F.args_object_getattribute_2 a b|(unfold argsOk;kernel_rfl)
theorem xD:typeLookup (.type "function") "__class__"=pure (some (.builtin "object.__class__")):=by rw[typeLookup_type,builtinLookup_eq_fast]; kernel_rfl
theorem mU:isSubtype (.type "function") (.type (".".intercalate ("object.__class__".cutAt '.').dropLast))=pure true:=by rw[F.owner_object_class,isSubtype_type];kernel_rfl
section
variable{prog:Program}{w:World}{A:Around}{E:Value->Shared->Prop}{h:Heap}{g:Array GenState}{d:Drawn}{t:Nat}{os:OsState}{a:Addr}{o:Obj}
theorem vF{R:Result->Shared->Prop}(hx:h.get? a=some o) (hc:o.cls=.type "function") (hq:R (.ok (.ret (.type "function"))) ⟨h,g,d,t,os⟩) :
  codeAny (model prog w) A (.call (.builtin "getset_descriptor.__get__") ⟨[.builtin "object.__class__",.ref a,.type "function"],[]⟩) R ⟨h,g,d,t,os⟩:=by
 have hT:(⟨h,g,d,t,os⟩:Shared).TypeIs (.ref a) "function":=⟨_,hx,hc⟩;have hT5:(⟨h,g,d,t,os⟩:Shared).TypeIs (.builtin "object.__class__") "getset_descriptor":=F.typeOf_object_class;have f8:=mU;refine codeAny_call_builtin F.slot_gs_get.plain F.entry_gs_get (F.slot_gs_get.check _ _ _ _ _ _ _ _ hT5 (F.args_gs_get _ _ _) ?_)
 repeat (any_goals (first|assumption|wp_step))
 refine⟨Code.quiet_builtin _ y_,codeAny_builtin F.entry_object_class ?_⟩
 repeat (any_goals (first|assumption|wp_step))
theorem rZ{tk:Tok}{Q:PySem.Fin->Shared->Prop}(hx:h.get? a=some o) (hc:o.cls=.type "function") (hq:Q (.done (.ret (.type "function"))) ⟨h,g,d,t,os⟩) :
  wpAny (model prog w) A (Builtin.«object.__getattribute__» ⟨[.ref a,.str "__class__" tk],[]⟩) Q E ⟨h,g,d,t,os⟩:=by
 have hT:(⟨h,g,d,t,os⟩:Shared).TypeIs (.ref a) "function":=⟨_,hx,hc⟩;have hT5:(⟨h,g,d,t,os⟩:Shared).TypeIs (.builtin "object.__class__") "getset_descriptor":=F.typeOf_object_class;have f4:=xD;have f5:=F.typeOf_object_class;have f6:=F.slot_gs_get.lookup;have f7:=F.slot_gs_set.lookup
 repeat (any_goals (first|assumption|wp_step))
 refine vF hx hc ?_
 repeat (any_goals (first|assumption|wp_step))
theorem t5{tk:Tok}{R:Result->Shared->Prop}(hx:h.get? a=some o) (hc:o.cls=.type "function") (hq:R (.ok (.ret (.type "function"))) ⟨h,g,d,t,os⟩) :
  codeAny (model prog w) A (.call (.builtin "object.__getattribute__") ⟨[.ref a,.str "__class__" tk],[]⟩) R ⟨h,g,d,t,os⟩ :=
 codeAny_call_builtin kM.plain xC (kM.check _ _ _ _ _ _ _ _ (show(⟨h,g,d,t,os⟩:Shared).TypeIs (.ref a) "function" from⟨_,hx,hc⟩) (AI _ _) (rZ hx hc hq))
theorem xE{tk:Tok}{Q:Value->Shared->Prop}(hx:h.get? a=some o) (hc:o.cls=.type "function") (hq:Q (.type "function") ⟨h,g,d,t,os⟩):wpAny (model prog w) A (getAttrBy (.ref a) (.str "__class__" tk) false) Q E ⟨h,g,d,t,os⟩:=by
 have hT:(⟨h,g,d,t,os⟩:Shared).TypeIs (.ref a) "function":=⟨_,hx,hc⟩;have f2:=kM.lookup;have f3:=kM.bind (.ref a)
 repeat (any_goals (first|assumption|wp_step))
 refine t5 hx hc ?_
 repeat (any_goals (first|assumption|wp_step))
theorem t6{Q:Option Value->Shared->Prop}(hx:h.get? a=some o) (hc:o.cls=.type "function") (hq:Q (some (.type "function")) ⟨h,g,d,t+1,os⟩):wpAny (model prog w) A (getAttr? (.ref a) "__class__") Q E ⟨h,g,d,t,os⟩:=by
 unfold getAttr? getAttrBy?
 repeat (any_goals (first|assumption|with_reducible apply xE hx hc|wp_step))
end
theorem Ie{K:PySem.W.Frag}{a:Addr}:PySem.W.KitX K (.ref a) (.type "function") (PySem.W.KitAt a "function"):=PySem.W.kitx_of PySem.W.kitAt_ty (λ{_ _ _ _ _ s} p k=>by obtain⟨h,g,d,t,os⟩:=s; obtain⟨o,h1,h2⟩:=p; exact t6 h1 h2 k)
end L2
namespace L2
open PySem PySem.Spec PyProof.Rows
inductive D where
 |non|bl (b:Bool)|int (i:Int)|str (x:Str)|tup (xs:List D)|lst (xs:List D)|dct (n:Nat)|exc (c:Str) (ns:List Str) (xs:List D)|fn (x:Str) (d:D)
def Qr(K:PySem.W.Frag)(H:Hp)(a:Addr)(xs:List V):Prop :=
 (∃o,H a=some (.frz o (.lst xs))) ∨
  ∃(o:Obj)(its:Array Value)(n:Nat),K.lookup a=some o/\o.cls=.type "list"/\o.dict=none/\o.data=.seq its n/\its.size<=sizeLine/\bO xs its.toList
theorem Qr.l{K:PySem.W.Frag}{H:Hp}{a:Addr}{xs:List V}(h:Qr K H a xs):PU K H a xs:=by
 rcases h with⟨o,h⟩|h
 . exact .inl (.inr ⟨o,h⟩)
 . exact .inr h
def EE:HO->Prop
 |.frz _ u=>EE u
 |.ins _ _ _=>False
 |_=>True
noncomputable def By(C L:Addr):List Value:=(if C=L then[]else[.ref C])++[.ref L,.type "ValueError",.type "Exception",.type "BaseException",.type "object"]
noncomputable def jL(K:PySem.W.Frag)(c:Str)(C:Addr):Bool:=match PySem.W.clsIn K C,PySem.W.nsIn K mainGlobals "LoadError" with
 | some cd,some (some (.ref L))=>cd.name == c && cd.hasDict && cd.mro == By C L && (PySem.W.clsIn K L).any (λk=>k.name == ("LoadError" : Str)) &&
  PySem.W.findIn K (.ref C) "__getattribute__" == some (some (.builtin "BaseException.__getattribute__")) && PySem.W.findIn K (.ref C) "__getattr__" == some none && PySem.W.findIn K (.ref C) "__class__" == some (some (.builtin "object.__class__")) &&
  PySem.W.findIn K (.ref C) "__setattr__" == some (some (.builtin "object.__setattr__")) && PySem.W.typeIn K (.ref C) == some (.type "type") && PySem.W.nsIn K mainGlobals c == some (some (.ref C))
 |_,_=>false
noncomputable def B5:List Stmt->Option (Arguments×Expr×Scope×Pos)
 |[]=>none
 | st::r=>match B5 r with
  |some l=>some l
  | none=>match st with
   | .Expr (.Call _ args _ _) _=>(match args.getLast? with
    |some (.Lambda p b sc pos)=>some (p,b,sc,pos)
    |_=>none)
   | .Return (some (.Call _ _ kws _)) _=>(match kws.getLast? with
    |some ⟨_,.Lambda p b sc pos,_⟩=>some (p,b,sc,pos)
    |_=>none)
   |_=>none
noncomputable def AJ(K:PySem.W.Frag)(x:Str):Option (Arguments×Expr×Scope×Pos):=match PySem.W.nsIn K mainGlobals x with
 | some (some (.ref f))=>(match K.lookup f with
  | some ⟨_,_,.func fd,_⟩=>(match fd.body with
   |.stmts b=>B5 b
   |_=>none)
  |_=>none)
 |_=>none
def XF(H:Hp)(dx:Option Addr)(ns:List Str)(vs:List V):Prop:=(ns=[]/\vs=[]/\dx=none)∨∃d od,dx=some d/\H d=some (.frz od (.xd (ns.zip vs)))/\ns.length=vs.length
mutual
inductive Qs (K:PySem.W.Frag) (H:Hp):V->D->Prop where
 |non:Qs K H .non .non
 |bl (b:Bool):Qs K H (.bl b) (.bl b)
 |int (i:Int):Qs K H (.int i) (.int i)
 |str (x:Str):Qs K H (.str x) (.str x)
 |tup {a:Addr} {vs:List V} {ds:List D} (h:PV K H a vs) (r:bA K H vs ds):Qs K H (.ref a) (.tup ds)
 |lst {a:Addr} {vs:List V} {ds:List D} (h:Qr K H a vs) (r:bA K H vs ds):Qs K H (.ref a) (.lst ds)
 |dct {a:Addr} {o:Obj} {kvs:List (Pu×V)} (h:H a=some (.frz o (.dK kvs))):Qs K H (.ref a) (.dct kvs.length)
 |exc {a:Addr} {o:Obj} {u:HO} {c:Str} {C:Addr} {ns:List Str} {vs:List V} {ds:List D} (h:H a=some (.frz o u)) (hv:EE u) (hc:o.cls=.ref C) (hn:PySem.W.notCls o=true) (hs:jL K c C=true) (hq:∀f∈ns,PySem.W.findIn K (.ref C) f=some none) (hf:XF H o.dict ns vs) (r:bA K H vs ds):Qs K H (.ref a) (.exc c ns ds)
 | fn {f c c':Addr} {oc oq:Obj} {x y:Str} {pr:Arguments} {bd:Expr} {sc:Scope} {pos:Pos} {pm ctv u:Value} {v:V} {d:D} (hl:AJ K x=some (pr,bd,sc,pos)) (hf:H f=some (.frz (PySem.W.kla_obj "<lambda>" (sP x) pr bd sc [(y,c)] pm c' ctv) (.own f)))
  (hq:H c'=some (.frz oq (.own c'))) (hc:oP oq (sP x)) (hz:H c=some (.frz oc (.own c))) (hd:oc.data=.cell (some u)) (hv:b8 v u) (hm:(y,NameKind.free)∈sc.names) (r:Qs K H v d):Qs K H (.ref f) (.fn x d)
inductive bA (K:PySem.W.Frag) (H:Hp):List V->List D->Prop where
 |nil:bA K H [] []
 |cons {v:V} {d:D} {vs:List V} {ds:List D} (h:Qs K H v d) (t:bA K H vs ds):bA K H (v::vs) (d::ds)
end
def MW:HO->Prop
 |.tup _=>True
 |.frz _ _=>True
 |.tbl _=>True
 |_=>False
def vh(H H':Hp):Prop:=∀b o,MW o->H b=some o->H' b=some o
theorem PV.pres{K:PySem.W.Frag}{H H':Hp}{a:Addr}{xs:List V}(p:vh H H')(h:PV K H a xs):PV K H' a xs:=by
 rcases h with(h|⟨o,h⟩)|h
 . exact .inl (.inl (p _ _ True.intro h))
 . exact .inl (.inr ⟨o,p _ _ True.intro h⟩)
 . exact .inr h
theorem Qr.pres{K:PySem.W.Frag}{H H':Hp}{a:Addr}{xs:List V}(p:vh H H')(h:Qr K H a xs):Qr K H' a xs:=by
 rcases h with⟨o,h⟩|h
 . exact .inl ⟨o,p _ _ True.intro h⟩
 . exact .inr h
theorem XF.pres{H H':Hp}(p:vh H H'){dx:Option Addr}{ns:List Str}{vs:List V}(h:XF H dx ns vs):XF H' dx ns vs:=by
 rcases h with h|⟨d,od,e,h,l⟩
 . exact .inl h
 . exact .inr ⟨d,od,e,p _ _ True.intro h,l⟩
mutual
theorem Qs.pres{K:PySem.W.Frag}{H H':Hp}(p:vh H H'):∀{v:V}{d:D},Qs K H v d->Qs K H' v d
 |_,_,.non=>.non
 |_,_,.bl b=>.bl b
 |_,_,.int i=>.int i
 |_,_,.str x=>.str x
 |_,_,.tup h r=>.tup (h.pres p) (bA.pres p r)
 |_,_,.lst h r=>.lst (h.pres p) (bA.pres p r)
 |_,_,.dct h=>.dct (p _ _ True.intro h)
 |_,_,.exc h hv hc hn hs hq hf r=>.exc (p _ _ True.intro h) hv hc hn hs hq (hf.pres p) (bA.pres p r)
 |_,_,.fn hl hf hq hc hz hd hv hm r=>.fn hl (p _ _ True.intro hf) (p _ _ True.intro hq) hc (p _ _ True.intro hz) hd hv hm (Qs.pres p r)
theorem bA.pres{K:PySem.W.Frag}{H H':Hp}(p:vh H H'):∀{vs:List V}{ds:List D},bA K H vs ds->bA K H' vs ds
 |_,_,.nil=>.nil
 |_,_,.cons h t=>.cons (Qs.pres p h) (bA.pres p t)
end
theorem bA.length{K:PySem.W.Frag}{H:Hp}:∀{vs:List V}{ds:List D},bA K H vs ds->vs.length=ds.length
 |_,_,.nil=>rfl
 |_,_,.cons _ t=>by simp[bA.length t]
theorem bA.get{K:PySem.W.Frag}{H:Hp}:∀{vs:List V}{ds:List D}{i:Nat}{d:D},bA K H vs ds->ds[i]?=some d->∃v,vs[i]?=some v/\Qs K H v d
 |_,_,_,_,.nil,e=>by simp at e
 |_,_,0,_,.cons h _,e=>by simp at e;subst e;exact⟨_,rfl,h⟩
 | _,_,i+1,d,.cons _ t,e=>by obtain⟨v,h1,h2⟩:=bA.get (i:=i) (d:=d) t (by simpa using e);exact⟨v,by simpa using h1,h2⟩
theorem bA.set{K:PySem.W.Frag}{H:Hp}{v:V}{d:D}(r:Qs K H v d):∀{vs:List V}{ds:List D}(i:Nat),bA K H vs ds->bA K H (vs.set i v) (ds.set i d)
 |_,_,_,.nil=>.nil
 |_,_,0,.cons _ t=>.cons r t
 |_,_,i+1,.cons h t=>.cons h (bA.set r i t)
theorem bA.append{K:PySem.W.Frag}{H:Hp}:∀{vs us:List V}{ds es:List D},bA K H vs ds->bA K H us es->bA K H (vs++us) (ds++es)
 |_,_,_,_,.nil,s=>s
 |_,_,_,_,.cons h t,s=>.cons h (bA.append t s)
theorem bA.take{K:PySem.W.Frag}{H:Hp}:∀{vs:List V}{ds:List D}(n:Nat),bA K H vs ds->bA K H (vs.take n) (ds.take n)
 |_,_,0,_=>.nil
 |_,_,_+1,.nil=>.nil
 |_,_,n+1,.cons h t=>.cons h (bA.take n t)
theorem bA.drop{K:PySem.W.Frag}{H:Hp}:∀{vs:List V}{ds:List D}(n:Nat),bA K H vs ds->bA K H (vs.drop n) (ds.drop n)
 |_,_,0,r=>r
 |_,_,_+1,.nil=>.nil
 |_,_,n+1,.cons _ t=>bA.drop n t
theorem bA.reverse{K:PySem.W.Frag}{H:Hp}:∀{vs:List V}{ds:List D},bA K H vs ds->bA K H vs.reverse ds.reverse
 |_,_,.nil=>.nil
 | _,_,.cons h t=>by rw[List.reverse_cons,List.reverse_cons];exact(bA.reverse t).append (.cons h .nil)
inductive L where
 |un|d (x:D)|own (a:Addr) (xs:List D)|bx (k:Option Addr) (ls:List L)|dic (a:Addr) (kvs:List (Pu×D))
noncomputable abbrev Ev:=List L
mutual
noncomputable def a8:L->List Addr
 |.un=>[]
 |.d _=>[]
 |.own a _=>[a]
 |.bx k ls=>k.toList++eV ls
 |.dic a _=>[a]
noncomputable def eV:List L->List Addr
 |[]=>[]
 |l::ls=>a8 l++eV ls
end
noncomputable def owns(Z:Ev):List Addr:=Z.flatMap a8
theorem eW:∀ls:List L,eV ls=owns ls
 |[]=>rfl
 |l::ls=>by rw[eV,eW ls];rfl
mutual
def a6(K:PySem.W.Frag)(H:Hp)(s:Option V):L->Prop
 |.un=>True
 |.d x=>∃v,s=some v/\Qs K H v x
 |.own a xs=>s=some (.ref a)/\∃vs,H a=some (.lst vs)/\bA K H vs xs
 |.bx none ls=>∃a vs,s=some (.ref a)/\PV K H a vs/\bY K H vs ls
 |.bx (some a) ls=>s=some (.ref a)/\∃vs,H a=some (.lst vs)/\bY K H vs ls
 |.dic a kvs=>s=some (.ref a)/\∃vs,H a=some (.dK vs)/\Paired (λ(p:Pu×V) (q:Pu×D)=>p.1=q.1/\Qs K H p.2 q.2) vs kvs
def bY(K:PySem.W.Frag)(H:Hp)(vs:List V):List L->Prop
 |[]=>vs=[]
 |l::ls=>∃v us,vs=v::us/\a6 K H (some v) l/\bY K H us ls
end
mutual
theorem a6.pres{K:PySem.W.Frag}{H H':Hp}(p:vh H H'):∀{s:Option V}(l:L),(∀a∈a8 l,H' a=H a)->a6 K H s l->a6 K H' s l
 |_,.un,_,_=>by simp only[a6]
 | _,.d x,_,h=>by
  simp only[a6]at h ⊢
  obtain⟨v,e,r⟩:=h
  exact⟨v,e,r.pres p⟩
 | _,.own a xs,q,h=>by
  simp only[a6]at h ⊢
  obtain⟨e,vs,ha,r⟩:=h
  exact⟨e,vs,(q a (by simp[a8])).trans ha,r.pres p⟩
 | _,.bx none ls,q,h=>by
  simp only[a6]at h ⊢
  obtain⟨a,vs,e,ha,r⟩:=h
  exact⟨a,vs,e,ha.pres p,bY.pres p ls (λb hb=>q b (by simp[a8,hb])) r⟩
 | _,.bx (some a) ls,q,h=>by
  simp only[a6]at h ⊢
  obtain⟨e,vs,ha,r⟩:=h
  exact⟨e,vs,(q a (by simp[a8])).trans ha,bY.pres p ls (λb hb=>q b (by simp[a8,hb])) r⟩
 | _,.dic a kvs,q,h=>by
  simp only[a6]at h ⊢
  obtain⟨e,vs,ha,r⟩:=h
  exact⟨e,vs,(q a (by simp[a8])).trans ha,Paired.mapP r λ_ _ z=>⟨z.1,z.2.pres p⟩⟩
theorem bY.pres{K:PySem.W.Frag}{H H':Hp}(p:vh H H'):∀{vs:List V}(ls:List L),(∀a∈eV ls,H' a=H a)->bY K H vs ls->bY K H' vs ls
 |_,[],_,h=>by simpa only[bY]using h
 | _,l::ls,q,h=>by
  simp only[bY]at h ⊢
  obtain⟨v,us,e,h1,h2⟩:=h
  exact⟨v,us,e,a6.pres p l (λb hb=>q b (by simp[eV,hb])) h1,bY.pres p ls (λb hb=>q b (by simp[eV,hb])) h2⟩
end
def Ig:HO->Prop
 |.lst _=>True
 |.dK _=>True
 |_=>False
theorem Ig.no{o:HO}(h:Ig o)(p:MW o):False:=by cases o<;>first|exact h|exact p
mutual
theorem a6.lstAt{K:PySem.W.Frag}{H:Hp}:∀{s:Option V}(l:L),a6 K H s l->∀a∈a8 l,∃o,H a=some o/\Ig o
 |_,.un,_,a,ha=>by simp[a8]at ha
 |_,.d x,_,a,ha=>by simp[a8]at ha
 | _,.own b xs,h,a,ha=>by
  simp only[a6]at h
  have e:a=b:=by simpa[a8]using ha
  subst e
  obtain⟨_,vs,q,_⟩:=h
  exact⟨_,q,True.intro⟩
 | _,.bx none ls,h,a,ha=>by
  simp only[a6]at h
  obtain⟨b,vs,e,_,r⟩:=h
  exact bY.lstAt ls r a (by simpa[a8]using ha)
 | _,.bx (some b) ls,h,a,ha=>by
  simp only[a6]at h
  obtain⟨e,vs,q,r⟩:=h
  rcases(by simpa[a8]using ha:a=b∨a∈eV ls)with z|z
  .
   subst z;exact⟨_,q,True.intro⟩
  .
   exact bY.lstAt ls r a z
 | _,.dic b xs,h,a,ha=>by
  simp only[a6]at h
  have e:a=b:=by simpa[a8]using ha
  subst e
  obtain⟨_,vs,q,_⟩:=h
  exact⟨_,q,True.intro⟩
theorem bY.lstAt{K:PySem.W.Frag}{H:Hp}:∀{vs:List V}(ls:List L),bY K H vs ls->∀a∈eV ls,∃o,H a=some o/\Ig o
 |_,[],_,a,ha=>by simp[eV]at ha
 | _,l::ls,h,a,ha=>by
  simp only[bY]at h
  obtain⟨v,us,e,h1,h2⟩:=h
  rcases(by simpa[eV]using ha:a∈a8 l∨a∈eV ls)with z|z
  .
   exact a6.lstAt l h1 a z
  .
   exact bY.lstAt ls h2 a z
end
structure aB (K:PySem.W.Frag) (Pr H:Hp) (σ:St) (Z:Ev):Prop where
 sub:∀b o,Pr b=some o->H b=some o
 nd:(owns Z).Nodup
 off:∀a∈owns Z,Pr a=none
 sl:Paired (a6 K H) σ Z
theorem iQ{Z:Ev}{a:Addr}:a∈owns Z↔∃l∈Z,a∈a8 l:=by unfold owns;rw[List.mem_flatMap]
theorem Ih{Z:Ev}{a:Addr}{xs:List D}(h:L.own a xs∈Z):a∈owns Z:=iQ.mpr ⟨_,h,by simp[a8]⟩
theorem aE(a b:Ev):owns (a++b)=owns a++owns b:=List.flatMap_append
theorem Paired.mem2{α β:Type}{F:α->β->Prop}:∀{l1:List α}{l2:List β}{b:β},Paired F l1 l2->b∈l2->∃a,a∈l1/\F a b
 |_,_,_,.nil,h=>by simp at h
 | _,_,_,.cons r t,h=>by
  rcases UK.mp h with rfl|h
  . exact⟨_,Uz,r⟩
  . obtain⟨a,h1,h2⟩:=Paired.mem2 t h;exact⟨a,tu _ h1,h2⟩
theorem Paired.app{α β:Type}{F:α->β->Prop}:∀{a c:List α}{b d:List β},Paired F a b->Paired F c d->Paired F (a++c) (b++d)
 |_,_,_,_,.nil,s=>s
 |_,_,_,_,.cons r t,s=>.cons r (Paired.app t s)
theorem Paired.unapp{α β:Type}{F:α->β->Prop}:∀{a c:List α}{b d:List β},a.length=b.length->Paired F (a++c) (b++d)->Paired F a b/\Paired F c d
 |[],_,[],_,_,s=>⟨.nil,s⟩
 | x::a,_,y::b,_,hl,.cons r t=>by obtain⟨p,q⟩:=Paired.unapp (a:=a) (b:=b) (by simpa using hl) t;exact⟨.cons r p,q⟩
 |[],_,_::_,_,hl,_=>by simp at hl
 |_::_,_,[],_,hl,_=>by simp at hl
theorem Paired.get2{α β:Type}{F:α->β->Prop}:∀{l1:List α}{l2:List β}{i:Nat}{b:β},Paired F l1 l2->l2[i]?=some b->∃a,l1[i]?=some a/\F a b
 |_,_,_,_,.nil,e=>by simp at e
 |_,_,0,_,.cons h _,e=>by simp at e;subst e;exact⟨_,rfl,h⟩
 | _,_,i+1,d,.cons _ t,e=>by obtain⟨v,h1,h2⟩:=Paired.get2 (i:=i) (b:=d) t (by simpa using e);exact⟨v,by simpa using h1,h2⟩
theorem Paired.set2{α β:Type}{F:α->β->Prop}{a:α}{b:β}(r:F a b):∀{l1:List α}{l2:List β}(i:Nat),Paired F l1 l2->Paired F (l1.set i a) (l2.set i b)
 |_,_,_,.nil=>.nil
 |_,_,0,.cons _ t=>.cons r t
 |_,_,i+1,.cons h t=>.cons h (Paired.set2 r i t)
theorem Paired.impMem{α β:Type}{F G:α->β->Prop}:∀{l1:List α}{l2:List β},Paired F l1 l2->(∀b∈l2,∀a,F a b->G a b)->Paired G l1 l2
 |_,_,.nil,_=>.nil
 |_,_,.cons r t,h=>.cons (h _ Uz _ r) (Paired.impMem t λb hb=>h b (tu _ hb))
theorem Paired.set_r{α β:Type}{F:α->β->Prop}{b:β}:∀{l1:List α}{l2:List β}(i:Nat),Paired F l1 l2->(∀a,l1[i]?=some a->F a b)->Paired F l1 (l2.set i b)
 |_,_,_,.nil,_=>.nil
 |_,_,0,.cons _ t,h=>.cons (h _ rfl) t
 |_,_,i+1,.cons q t,h=>.cons q (Paired.set_r i t λa e=>h a (by simpa using e))
section
variable{K:PySem.W.Frag}{Pr H H':Hp}{σ τ w σ':St}{Z μ lam Z':Ev}
theorem aB.len(E:aB K Pr H σ Z):σ.length=Z.length:=Paired.length E.sl
noncomputable def br(H:Hp)(Z:Ev):Hp:=λb=>if b∈owns Z then none else H b
theorem aB.at_own(E:aB K Pr H σ Z){a:Addr}(h:a∈owns Z):∃o,H a=some o/\Ig o:=by obtain⟨l,hx,ha⟩:=iQ.mp h;obtain⟨s,_,q⟩:=Paired.mem2 E.sl hx;exact q.lstAt l a ha
theorem aB.wide(E:aB K Pr H σ Z):aB K (br H Z) H σ Z :=
 ⟨λb o e=>by unfold br at e;split at e;cases e;exact e,E.nd,λa h=>by unfold br;rw[if_pos h],E.sl⟩
theorem aB.drop(E:aB K Pr H (τ++σ) (lam++Z))(hl:τ.length=lam.length):aB K Pr H σ Z :=
 ⟨E.sub,(List.nodup_append.mp (aE lam Z ▸ E.nd)).2.1,λa h=>E.off a (by rw[aE];exact List.mem_append_right _ h),(Paired.unapp hl E.sl).2⟩
theorem aB.left(E:aB K Pr H (τ++σ) (lam++Z))(hl:τ.length=lam.length):aB K Pr H τ lam :=
 ⟨E.sub,(List.nodup_append.mp (aE lam Z ▸ E.nd)).1,λa h=>E.off a (by rw[aE];exact List.mem_append_left _ h),(Paired.unapp hl E.sl).1⟩
theorem t7{H H':Hp}{Z:Ev}{σ:St}{Pr:Hp}(E:aB K Pr H σ Z)(h:∀b o,br H Z b=some o->H' b=some o):vh H H':=λb o p e=>by refine h b o ?_;unfold br;rw[if_neg,e];intro hm;obtain⟨u,e',m⟩:=E.at_own hm;rw[e]at e';cases e';exact m.no p
theorem aB.step(E:aB K Pr H (τ++σ) (lam++Z))(hl:τ.length=lam.length)(E':aB K (br H Z) H' (w++σ') (μ++Z'))(hw:w.length=μ.length):aB K Pr H' (w++(τ++σ')) (μ++(lam++Z')):=by
 have Eσ:=E.drop hl;have p:vh H H':=t7 Eσ E'.sub;have dis:∀a∈owns lam,a∉owns Z:=λa h1 h2=>(List.nodup_append.mp (aE lam Z ▸ E.nd)).2.2 a h1 a h2 rfl;have at':∀a∈owns lam,br H Z a=H a:=λa h=>by unfold br;rw[if_neg (dis a h)]
 have some':∀a∈owns lam,∃o,H a=some o/\Ig o:=λa h=>E.at_own (by rw[aE];exact List.mem_append_left _ h);have out:∀a∈owns lam,a∉owns (μ++Z'):=λa h h2=>by have z:=E'.off a h2;rw[at' a h]at z;obtain⟨vs,e,_⟩:=some' a h;rw[e]at z;cases z
 have s1:=(Paired.unapp hw E'.sl);have s2:=(Paired.unapp hl E.sl).1;refine⟨λb o e=>?_,?_,λa ha=>?_,Paired.app s1.1 (Paired.app ?_ s1.2)⟩
 . refine E'.sub b o ?_;unfold br;rw[if_neg,E.sub b o e];intro hm;have z:=Eσ.off b hm;rw[e]at z;cases z
 .
  have n1:=E'.nd;rw[aE]at n1;rw[aE,aE];obtain⟨q1,q2,q3⟩:=List.nodup_append.mp n1;refine List.nodup_append.mpr ⟨q1,List.nodup_append.mpr ⟨(List.nodup_append.mp (aE lam Z ▸ E.nd)).1,q2,λa ha b hb=>?_⟩,λa ha b hb=>?_⟩
  . rintro rfl;exact out a ha (by rw[aE];exact List.mem_append_right _ hb)
  .
   rcases List.mem_append.mp hb with hb|hb
   . rintro rfl;exact out a hb (by rw[aE];exact List.mem_append_left _ ha)
   . exact q3 a ha b hb
 .
  rw[aE,aE]at ha
  have key:a∈owns (μ++Z')->Pr a=none:=λh=>by
   have z:=E'.off a h;unfold br at z;by_cases hm:a∈owns Z
   . exact Eσ.off a hm
   .
    rw[if_neg hm]at z
    cases q:Pr a with
    |none=>rfl
    |some o=>rw[E.sub a o q]at z;cases z
  rcases List.mem_append.mp ha with h|h
  . exact key (by rw[aE];exact List.mem_append_left _ h)
  .
   rcases List.mem_append.mp h with h|h
   . exact E.off a (by rw[aE];exact List.mem_append_left _ h)
   . exact key (by rw[aE];exact List.mem_append_right _ h)
 .
  have:∀l∈lam,∀s,a6 K H s l->a6 K H' s l:=λl hlm s h=>h.pres p l λa e=>by have ha:a∈owns lam:=iQ.mpr ⟨l,hlm,e⟩;obtain⟨vs,e,_⟩:=some' a ha;rw[E'.sub a _ ((at' a ha).trans e),e]
  exact Paired.impMem s2 this
end
end L2
namespace L2
open PySem PySem.Spec PyProof.Rows PySem.W
structure rV (K:Frag) (c:Str) (C L:Addr) (cd:ClassData):Prop where
 cls:clsIn K C=some cd
 load:nsIn K mainGlobals "LoadError"=some (some (.ref L))
 name:cd.name=c
 dct:cd.hasDict=true
 mro:cd.mro=By C L
 lname:∃ k,clsIn K L=some k/\k.name=("LoadError" : Str)
 ga:findIn K (.ref C) "__getattribute__"=some (some (.builtin "BaseException.__getattribute__"))
 gx:findIn K (.ref C) "__getattr__"=some none
 gc:findIn K (.ref C) "__class__"=some (some (.builtin "object.__class__"))
 sa:findIn K (.ref C) "__setattr__"=some (some (.builtin "object.__setattr__"))
 ty:typeIn K (.ref C)=some (.type "type")
 own:nsIn K mainGlobals c=some (some (.ref C))
theorem jM{K:Frag}{c:Str}{C:Addr}(h:jL K c C=true):∃L cd,rV K c C L cd:=by
 unfold jL at h;split at h
 . rename_i cd L e1 e2;simp only[Bool.and_eq_true,beq_iff_eq]at h;obtain⟨⟨⟨⟨⟨⟨⟨⟨⟨h1,h2⟩,h3⟩,h4⟩,h5⟩,h6⟩,h7⟩,h8⟩,h9⟩,h10⟩:=h;obtain⟨k,hk,hn⟩:=any_some h4;exact⟨L,cd,e1,e2,h1,h2,h3,⟨k,hk,beq_iff_eq.mp hn⟩,h5,h6,h7,h8,h9,h10⟩
 . cases h
section
variable{K:Frag}{c:Str}{C L:Addr}{cd:ClassData}
theorem xF(C L:Addr):By C L=[.ref C,.ref L,.type "ValueError",.type "Exception",.type "BaseException",.type "object"]∨By C L=[.ref L,.type "ValueError",.type "Exception",.type "BaseException",.type "object"]/\C=L:=by
 by_cases h:C=L
 . exact .inr ⟨by unfold By;rw[if_pos h];rfl,h⟩
 . exact .inl (by unfold By;rw[if_neg h];rfl)
theorem EF(C L:Addr)(b:Value):(By C L).contains b=([.ref C,.ref L,.type "ValueError",.type "Exception",.type "BaseException",.type "object"]:List Value).contains b:=by
 rcases xF C L with e|⟨e,h⟩
 . rw[e]
 . subst h;rw[e];simp only[List.contains_cons,<- Bool.or_assoc,Bool.or_self]
theorem rV.mroIn(S:rV K c C L cd)(b:Value):PySem.W.mroIn K C b=some (([.ref C,.ref L,.type "ValueError",.type "Exception",.type "BaseException",.type "object"]:List Value).contains b):=by
 unfold PySem.W.mroIn;rw[S.cls,Option.bind_some,S.mro];have ne:(By C L).isEmpty=false:=by rcases xF C L with e|⟨e,_⟩<;>rw[e]<;>rfl
 show(if(By C L).isEmpty=true then none else some ((By C L).contains b))=_
 rw[ne,EF];rfl
theorem pY(C L:Addr)(T:String):(([.ref C,.ref L,.type "ValueError",.type "Exception",.type "BaseException",.type "object"]:List Value).contains (.type T))=(["ValueError","Exception","BaseException","object"]:List String).contains T:=by
 simp only[List.contains_cons,List.contains_nil,Bool.or_false];have e:∀a:Addr,(Value.type T == Value.ref a)=false:=λ_=>rfl
 have f:∀U:String,(Value.type T == Value.type U)=(T == U):=λU=>by
  by_cases q:T=U
  . subst q;simp
  . rw[beq_eq_false_iff_ne.mpr q,beq_eq_false_iff_ne];intro z;injection z with z;exact q z
 rw[e,e,f,f,f,f];rfl
theorem EG(C L D:Addr):(([.ref C,.ref L,.type "ValueError",.type "Exception",.type "BaseException",.type "object"]:List Value).contains (.ref D))=(D == C ||D == L):=by
 simp only[List.contains_cons,List.contains_nil,Bool.or_false];have e:∀T:String,(Value.ref D == Value.type T)=false:=λ_=>rfl
 have f:∀a:Addr,(Value.ref D == Value.ref a)=(D == a):=λU=>by
  by_cases q:D=U
  . subst q;simp
  . rw[beq_eq_false_iff_ne.mpr q,beq_eq_false_iff_ne];intro z;injection z with z;exact q z
 rw[e,e,e,e,f,f,Bool.or_false,Bool.or_false,Bool.or_false,Bool.or_false]
theorem rV.has(S:rV K c C L cd){T:String} (h:(["ValueError","Exception","BaseException","object"]:List String).contains T=true):PySem.W.mroIn K C (.type T)=some true:=by rw[S.mroIn,pY,h]
theorem rV.isT(S:rV K c C L cd){M:Model}{h:Heap}(X:K.In h)(T:String):Looks M h (isSubtype (.ref C) (.type T)) ((["ValueError","Exception","BaseException","object"]:List String).contains T):=looks_mroIn X (by rw[S.mroIn,pY])
end
section
variable{prog:Program}{w:World}{A:Around}{E:Value->Shared->Prop}{s:Shared}{K:Frag}{c:Str}{x C L:Addr}{cd:ClassData}{ox:Obj}{od:Option Obj}{name:Str}
theorem vG{tk:Tok}{Q:Fin->Shared->Prop}(S:rV K c C L cd)(X:K.In s.heap)(I:InstAt s.heap x ox C od) (hf:findObj K C od "__class__"=some (.bind (.builtin "getset_descriptor.__get__") (.builtin "object.__class__"))) (hq:Q (.done (.ret (.ref C))) s) :
  wpAny (model prog w) A (Builtin.«object.__getattribute__» ⟨[.ref x,.str "__class__" tk],[]⟩) Q E s:=by
 obtain⟨hh,g,d,t,os⟩:=s;have L0:=I.type (M:=model prog w);have L1:=looks_find (M:=model prog w) X I hf;unfold Builtin.«object.__getattribute__»;refine Uw (UH (Uw (UH ?_)));refine Uw (L0.at (Uw (L1.at ?_)));show wpAny _ _ (holding [Value.builtin "object.__class__"] (call (.builtin "getset_descriptor.__get__") [.builtin "object.__class__",.ref x,.ref C]) >>= ret) _ _ _;refine Uw (wpAny_holding (wpAny_call ?_));exact class_get (s:=⟨hh,g,d,t,os⟩) (ox:=ox) (od:=od) X I (S.has x_) (UH hq)
theorem Ii{tk:Tok}{v:Value}{fill expr:Bool}{Q:Value->Shared->Prop}(S:rV K c C L cd)(X:K.In s.heap)(I:InstAt s.heap x ox C od)
  (he:∀(A':Around)(Q':Fin->Shared->Prop),Q' (.done (.ret v)) s->wpAny (model prog w) A' (Builtin.«object.__getattribute__» ⟨[.ref x,.str name tk],[]⟩) Q' (λ_ _=>False) s) (hh:handedIn v=true) (hq:Q v s) :
  wpAny (model prog w) A (getAttrBy (.ref x) (.str name tk) fill expr) Q E s:=by
 have FB:=F.excAttr_ValueError;have L0:=I.type (M:=model prog w);have L1:=looks_findIn (M:=model prog w) X S.ga;have L2:=looks_findIn (M:=model prog w) X S.gx;unfold getAttrBy;refine wpAny_holding (Uw (L0.here (Uw (L1.here ?_))));have hx2:(Value.builtin "BaseException.__getattribute__" == Value.builtin "object.__getattribute__")=false:=by decide +kernel
 dsimp only;rw[hx2,Bool.and_false,if_neg (by decide)];unfold getAttrByItsOwn;refine Uw ((looks_hook (mc:=.ref C) X (r:=none) S.gx).here ?_);refine Uw (wpAny_attempt (wpAny_holding ?_));have hx0:(expr && onTheHeap (Value.builtin "BaseException.__getattribute__"))=false:=by cases expr <;> rfl
 unfold callGetattribute boundAndCalled;rw[hx0,if_neg (by decide),FB.ga.bind];refine Uw (UH (wpAny_call ?_));have hi:Looks (model prog w) s.heap (isInstance (.ref x) (.type "BaseException")) true:=L0.andThen (S.isT X _);have hkd:builtinKind "BaseException.__getattribute__"=some .slot:=by decide +kernel
 have hsp:splitId "BaseException.__getattribute__"=some ("BaseException","__getattribute__"):=by decide +kernel
 refine codeAny_call_builtin FB.ga.plain F.entry_bexc_ga (@check_slot (model prog w) _ _ s "BaseException.__getattribute__" "BaseException" "__getattribute__" (.ref x) [.str name tk] [] _ hkd hsp hi (F.args_bexc_ga (.ref x) (.str name tk)) ?_);refine wpAny_mono (he _ _ ?_) (λ_ _ z=>z) λ_ _ z=>z.elim;show wpAny _ _ (handedOut v) _ _ _;rw[handedOut_of hh];exact UH hq
end
theorem Ij(K:Frag):specialIn K (.builtin "object.__class__") "__get__"=some (some (.builtin "getset_descriptor.__get__")):=(by decide +kernel:specialIn [] (.builtin "object.__class__") "__get__"=some (some (.builtin "getset_descriptor.__get__")))
theorem B6(K:Frag):takesIn K (.builtin "object.__class__")=some true:=(by decide +kernel:takesIn [] (.builtin "object.__class__")=some true)
section
variable{prog:Program}{w:World}{A:Around}{E:Value->Shared->Prop}{s:Shared}{K:Frag}{c:Str}{x C L:Addr}{cd:ClassData}{ox:Obj}{od:Option Obj}
theorem rV.fclass(S:rV K c C L cd)(od:Option Obj):findObj K C od "__class__"=some (.bind (.builtin "getset_descriptor.__get__") (.builtin "object.__class__")):=by unfold findObj;rw[S.cls,Option.bind_some,S.gc,Option.bind_some];simp[Ij,B6]
theorem xG{Q:Option Value->Shared->Prop}(S:rV K c C L cd)(X:K.In s.heap)(I:InstAt s.heap x ox C od)(hq:Q (some (.ref C)) {s with toks:=s.toks+1}) :
  wpAny (model prog w) A (getAttr? (.ref x) "__class__") Q E s:=by
 obtain⟨hh,g,d,t,os⟩:=s;unfold getAttr? getAttrBy?;refine Uw (wpAny_mkText (Uw (wpAny_attempt ?_)));exact Ii (s:=⟨hh,g,d,t+1,os⟩) (ox:=ox) (od:=od) S X I (λA' Q' q=>vG (s:=⟨hh,g,d,t+1,os⟩) S X I (S.fclass od) q) rfl (UH hq)
theorem EH(S:rV K c C L cd):KitX K (.ref x) (.ref C) (λh=>∃ox od,InstAt h x ox C od) where
 ty:=λ_ _ _ ⟨_,_,I⟩=>I.type
 it:=λ_ _ X _=>by
  have hc:=S.cls;unfold clsIn at hc;split at hc
  . rename_i ho;intro A' Q' E' s' k q;unfold isType loadHead;exact Uw (wpAny_loadPart (k _ _ (X _ _ ho)) (UH q))
  . cases hc
 ne:=λh tp dd its n sl X htp=>by
  refine Bool.eq_false_iff.mpr λq=>?_;have e:C=tp:=Value.ref.inj (beq_iff_eq.mp q);subst e;have hc:=S.cls;unfold clsIn at hc;split at hc
  . rename_i ho;have z:=(X _ _ ho).symm.trans htp;cases z
  . cases hc
 ca:=λX ⟨_,_,I⟩ k=>xG S X I k
end
theorem pZ{K:Frag}{C:Addr}{cd:ClassData}(h:clsIn K C=some cd):∃oc odc sl,K.lookup C=some ⟨oc,odc,.cls cd,sl⟩:=by
 unfold clsIn at h;split at h
 . rename_i ho;cases h;exact⟨_,_,_,ho⟩
 . cases h
section
variable{prog:Program}{w:World}{A:Around}{E:Value->Shared->Prop}{s:Shared}{K:Frag}{c:Str}{x C L:Addr}{cd:ClassData}{ox:Obj}{od:Option Obj}{name:Str}
theorem Nk{vs:Array Value}{text:Value}{Q:Value->Shared->Prop}(S:rV K c C L cd)(X:K.In s.heap)(I:InstAt s.heap x ox C od)(hd:ox.data=.fields vs)(hz:0<vs.size)
  (hq:∀ t,Q .none {s with heap:=(s.heap.push {cls:=.type "tuple",data:=.seq #[text] }).update x (Obj.mapFields (·.setIfInBounds 0 (.ref s.heap.objs.size))),toks:=t}) :
  wpAny (model prog w) A (call (.builtin "ValueError.__init__") [.ref x,text]) Q E s:=by
 have FB:=F.excBase_ValueError;have hi:Looks (model prog w) s.heap (isInstance (.ref x) (.type "ValueError")) true:=I.type.andThen (S.isT X _);have hx:=I.at_;obtain⟨hh,g,d,t,os⟩:=s;have hx1:=Uy (h:=hh) {cls:=.type "tuple",data:=.seq #[text] } hx;have h0:vs[0]?=some vs[0]:=Array.getElem?_eq_getElem hz;have hst:=FB.noStar;refine wpAny_call (codeAny_call_builtin FB.init.plain FB.initEntry ?_);simp only[checkBuiltinCall,FB.initKind,FB.initSplit,FB.initRow];refine Uw (hi.here ?_);simp only[Bool.not_true,Bool.false_eq_true,if_false];have hcl:=I.cls;obtain⟨oc,odc,sl,hK⟩:=pZ S.cls;have hC:hh.get? C=some ⟨oc,odc,.cls cd,sl⟩:=X _ _ hK
 repeat (first|(with_reducible refine wpAny_loadPart_at hx ?_;rw[hcl])|with_reducible refine wpAny_loadPart_at hC ?_|with_reducible refine(S.isT X _).here ?_|wp_step)
 rw[hd];refine UH ?_;rw[h0];refine UH (Uw (wpAny_setField hx1 hd hz ?_))
 have done:∀t',wpAny (model prog w) A.in1 (ret Value.none) (λPR s'=>match PR with
   | Fin.done f=>(match (Except.ok f:Result)with
    |.ok (.ret v)=>Q v s'
    |.ok _=>False
    |.error e=>E e s')
   | Fin.again c'=>c'.quiet=true/\codeAny (model prog w) A c' (λr s'=>match r with
    |.ok (.ret v)=>Q v s'
    |.ok _=>False
    |.error e=>E e s') s') (λe s'=>E e s') ⟨(hh.push {cls:=.type "tuple",data:=.seq #[text] }).update x (Obj.mapFields (·.setIfInBounds 0 (.ref hh.objs.size))),g,d,t',os⟩:=λt'=>UH (hq t')
 split
 . exact wpAny_letGo (done _)
 . exact UH (done _)
theorem vH{v:Value}{Q:Unit->Shared->Prop}(S:rV K c C L cd)(X:K.In s.heap)(I:InstAt s.heap x ox C od)(hna:findIn K (.ref C) name=some none)
  (h:∀(A':Around)(R:Fin->Shared->Prop),(∀s',Q () s'->R (.done (.ret .none)) s')->wpAny (model prog w) A' (Builtin.ObjectAttr.storeInOwnDict (.ref x) (.ref C) (.str name s.toks) name v false) R (λ_ _=>False) {s with toks:=s.toks+1}) :
  wpAny (model prog w) A (setAttr (.ref x) name v) Q E s:=by
 have SF:=PySem.F.store_ValueError;obtain⟨hh,g,d,t,os⟩:=s;have L0:=I.type (M:=model prog w);have L1:=looks_findIn (M:=model prog w) X S.sa;have L2:=looks_findIn (M:=model prog w) X hna;have Lm:Looks (model prog w) hh (mroOf (.ref C)) cd.mro:=(looks_clsIn X S.cls).andThen .now;have hi:Looks (model prog w) hh (isInstance (.ref x) (.type "object")) true:=L0.andThen (S.isT X _);unfold setAttr callSpecial? specialOf;refine Uw (wpAny_mkText (Uw (Uw (Uw (L0.at (L1.at ?_))))));dsimp only;refine wpAny_holding (Uw ?_);rw[SF.slot.bind];refine UH (Uw (wpAny_call ?_));refine codeAny_call_builtin SF.slot.plain SF.entry (@check_slot (model prog w) _ _ ⟨hh,g,d,t+1,os⟩ "object.__setattr__" "object" "__setattr__" (.ref x) [.str name t,v] [] _ SF.kind SF.split hi (SF.args (.ref x) (.str name t) v) ?_);show wpAny _ _ (Builtin.«object.__setattr__» ⟨[.ref x,.str name t,v],[]⟩) _ _ _;rw[osa_eq,refuse_eq];refine Uw (Uw (L0.at (Uw (Lm.at ?_))));rw[S.mro];have em:By C L=[.ref C,.ref L,.type "ValueError",.type "Exception",.type "BaseException",.type "object"]∨By C L=[.ref L,.type "ValueError",.type "Exception",.type "BaseException",.type "object"]:=(xF C L).imp id And.left;rcases em with e|e
 all_goals
  rw[e]
  first|rw[refuseLoop_ref,refuseLoop_ref,SF.passes] | rw[refuseLoop_ref,SF.passes]
  refine UH (Uw (L0.at (Uw (L2.at (Uw (UH ?_))))));dsimp only;refine wpAny_mono (h _ _ λs' q=>?_) (λ_ _ z=>z) λ_ _ z=>z.elim;exact UH (UH q)
theorem EJ{v:Value}{Q:Unit->Shared->Prop}(S:rV K c C L cd)(X:K.In s.heap)(I:InstAt s.heap x ox C od)(hdn:ox.dict=none)(hna:findIn K (.ref C) name=some none)
  (hq:∀h' tk,h'.get? x=some {ox with dict:=some s.heap.objs.size}->h'.Ns1 s.heap.objs.size (λy=>if y=name then some v else none)->(∀b o,b≠x->s.heap.get? b=some o->h'.get? b=some o)->Q () {s with heap:=h',toks:=tk}) :
  wpAny (model prog w) A (setAttr (.ref x) name v) Q E s:=by
 refine vH S X I hna λA' R k=>?_;obtain⟨hh,g,d,t,os⟩:=s;have hx:=I.at_;have hcl:=I.cls;have hno:=I.no;have Lc:=looks_clsIn (M:=model prog w) X S.cls;have hxs:x≠hh.objs.size:=Nat.ne_of_lt (UF hx);unfold Builtin.ObjectAttr.storeInOwnDict;refine Uw (UH ?_);rw[if_neg (by show ¬ ((Value.ref C == Value.type "module")=true); exact λz=>by cases z)];refine Uw ?_;show wpAny _ _ (instanceDict x true) _ _ _;unfold instanceDict;refine Uw (wpAny_loadPart_at hx ?_);rw[hcl];dsimp only;refine Uw (Lc.at ?_);rw[S.dct];simp only[Bool.not_true,Bool.false_eq_true,if_false];rw[hdn];dsimp only;rw[if_neg (by simp[typeHasDict])]
 have go:∀(Q':Option Addr->Shared->Prop),(∀ h1,h1.get? x=some {ox with dict:=some hh.objs.size}->h1.get? hh.objs.size=some {cls:=.type "dict",data:=.dict #[] }->(∀ b o,b≠x->hh.get? b=some o->h1.get? b=some o)->Q' (some hh.objs.size) ⟨h1,g,d,t+1,os⟩) ->
   wpAny (model prog w) A' (do
    let d <- alloc {cls:=.type "dict",data:=.dict #[] }
    update x λo=>{o with dict:=some d}
    dictMade (.ref C) x d) Q' (λ_ _=>False) ⟨hh,g,d,t+1,os⟩:=λQ' q=>by
  have hx1:(hh.push {cls:=.type "dict",data:=.dict #[] }).get? x=some ox:=Uy _ hx;refine Uw (wpAny_alloc' ?_);refine Uw (wpAny_update' hx1 ?_);refine UH (q _ ?_ ?_ λb o hb e=>?_)
  .
   refine Heap.get?_update_self _ hx1 ?_;have fr:=(Heap.get?_some_iff.mp hx).2;obtain⟨c0,d0,dt,s0⟩:=ox
   cases dt<;>first|rfl|exact fr
  . exact(Heap.get?_update_ne _ _ _ _ hxs.symm).trans (Heap.get?_push_at rfl rfl)
  . exact(Heap.get?_update_ne _ _ _ _ hb).trans (Uy _ e)
 have PR:∀ h1,h1.get? x=some {ox with dict:=some hh.objs.size}->h1.get? hh.objs.size=some {cls:=.type "dict",data:=.dict #[] }->(∀ b o,b≠x->hh.get? b=some o->h1.get? b=some o) ->
   wpAny (model prog w) A' (Builtin.ObjectAttr.storeInDict hh.objs.size (.str name t) name v) R (λ_ _=>False) ⟨h1,g,d,t+1,os⟩:=λh1 e1 e2 e3=>by
  have n0:h1.Ns hh.objs.size (λ_=>none):=⟨_,#[],_,e2,rfl,λe he=>absurd he v6,λ_=>rfl⟩;unfold Builtin.ObjectAttr.storeInDict Builtin.ObjectAttr.newKeyGuard;refine Uw (UH (Uw (wpAny_nsSet1 (Heap.Ns1.of_empty n0) λh2 n2 hs=>?_)));obtain⟨oD,esD,epD,hoD,hdD,hcD⟩:=n2.count (Within.cons name v Within.nil);refine Uw (wpAny_lookBehind hoD (by rw[hdD];exact pastItsLine_dict (Nat.le_trans hcD (by rw[List.length_cons,List.length_nil,sizeLine_eq];omega))) ?_);refine UH (k _ (hq h2 _ ((hs.2 x hxs).trans e1) n2 λb o hb e=>(hs.2 b (Nat.ne_of_lt (UF e))).trans (e3 b o hb e)))
 split
 . rename_i q;rw[notCls,q]at hno;cases hno
 . exact go _ PR
theorem EK{v:Value}{Q:Unit->Shared->Prop}{dx:Addr}{mA:Str->Option Value}{ns:List Str}(S:rV K c C L cd)(X:K.In s.heap)(I:InstAt s.heap x ox C od)(hdx:ox.dict=some dx)(hN:s.heap.Ns1 dx mA)(hw:PySem.Within mA ns)(hz:ns.length<=1000)(hna:findIn K (.ref C) name=some none)
  (hq:∀h' tk,h'.Ns1 dx (λy=>if y=name then some v else mA y)->Heap.SameBut dx s.heap h'->Q () {s with heap:=h',toks:=tk}) :
  wpAny (model prog w) A (setAttr (.ref x) name v) Q E s:=by
 refine vH S X I hna λA' R k=>?_;obtain⟨hh,g,d,t,os⟩:=s;have hx:=I.at_;have hcl:=I.cls;have Lc:=looks_clsIn (M:=model prog w) X S.cls;unfold Builtin.ObjectAttr.storeInOwnDict;refine Uw (UH ?_);rw[if_neg (by show ¬ ((Value.ref C == Value.type "module")=true); exact λz=>by cases z)];refine Uw ?_;show wpAny _ _ (instanceDict x true) _ _ _;unfold instanceDict;refine Uw (wpAny_loadPart_at hx ?_);rw[hcl];dsimp only;refine Uw (Lc.at ?_);rw[S.dct];simp only[Bool.not_true,Bool.false_eq_true,if_false];rw[hdx];refine UH ?_;show wpAny _ _ (Builtin.ObjectAttr.storeInDict dx (.str name t) name v) _ _ _;unfold Builtin.ObjectAttr.storeInDict Builtin.ObjectAttr.newKeyGuard;refine Uw (UH (Uw (wpAny_nsSet1 hN λh2 n2 hs=>?_)));obtain⟨oD,esD,epD,hoD,hdD,hcD⟩:=n2.count (Within.cons name v hw);refine Uw (wpAny_lookBehind hoD (by rw[hdD];exact pastItsLine_dict (Nat.le_trans hcD (by rw[List.length_cons,sizeLine_eq];omega))) ?_);exact UH (k _ (hq h2 _ n2 hs))
end
end L2
namespace L2
open PySem PySem.Spec PyProof.Rows
section
variable{X:Cx}{gV:List (Addr×Obj)}{σ:St}{H:Hp}{s:Shared}
theorem PJ.reword{a:Addr}{u w:HO}(I:PJ X gV σ H s)(h:H a=some u)(hu:¬MW u)(hw:∀y,u≠.own y)(nw:d3 X.prog X.w H s.heap a w)(hw2:∀C dx fs,w≠.ins C dx fs):PJ X gV σ (Pv H a w) s:=by
 have ne:∀b,H b=none->b≠a:=λb n e=>by subst e;rw[h]at n;cases n
 have nt:∀b xs,H b=some (.tup xs)->b≠a:=λb xs n e=>by subst e;rw[h]at n;cases n;exact hu True.intro
 have nf:∀b o z,H b=some (.frz o z)->b≠a:=λb o z n e=>by subst e;rw[h]at n;cases n;exact hu True.intro
 have no:∀b z,H b=some (.own z)->b≠a:=λb z n e=>by subst e;rw[h]at n;cases n;exact hw _ rfl
 refine⟨I.ok,I.os,I.bare,⟨I.base.keep,I.base.slot,λb ob e n hx=>?_,I.base.there,λb xs e=>?_,λb ob z e=>?_,λb ps e=>?_⟩,I.loc,I.cell,?_,λx c e=>?_,λp hp=>?_,λb z e=>?_,I.len⟩
 . have q:=I.base.free b ob e n hx;rw[ay (ne b q)];exact q
 . have q:=I.base.tups b xs e;rw[ay (nt b xs q)];exact q
 . have q:=I.base.frzs b ob z e;rw[ay (nf b ob z q)];exact q
 . have q:=I.base.tbls b ps e;rw[ay (λz=>by subst z;rw[h]at q;cases q;exact hu True.intro)];exact q
 . rw[ay (ne _ I.free)];exact I.free
 .
  rcases I.freeC x c e with z|⟨hf,o,z⟩
  . exact .inl (by rw[ay (ne _ z)];exact z)
  . exact .inr ⟨hf,o,by rw[ay (nf _ _ _ z)];exact z⟩
 . obtain⟨e,n,r⟩:=I.pin p hp;exact⟨e,by rw[ay (ne _ n)];exact n,r⟩
 .
  by_cases hb:b=a
  . subst hb;rw[aX]at e;cases e;exact nw.stay (λc v _ q=>q) (λc q=>by rw[ay (no c _ q)];exact q) (λc xs q=>by rw[ay (nt c xs q)];exact q) λc ob _ _ q=>by rw[ay (nf c ob _ q)];exact q
  . rw[ay hb]at e;exact(I.hok b z e).stay (λc v _ q=>q) (λc q=>by rw[ay (no c _ q)];exact q) (λc xs q=>by rw[ay (nt c xs q)];exact q) λc ob _ _ q=>by rw[ay (nf c ob _ q)];exact q
theorem PJ.freezeL{a:Addr}{xs:List V}(I:PJ X gV σ H s)(h:H a=some (.lst xs)):∃o,PJ X gV σ (Pv H a (.frz o (.lst xs))) s:=by obtain⟨z,its,n,r,e⟩:=id (I.hok a _ h);exact⟨_,I.reword h (λq=>q) (λ_ q=>nomatch q) ⟨e,z,its,n,r,e⟩ (λ_ _ _ q=>nomatch q)⟩
end
section
variable{K:PySem.W.Frag}{Pr H:Hp}{σ:St}{Z:Ev}
theorem aB.new(E:aB K Pr H σ Z){p:Addr}{o:HO}(h:H p=none):aB K Pr (Pv H p o) σ Z:=by
 have k:∀b u,H b=some u->Pv H p o b=some u:=λb u e=>by rw[ay (bb e h)];exact e
 exact⟨λb u e=>k b u (E.sub b u e),E.nd,E.off,Paired.impMem E.sl λl hl s q=>q.pres (λb u _ e=>k b u e) l λa e=>by
  obtain⟨vs,e,_⟩:=E.at_own (iQ.mpr ⟨l,hl,e⟩)
  rw[k _ _ e,e]⟩
theorem bA.new{vs:List V}{ds:List D}(r:bA K H vs ds){p:Addr}{o:HO}(h:H p=none):bA K (Pv H p o) vs ds:=r.pres λb u _ e=>by rw[ay (bb e h)];exact e
theorem Qs.new{v:V}{d:D}(r:Qs K H v d){p:Addr}{o:HO}(h:H p=none):Qs K (Pv H p o) v d:=r.pres λb u _ e=>by rw[ay (bb e h)];exact e
theorem oR:owns (.un::Z)=owns Z:=rfl
theorem a7{a:Addr}{xs:List D}:owns (.own a xs::Z)=a::owns Z:=rfl
theorem aB.cons_d(E:aB K Pr H σ Z){v:V}{x:D}(r:Qs K H v x):aB K Pr H (some v::σ) (.d x::Z):=⟨E.sub,E.nd,E.off,.cons ⟨v,rfl,r⟩ E.sl⟩
theorem aB.cons_un(E:aB K Pr H σ Z){v:Option V}:aB K Pr H (v::σ) (.un::Z):=⟨E.sub,E.nd,E.off,.cons True.intro E.sl⟩
theorem aB.cons_own(E:aB K Pr H σ Z){p:Addr}{vs:List V}{xs:List D}(h:H p=none)(r:bA K H vs xs):aB K Pr (Pv H p (.lst vs)) (some (.ref p)::σ) (.own p xs::Z):=by
 have E':=E.new (o:=.lst vs) h;refine⟨E'.sub,?_,λa ha=>?_,.cons ⟨rfl,vs,aX,r.new h⟩ E'.sl⟩
 . rw[a7];refine List.nodup_cons.mpr ⟨λhm=>?_,E.nd⟩;obtain⟨us,e,_⟩:=E.at_own hm;rw[h]at e;cases e
 .
  rw[a7]at ha;rcases UK.mp ha with rfl|ha
  .
   cases q:Pr a with
   |none=>rfl
   |some u=>rw[E.sub a u q]at h;cases h
  . exact E.off a ha
theorem aB.cons_tup(E:aB K Pr H σ Z){p:Addr}{vs:List V}{xs:List D}(h:H p=none)(r:bA K H vs xs):aB K Pr (Pv H p (.tup vs)) (some (.ref p)::σ) (.d (.tup xs)::Z) :=
 (E.new h).cons_d (.tup (PV.of aX) (r.new h))
theorem aB.freeze(E:aB K Pr H σ (.own a xs::Z)){vs:List V}(h:H a=some (.lst vs))(o:Obj):aB K Pr (Pv H a (.frz o (.lst vs))) σ (.d (.lst xs)::Z):=by
 have pa:Pr a=none:=E.off a (by rw[a7];exact Uz);have nd:=E.nd;rw[a7]at nd;obtain⟨hn,nd⟩:=List.nodup_cons.mp nd;have p:vh H (Pv H a (.frz o (.lst vs))):=λb u pu e=>by rw[ay];exact e;rintro rfl;rw[h]at e;cases e;exact pu
 refine⟨λb u e=>?_,nd,λb hb=>E.off b (by rw[a7];exact tu _ hb),?_⟩
 . rw[ay];exact E.sub b u e;rintro rfl;rw[pa]at e;cases e
 .
  have sl:=E.sl
  cases sl with
  | cons q t =>
   obtain⟨e,us,e2,r⟩:=q;rw[h]at e2;cases e2;refine .cons ⟨.ref a,e,.lst (.inl ⟨o,aX⟩) (r.pres p)⟩ (Paired.impMem t λl hl s z=>z.pres p l λb hbm=>?_);rw[ay];rintro rfl;exact hn (iQ.mpr ⟨l,hl,hbm⟩)
theorem aJ(l:L)(Z:Ev):owns (l::Z)=a8 l++owns Z:=rfl
theorem iq{k:L}:∀{Z:Ev}{i:Nat}{l:L},Z[i]?=some k->a8 l=[]->(owns Z).Perm (a8 k++owns (Z.set i l))
 |[],_,_,h,_=>by simp at h
 | _::Z,0,l,h,hl=>by simp at h;subst h;show(owns (_::Z)).Perm (_++owns (l::Z));rw[aJ,aJ,hl];exact List.Perm.refl _
 | m::Z,i+1,l,h,hl=>by have ih:=iq (i:=i) (Z:=Z) (l:=l) (by simpa using h) hl;show(owns (m::Z)).Perm (a8 k++owns (m::Z.set i l));rw[aJ,aJ];refine(List.Perm.append_left _ ih).trans ?_;rw[<- List.append_assoc,<- List.append_assoc];exact List.Perm.append_right _ List.perm_append_comm
theorem B7{a:Addr}{xs:List D}{Z:Ev}{i:Nat}{l:L}(h:Z[i]?=some (.own a xs))(hl:a8 l=[]):(owns Z).Perm (a::owns (Z.set i l)):=iq h hl
theorem zl{Z:Ev}{i:Nat}(l:L)(h:Z[i]?=some .un):(owns (Z.set i l)).Perm (a8 l++owns Z):=by
 have hi:i<Z.length:=(UA.mp h).1;have pm:=iq (Z:=Z.set i l) (i:=i) (k:=l) (l:=.un) (by simp[hi]) rfl;rw[List.set_set]at pm;have e2:Z.set i .un=Z:=by have:=List.set_getElem_self (as:=Z) (i:=i) hi;have e3:Z[i]=.un:=(UA.mp h).2;rw[e3]at this;exact this
 rw[e2]at pm;exact pm
theorem aB.outL(E:aB K Pr H σ Z){i:Nat}{k:L}{s:Option V}(h:Z[i]?=some k)(hs:σ[i]?=some s):aB K Pr H (s::σ) (k::Z.set i .un):=by have pm:=iq (l:=.un) h rfl;obtain⟨s',hs',q⟩:=Paired.get2 E.sl h;rw[hs]at hs';cases hs';refine⟨E.sub,?_,λb hb=>E.off b (pm.mem_iff.mpr (by rw[aJ]at hb;exact hb)),.cons q (Paired.set_r i E.sl λ_ _=>by simp only[a6])⟩;rw[aJ];exact pm.nodup_iff.mp E.nd
theorem aB.out(E:aB K Pr H σ Z){i:Nat}{a:Addr}{xs:List D}(h:Z[i]?=some (.own a xs)):aB K Pr H (some (.ref a)::σ) (.own a xs::Z.set i .un):=by
 have pm:=B7 (l:=.un) h rfl;obtain⟨s,hs,q⟩:=Paired.get2 E.sl h;refine⟨E.sub,?_,λb hb=>E.off b (pm.mem_iff.mpr (by rw[a7]at hb;exact hb)),.cons ?_ (Paired.set_r i E.sl λ_ _=>by simp only[a6])⟩
 . rw[a7];exact pm.nodup_iff.mp E.nd
 . obtain⟨_,r⟩:=q;exact⟨rfl,r⟩
theorem aB.back{v:Option V}{l:L}(E:aB K Pr H (v::σ) (l::Z)){i:Nat}(h:Z[i]?=some .un)(hs:σ[i]?=some v):aB K Pr H σ (Z.set i l):=by
 have sl:=E.sl
 cases sl with
 | cons q t =>
  have e1:Z.set i l=(Z.set i l):=rfl;refine⟨E.sub,?_,λb hb=>?_,Paired.set_r i t λa e=>by rw[hs]at e;cases e;exact q⟩
  . exact(zl l h).nodup_iff.mpr E.nd
  . exact E.off b ((zl l h).mem_iff.mp hb)
theorem aB.write(E:aB K Pr H σ (.own a xs::Z)){vs:List V}{ys:List D}(r:bA K H vs ys):aB K Pr (Pv H a (.lst vs)) σ (.own a ys::Z):=by
 have pa:Pr a=none:=E.off a (by rw[a7];exact Uz);have nd:=E.nd;rw[a7]at nd;obtain⟨hn,nd'⟩:=List.nodup_cons.mp nd;obtain⟨us,ha,mu⟩:=E.at_own (a:=a) (by rw[a7];exact Uz);have p:vh H (Pv H a (.lst vs)):=λb u pu e=>by rw[ay];exact e;rintro rfl;rw[ha]at e;cases e;exact mu.no pu
 refine⟨λb u e=>?_,nd,λb hb=>E.off b hb,?_⟩
 . rw[ay];exact E.sub b u e;rintro rfl;rw[pa]at e;cases e
 .
  have sl:=E.sl
  cases sl with
  | cons q t =>
   obtain⟨e,_⟩:=q;refine .cons ⟨e,vs,aX,r.pres p⟩ (Paired.impMem t λl hl s z=>z.pres p l λb hbm=>?_);rw[ay];rintro rfl;exact hn (iQ.mpr ⟨l,hl,hbm⟩)
end
noncomputable abbrev W(α:Type):=Ev->(α->Ev->Prop)->Prop
inductive Fl where
 |nx|bk|ct|rt (r:L)
def EL(X:Cx)(gV:List (Addr×Obj))(σ:St)(Pr:Hp)(so:L->Ev->Prop)(u:Value)(s':Shared):Prop :=
 ∃v H' r Z',PJ X gV σ H' s'/\b8 v u/\aB X.K Pr H' (some v::σ) (r::Z')/\so r Z'
def PL(X:Cx)(e:Expr)(t:W L):Prop :=
 ∀(gV:List (Addr×Obj))(s:Shared)(σ:St)(H Pr:Hp)(Z:Ev)(so:L->Ev->Prop),PJ X gV σ H s->aB X.K Pr H σ Z->t Z so->wpAny (model X.prog X.w) X.A (eval e X.env) (EL X gV σ Pr so) X.xe s
def EB(X:Cx)(gV:List (Addr×Obj))(σ:St)(Pr:Hp)(so:Bool->Ev->Prop)(b:Bool)(s':Shared):Prop :=
 ∃H' Z',PJ X gV σ H' s'/\aB X.K Pr H' σ Z'/\so b Z'
def PB(X:Cx)(e:Expr)(t:W Bool):Prop :=
 ∀(gV:List (Addr×Obj))(s:Shared)(σ:St)(H Pr:Hp)(Z:Ev)(so:Bool->Ev->Prop),PJ X gV σ H s->aB X.K Pr H σ Z->t Z so->wpAny (model X.prog X.w) X.A (isTrue e X.env (eval e X.env)) (EB X gV σ Pr so) X.xe s
def EA(X:Cx)(gV:List (Addr×Obj))(σ:St)(Pr:Hp)(bs:List (Option Nat))(so:List L->Ev->Prop)(us:List Value)(s':Shared):Prop :=
 ∃vs H' ls Z',PJ X gV σ H' s'/\bO vs us/\vs.length=ls.length/\vs.length=bs.length/\aB X.K Pr H' (vs.map some++σ) (ls++Z')/\(∀(k i:Nat),bs[k]?=some (some i)->ls[k]?=some L.un/\∃v,vs[k]?=some v/\σ[i]?=some (some v))/\so ls Z'
def Qt(X:Cx)(es:List Expr)(bs:List (Option Nat))(t:W (List L)):Prop :=
 ∀(pos:Pos)(gV:List (Addr×Obj))(s:Shared)(σ:St)(H Pr:Hp)(Z:Ev)(so:List L->Ev->Prop),PJ X gV σ H s->aB X.K Pr H σ Z->t Z so ->
  wpAny (model X.prog X.w) X.A (spliced (backTo pos (starEach es X.env))) (EA X gV σ Pr bs so) X.xe s
def SM(X:Cx)(gV:List (Addr×Obj))(Pr:Hp)(so:Fl->Ev->Prop)(f:Flow)(s':Shared):Prop :=
 match f with
 |.next=>∃σ' H' Z',PJ X gV σ' H' s'/\aB X.K Pr H' σ' Z'/\so .nx Z'
 |.brk=>∃σ' H' Z',PJ X gV σ' H' s'/\aB X.K Pr H' σ' Z'/\so .bk Z'
 |.cont=>∃σ' H' Z',PJ X gV σ' H' s'/\aB X.K Pr H' σ' Z'/\so .ct Z'
 |.ret u=>∃v σ' H' r Z' τ,PJ X gV σ' H' s'/\b8 v u/\aB X.K Pr H' (some v::τ) (r::Z')/\so (.rt r) Z'
def PM(X:Cx)(st:Stmt)(t:W Fl):Prop :=
 ∀(gV:List (Addr×Obj))(s:Shared)(σ:St)(H Pr:Hp)(Z:Ev)(so:Fl->Ev->Prop),PJ X gV σ H s->aB X.K Pr H σ Z->t Z so->wpAny (model X.prog X.w) X.A (exec st X.env) (SM X gV Pr so) X.xe s
def Qu(X:Cx)(st:List Stmt)(t:W Fl):Prop :=
 ∀(gV:List (Addr×Obj))(s:Shared)(σ:St)(H Pr:Hp)(Z:Ev)(so:Fl->Ev->Prop),PJ X gV σ H s->aB X.K Pr H σ Z->t Z so->wpAny (model X.prog X.w) X.A (execs st X.env) (SM X gV Pr so) X.xe s
section
variable{X:Cx}{e a b:Expr}{pos:Pos}{ta tb:W L}
theorem PL.of{t:TE}{u:W L}(h:PE X e t)(q:∀σ H Pr Z so,aB X.K Pr H σ Z->u Z so->t σ H λv H'=>∃r Z',aB X.K Pr H' (some v::σ) (r::Z')/\so r Z'):PL X e u :=
 λgV s σ H Pr Z so I E hu=>PP (h gV s σ H _ I (q σ H Pr Z so E hu)) λu s1 ⟨v,H1,I1,r1,r,Z',E1,p⟩=>⟨v,H1,r,Z',I1,r1,E1,p⟩
mutual
noncomputable def bE:L->Option D
 |.un=>none
 |.d x=>some x
 |.own _ xs=>some (.lst xs)
 |.bx none ls=>(ck ls).map .tup
 |.bx (some _) ls=>(ck ls).map .lst
 |.dic _ _=>none
noncomputable def ck:List L->Option (List D)
 |[]=>some []
 | l::ls=>match bE l,ck ls with
  |some x,some xs=>some (x::xs)
  |_,_=>none
end
def d4:Option D->(D->Prop)->Prop
 |some x,k=>k x
 |none,_=>False
theorem AK{o:Option D}{k:D->Prop}(h:d4 o k):∃x,o=some x/\k x:=by
 cases o with
 |some x=>exact⟨x,rfl,h⟩
 |none=>exact h.elim
def Bz(a:Option Addr)(ls:List L)(k:D->Prop):Prop:=d4 (bE (.bx a ls)) k
def Qv:L->(D->Prop)->Prop
 |.un,_=>False
 |.d x,k=>k x
 |.own _ xs,k=>k (.lst xs)
 |.bx a ls,k=>Bz a ls k
 |.dic _ _,_=>False
theorem xH{a:Option Addr}{ls:List L}{k:D->Prop}(h:Bz a ls k):∃x,bE (.bx a ls)=some x/\k x:=AK h
def EM(ls:List L)(k:List D->Prop):Prop:=∃xs,ck ls=some xs/\k xs
theorem KY(ls:List L)(k:D->Prop):Bz none ls k=EM ls λxs=>k (.tup xs):=by
 unfold Bz EM;simp only[bE]
 cases ck ls with
 |none=>simp[d4]
 |some xs=>simp[d4]
theorem KZ(a:Addr)(ls:List L)(k:D->Prop):Bz (some a) ls k=EM ls λxs=>k (.lst xs):=by
 unfold Bz EM;simp only[bE]
 cases ck ls with
 |none=>simp[d4]
 |some xs=>simp[d4]
theorem EN(k:List D->Prop):EM [] k=k []:=by unfold EM;simp[ck]
theorem Ik(l:L)(k:D->Prop):Qv l k=∃x,bE l=some x/\k x:=by
 cases l with
 |un=>simp[Qv,bE]
 |d x=>simp[Qv,bE]
 |own a xs=>simp[Qv,bE]
 | bx a ls =>
  show d4 _ k=_
  cases bE (.bx a ls)with
  |none=>simp[d4]
  |some x=>simp[d4]
 |dic a kvs=>simp[Qv,bE]
theorem B8(l:L)(ls:List L)(k:List D->Prop):EM (l::ls) k=Qv l λx=>EM ls λxs=>k (x::xs):=by
 rw[Ik];unfold EM;simp only[ck]
 cases bE l with
 |none=>simp
 | some x =>
  cases ck ls with
  |none=>simp
  |some xs=>simp
theorem dg{K:PySem.W.Frag}{H:Hp}:∀{vs:List V}{ls:List L},bY K H vs ls↔Paired (a6 K H) (vs.map some) ls
 |[],[]=>⟨λ_=>.nil,λ_=>by simp only[bY]⟩
 | v::vs,l::ls=>by
  simp only[bY,List.map_cons];constructor
  . rintro⟨w,us,e,h1,h2⟩;cases e;exact .cons h1 (dg.mp h2)
  .
   intro h
   cases h with
   |cons q t=>exact⟨v,vs,rfl,q,dg.mpr t⟩
 | [],l::ls=>by
  simp only[bY,List.map_nil];constructor
  . rintro⟨w,us,e,_⟩;cases e
  . intro h;cases h
 | v::vs,[]=>by
  simp only[bY,List.map_cons];constructor
  . intro h;cases h
  . intro h;cases h
theorem xI{K:PySem.W.Frag}{H:Hp}:∀{vs:List V}{xs:List D},Paired (a6 K H) (vs.map some) (xs.map .d)->bA K H vs xs
 |[],[],_=>.nil
 | v::vs,x::xs,h=>by
  simp only[List.map_cons]at h
  cases h with
  | cons q t =>
   simp only[a6]at q;obtain⟨w,e,r⟩:=q;cases e;exact .cons r (xI t)
 |[],_::_,h=>by simp only[List.map_cons,List.map_nil]at h;cases h
 |_::_,[],h=>by simp only[List.map_cons,List.map_nil]at h;cases h
theorem bY.len{K:PySem.W.Frag}{H:Hp}{vs:List V}{ls:List L}(h:bY K H vs ls):vs.length=ls.length:=by have:=Paired.length (dg.mp h);simpa using this
theorem iR:∀{ls:List L}{xs:List D},ck ls=some xs->xs.length=ls.length
 |[],_,h=>by simp[ck]at h;subst h;rfl
 | l::ls,xs,h=>by
  simp only[ck]at h;split at h
  . rename_i x ys h1 h2;cases h;simp[iR h2]
  . cases h
theorem aB.openT{K:PySem.W.Frag}{Pr H:Hp}{σ:St}{Z:Ev}{v:Option V}{ls:List L}(E:aB K Pr H (v::σ) (.bx none ls::Z)):∃a vs,v=some (.ref a)/\PV K H a vs/\vs.length=ls.length/\aB K Pr H (vs.map some++σ) (ls++Z):=by
 have sl:=E.sl
 cases sl with
 | cons q t =>
  simp only[a6]at q;obtain⟨a,vs,e,h,r⟩:=q;have ow:owns (.bx none ls::Z)=owns (ls++Z):=by rw[aJ,aE];simp only[a8,Option.toList,List.nil_append,eW]
  exact⟨a,vs,e,h,r.len,E.sub,by rw[<- ow];exact E.nd,λb hb=>E.off b (by rw[ow];exact hb),Paired.app (dg.mp r) t⟩
theorem aB.openO{K:PySem.W.Frag}{Pr H:Hp}{σ:St}{Z:Ev}{v:Option V}{a:Addr}{ls:List L}(E:aB K Pr H (v::σ) (.bx (some a) ls::Z)):∃vs,v=some (.ref a)/\H a=some (.lst vs)/\vs.length=ls.length/\a∉owns (ls++Z)/\Pr a=none/\aB K Pr H (vs.map some++σ) (ls++Z):=by
 have sl:=E.sl
 cases sl with
 | cons q t =>
  simp only[a6]at q;obtain⟨e,vs,h,r⟩:=q;have ow:owns (.bx (some a) ls::Z)=a::owns (ls++Z):=by rw[aJ,aE];simp only[a8,Option.toList,List.cons_append,List.nil_append,eW]
  have nd:=E.nd;rw[ow]at nd;obtain⟨n1,n2⟩:=List.nodup_cons.mp nd;exact⟨vs,e,h,r.len,n1,E.off a (by rw[ow];exact Uz),E.sub,n2,λb hb=>E.off b (by rw[ow];exact tu _ hb),Paired.app (dg.mp r) t⟩
theorem B9(xs:List D):owns (xs.map .d)=[]:=by
 induction xs with
 |nil=>rfl
 |cons x xs ih=>rw[List.map_cons,aJ,ih];rfl
def oS(H H':Hp)(S:List Addr):Prop:=vh H H'/\(∀b,b∉S->H' b=H b)/\∀a∈S,∀vs,H a=some (.lst vs)->∃o,H' a=some (.frz o (.lst vs))
theorem oS.refl(H:Hp):oS H H []:=⟨λ_ _ _ e=>e,λ_ _=>rfl,λ_ h=>by simp at h⟩
mutual
theorem K0:∀(l:L){gV:List (Addr×Obj)}{σ0:St}{s:Shared}{Pr H:Hp}{σ:St}{Z:Ev}{v:Option V}{x:D},PJ X gV σ0 H s->aB X.K Pr H (v::σ) (l::Z)->bE l=some x->∃H',PJ X gV σ0 H' s/\aB X.K Pr H' (v::σ) (.d x::Z)/\oS H H' (a8 l)
 |.un,_,_,_,_,_,_,_,_,_,_,_,h=>by simp[bE]at h
 |.dic _ _,_,_,_,_,_,_,_,_,_,_,_,h=>by simp[bE]at h
 | .d y,_,_,_,_,_,_,_,_,_,I,E,h=>by
  simp only[bE,Option.some.injEq]at h
  subst h
  exact⟨_,I,E,oS.refl _⟩
 | .own a xs,_,_,_,_,H,σ,Z,v,_,I,E,h=>by
  simp only[bE,Option.some.injEq]at h
  subst h
  have sl:=E.sl
  cases sl with
  | cons q t =>
   simp only[a6]at q
   obtain⟨e0,vs,ha,r⟩:=q
   obtain⟨o,I'⟩:=I.freezeL ha
   refine⟨_,I',E.freeze ha o,λb u pu eb=>?_,λb hb=>?_,λb hb vs' eb=>?_⟩
   .
    rw[ay];exact eb
    rintro rfl
    rw[ha]at eb;cases eb;exact pu
   .
    rw[ay]
    rintro rfl
    exact hb (by simp[a8])
   .
    have e:b=a:=by simpa[a8]using hb
    subst e
    rw[ha]at eb;cases eb
    exact⟨o,aX⟩
 | .bx none ls,_,_,_,Pr,H,σ,Z,v,x,I,E,h=>by
  simp only[bE,Option.map_eq_some_iff]at h
  obtain⟨xs,h,rfl⟩:=h
  obtain⟨a,vs,rfl,ha,hl,E1⟩:=E.openT
  obtain⟨H',I',E',F⟩:=Il ls hl I E1 h
  have hxl:=iR h
  obtain⟨s1,s2⟩:=Paired.unapp (by simp[hl,hxl]) E'.sl
  refine⟨H',I',(E'.drop (by simp[hl,hxl])).cons_d (.tup (ha.pres F.1) (xI s1)),F.1,λb hb=>F.2.1 b ?_,λb hb=>F.2.2 b ?_⟩
  .
   simpa[a8,eW]using hb
  .
   simpa[a8,eW]using hb
 | .bx (some a) ls,_,_,_,Pr,H,σ,Z,v,x,I,E,h=>by
  simp only[bE,Option.map_eq_some_iff]at h
  obtain⟨xs,h,rfl⟩:=h
  obtain⟨vs,rfl,ha,hl,hn,hp,E1⟩:=E.openO
  obtain⟨H',I',E',F⟩:=Il ls hl I E1 h
  have hxl:=iR h
  have hal:a∉owns ls:=λz=>hn (by rw[aE];exact List.mem_append_left _ z)
  have haρ:a∉owns Z:=λz=>hn (by rw[aE];exact List.mem_append_right _ z)
  have ha':H' a=some (.lst vs):=(F.2.1 a hal).trans ha
  obtain⟨s1,s2⟩:=Paired.unapp (by simp[hl,hxl]) E'.sl
  have E2:=E'.drop (by simp[hl,hxl])
  have E3:aB X.K Pr H' (some (.ref a)::σ) (.own a xs::Z):=by
   refine⟨E2.sub,?_,λb hb=>?_,.cons ?_ E2.sl⟩
   .
    rw[a7];exact List.nodup_cons.mpr ⟨haρ,E2.nd⟩
   .
    rw[a7]at hb
    rcases UK.mp hb with z|z
    .
     rw[z];exact hp
    .
     exact E2.off b z
   .
    unfold a6
    exact⟨rfl,vs,ha',xI s1⟩
  obtain⟨o,I2⟩:=I'.freezeL ha'
  refine⟨_,I2,E3.freeze ha' o,λb u pu e=>?_,λb hb=>?_,λb hb vs' eb=>?_⟩
  .
   rw[ay];exact F.1 b u pu e
   rintro rfl
   rw[ha]at e;cases e;exact pu
  .
   have hb':b≠a/\b∉owns ls:=by simpa[a8,eW,not_or]using hb
   rw[ay hb'.1]
   exact F.2.1 b hb'.2
  .
   by_cases hba:b=a
   .
    subst hba
    rw[ha]at eb;cases eb
    exact⟨o,aX⟩
   .
    have hb':b∈owns ls:=by
     rcases(by simpa[a8,eW]using hb:b=a∨b∈owns ls)with z|z
     .
      exact absurd z hba
     .
      exact z
    rw[ay hba]
    exact F.2.2 b hb' vs' eb
theorem Il:∀(ls:List L){gV:List (Addr×Obj)}{σ0:St}{s:Shared}{Pr H:Hp}{σ:St}{Z:Ev}{vs:List V}{xs:List D},vs.length=ls.length->PJ X gV σ0 H s->aB X.K Pr H (vs.map some++σ) (ls++Z)->ck ls=some xs->∃H',PJ X gV σ0 H' s/\aB X.K Pr H' (vs.map some++σ) (xs.map .d++Z)/\oS H H' (owns ls)
 | [],_,_,_,_,_,_,_,vs,xs,hl,I,E,h=>by
  simp only[ck,Option.some.injEq]at h
  subst h
  cases vs with
  |nil=>exact⟨_,I,E,oS.refl _⟩
  |cons _ _=>simp at hl
 | l::ls,_,_,_,Pr,H,σ,Z,vs,xs,hl,I,E,h=>by
  simp only[ck]at h
  split at h
  rotate_left
  .
   cases h
  rename_i x ys h1 h2
  cases h
  cases vs with
  |nil=>simp at hl
  | cons v vs =>
   have hl':vs.length=ls.length:=by simpa using hl
   obtain⟨H1,I1,E1,F1⟩:=K0 l I E h1
   have E2:aB X.K (br H1 (ls++Z)) H1 (vs.map some++σ) (ls++Z):=(E1.drop (τ:=[some v]) (lam:=[.d x]) rfl).wide
   obtain⟨H2,I2,E3,F2⟩:=Il ls hl' I1 E2 h2
   have hyl:=iR h2
   have E4:aB X.K Pr H2 (some v::(vs.map some++σ)) (.d x::(ys.map .d++Z)):=by
    have z:=aB.step (τ:=[some v]) (lam:=[.d x]) (w:=[]) (μ:=[]) (σ':=vs.map some++σ) (Z':=ys.map .d++Z) E1 rfl E3 rfl
    exact z
   refine⟨H2,I2,E4,λb u pu e=>F2.1 b u pu (F1.1 b u pu e),λb hb=>?_,λb hb vs' eb=>?_⟩
   .
    rw[aJ]at hb
    rw[F2.2.1 b (λz=>hb (List.mem_append_right _ z)),F1.2.1 b (λz=>hb (List.mem_append_left _ z))]
   .
    rw[aJ]at hb
    rcases List.mem_append.mp hb with z|z
    .
     obtain⟨o,eo⟩:=F1.2.2 b z vs' eb
     exact⟨o,F2.1 b _ True.intro eo⟩
    .
     have hn:b∉a8 l:=λz'=>by
      have nd:=E.nd
      rw[List.cons_append,aJ,aE]at nd
      exact(List.nodup_append.mp nd).2.2 b z' b (List.mem_append_left _ z) rfl
     exact F2.2.2 b z vs' ((F1.2.1 b hn).trans eb)
end
theorem EL.frz{gV:List (Addr×Obj)}{σ:St}{Pr:Hp}{so:D->Ev->Prop}{u:Value}{s':Shared}(h:EL X gV σ Pr (λr Z=>Qv r λx=>so x Z) u s') :
  ∃v H' x Z',PJ X gV σ H' s'/\b8 v u/\aB X.K Pr H' (some v::σ) (.d x::Z')/\so x Z':=by
 obtain⟨v,H',r,Z',I,rv,E,p⟩:=h
 cases r with
 |un=>exact p.elim
 |d x=>exact⟨v,H',x,Z',I,rv,E,p⟩
 | own a xs =>
  obtain⟨H2,I2,E2,_⟩:=K0 (.own a xs) I E rfl;exact⟨v,H2,.lst xs,Z',I2,rv,E2,p⟩
 | bx a ls =>
  obtain⟨x,ex,p⟩:=xH p;obtain⟨H2,I2,E2,_⟩:=K0 (.bx a ls) I E ex;exact⟨v,H2,x,Z',I2,rv,E2,p⟩
 |dic a kvs=>exact p.elim
def bI(t:W L):W L:=λZ so=>t Z λr Z1=>Qv r λx=>so (.d x) Z1
theorem aA{t:W L}(h:PL X e t):PL X e (bI t):=λgV s σ H Pr Z so I E ht =>
 PP (h gV s σ H Pr Z _ I E ht) λu s1 q=>by obtain⟨v,H',x,Z',I',rv,E',p⟩:=EL.frz (so:=λx Z=>so (.d x) Z) q;exact⟨v,H',.d x,Z',I',rv,E',p⟩
theorem aB.head_d{K:PySem.W.Frag}{Pr H:Hp}{v:Option V}{σ:St}{x:D}{Z:Ev}(E:aB K Pr H (v::σ) (.d x::Z)):∃w,v=some w/\Qs K H w x:=by
 have sl:=E.sl
 cases sl with
 |cons q t=>exact q
theorem aB.tail{K:PySem.W.Frag}{Pr H:Hp}{v:Option V}{σ:St}{l:L}{Z:Ev}(E:aB K Pr H (v::σ) (l::Z)):aB K Pr H σ Z:=aB.drop (τ:=[v]) (lam:=[l]) E rfl
theorem two{gV:List (Addr×Obj)}{s:Shared}{σ:St}{H Pr:Hp}{Z:Ev}{R:D->D->Ev->Prop}(ha:PL X a ta)(hb:PL X b tb)(I:PJ X gV σ H s)(E:aB X.K Pr H σ Z)
  (h:ta Z λx Z1=>Qv x λdx=>tb Z1 λy Z2=>Qv y λdy=>R dx dy Z2) {α:Type} {Q:α->Shared->Prop} {f:Value->Value->Sem α}
  (hf:∀v u s2 x y H2 dx dy Z2,PJ X gV σ H2 s2->b8 x v->b8 y u->aB X.K Pr H2 (some y::some x::σ) (.d dy::.d dx::Z2)->Qs X.K H2 x dx->Qs X.K H2 y dy->R dx dy Z2->wpAny (model X.prog X.w) X.A (f v u) Q X.xe s2) :
  wpAny (model X.prog X.w) X.A (eval a X.env) (λv s₁=>wpAny (model X.prog X.w) X.A (eval b X.env) (λu s₂=>wpAny (model X.prog X.w) X.A (f v u) Q X.xe s₂) X.xe s₁) X.xe s:=by
 refine PP (ha gV s σ H Pr Z _ I E h) λv s1 q=>?_;obtain⟨x,H1,dx,Z1,I1,r1,E1,q1⟩:=EL.frz (so:=λdx Z1=>tb Z1 λy Z2=>Qv y λdy=>R dx dy Z2) q;refine PP (hb gV s1 σ H1 _ Z1 _ I1 E1.tail.wide q1) λu s2 q=>?_;obtain⟨y,H2,dy,Z2,I2,r2,E2,q2⟩:=EL.frz (so:=λdy Z2=>R dx dy Z2) q;have E3:aB X.K Pr H2 (some y::some x::σ) (.d dy::.d dx::Z2):=aB.step (τ:=[some x]) (lam:=[.d dx]) (w:=[some y]) (μ:=[.d dy]) E1 rfl E2 rfl;obtain⟨_,e1,p1⟩:=E3.head_d;obtain⟨_,e2,p2⟩:=E3.tail.head_d;cases e1;cases e2;exact hf v u s2 x y H2 dx dy Z2 I2 r1 r2 E3 p2 p1 q2
abbrev Qw:=D->D->(L->Prop)->Prop
def Qx(X:Cx)(f:Value->Value->Sem Value)(op:Qw):Prop :=
 ∀(gV:List (Addr×Obj))(s:Shared)(σ:St)(H Pr:Hp)(Z:Ev)(x y:V)(v u:Value)(dx dy:D)(so:L->Prop),PJ X gV σ H s->b8 x v->b8 y u->aB X.K Pr H σ Z->Qs X.K H x dx->Qs X.K H y dy->op dx dy so ->
  wpAny (model X.prog X.w) X.A (f v u) (λw s'=>∃z H' r,PJ X gV σ H' s'/\b8 z w/\aB X.K Pr H' (some z::σ) (r::Z)/\so r) X.xe s
theorem Qx.of{f:Value->Value->Sem Value}{r:R2}{op:Qw}(h:P4 X f r)(q:∀σ H Pr Z x y dx dy so,aB X.K Pr H σ Z->Qs X.K H x dx->Qs X.K H y dy->op dx dy so->r x y H λz H'=>∃r,aB X.K Pr H' (some z::σ) (r::Z)/\so r):Qx X f op :=
 λgV s σ H Pr Z x y v u dx dy so I rx ry E px py ho=>PP (h gV s σ H x y v u _ I rx ry (q σ H Pr Z x y dx dy so E px py ho)) λw s' ⟨z,H',I',rz,r,E',p⟩=>⟨z,H',r,I',rz,E',p⟩
theorem Qx.imp{f:Value->Value->Sem Value}{o1 o2:Qw}(h1:Qx X f o1)(h:∀x y p,o2 x y p->o1 x y p):Qx X f o2 :=
 λgV s σ H Pr Z x y v u dx dy so I rx ry E px py ho=>h1 gV s σ H Pr Z x y v u dx dy so I rx ry E px py (h _ _ _ ho)
def ax(op:Qw)(ta tb:W L):W L:=λZ so=>ta Z λx Z1=>Qv x λdx=>tb Z1 λy Z2=>Qv y λdy=>op dx dy λr=>so r Z2
theorem aH{op:Operator}{o:Qw}(ho:Qx X (binaryOp op) o)(ha:PL X a ta)(hb:PL X b tb):PL X (.BinOp a op b pos) (ax o ta tb):=λgV s σ H Pr Z so I E h =>
 wpAny_BinOp (two (R:=λdx dy Z2=>o dx dy λr=>so r Z2) ha hb I E h λv u s2 x y H2 dx dy Z2 I2 r1 r2 E2 p1 p2 q =>
  PP (ho gV s2 σ H2 Pr Z2 x y v u dx dy _ I2 r1 r2 E2.tail.tail p1 p2 q) λw s3 ⟨z,H3,r,I3,rz,E3,p⟩=>⟨z,H3,r,Z2,I3,rz,E3,p⟩)
theorem dX{op:CmpOp}{o:Qw}(ho:Qx X (compareOp op) o)(ha:PL X a ta)(hb:PL X b tb)(hm:behindInMarks op b=false):PL X (.Compare a [op] [b] pos) (ax o ta tb):=λgV s σ H Pr Z so I E h =>
 wpAny_Compare1 (two (R:=λdx dy Z2=>o dx dy λr=>so r Z2) ha hb I E h λv u s2 x y H2 dx dy Z2 I2 r1 r2 E2 p1 p2 q =>
  PP (ho gV s2 σ H2 Pr Z2 x y v u dx dy _ I2 r1 r2 E2.tail.tail p1 p2 q) λw s3 ⟨z,H3,r,I3,rz,E3,p⟩=>⟨z,H3,r,Z2,I3,rz,E3,p⟩) hm
def wC(x:D):W L:=λZ so=>so (.d x) Z
theorem ag {i j pos}:PL X (.Constant (.int i) j pos) (wC (.int i)):=PL.of Ky λσ H Pr Z so E h=>⟨_,_,E.cons_d (.int i),h⟩
theorem ir {b j pos}:PL X (.Constant (.bool b) j pos) (wC (.bl b)):=PL.of M4 λσ H Pr Z so E h=>⟨_,_,E.cons_d (.bl b),h⟩
theorem zm {j pos}:PL X (.Constant .none j pos) (wC .non):=PL.of Kz λσ H Pr Z so E h=>⟨_,_,E.cons_d .non,h⟩
theorem zo {x j pos}:PL X (.Constant (.str x) j pos) (wC (.str x)):=PL.of GT λσ H Pr Z so E h=>⟨_,_,E.cons_d (.str x),h⟩
def K1(o:Option L)(i:Nat)(Z:Ev)(so:L->Ev->Prop):Prop:=match o with
 |some (.d x)=>so (.d x) Z
 |some (.own _ xs)=>so (.d (.lst xs)) (Z.set i (.d (.lst xs)))
 |some (.bx a ls)=>Bz a ls λx=>so (.d x) (Z.set i (.d x))
 |_=>False
def aj(i:Nat):W L:=λZ so=>K1 Z[i]? i Z so
theorem K2(x:D)(i:Nat)(Z:Ev)(so:L->Ev->Prop):K1 (some (.d x)) i Z so=so (.d x) Z:=(rfl)
theorem EO(a:Addr)(xs:List D)(i:Nat)(Z:Ev)(so:L->Ev->Prop):K1 (some (.own a xs)) i Z so=so (.d (.lst xs)) (Z.set i (.d (.lst xs))):=(rfl)
theorem Im(a:Option Addr)(ls:List L)(i:Nat)(Z:Ev)(so:L->Ev->Prop):K1 (some (.bx a ls)) i Z so=Bz a ls λx=>so (.d x) (Z.set i (.d x)):=(rfl)
theorem aB.slot{K:PySem.W.Frag}{Pr H:Hp}{σ:St}{Z:Ev}{i:Nat}{l:L}(E:aB K Pr H σ Z)(h:Z[i]?=some l):∃s,σ[i]?=some s/\a6 K H s l:=Paired.get2 E.sl h
theorem ae(i:Nat){x:Str}{pos:Pos}(hN:X.N[i]?=some x:=by rfl)(hv:PF X.env.scope x:=by first | exact Or.inl rfl | exact Or.inr (Or.inl rfl) | exact Or.inr (Or.inr rfl)) (hd:(x == ("__debug__" : Str))=false:=by decide)
  (hcd:(x == ("__classdict__" : Str))=false:=by decide):PL X (.Name x pos) (aj i):=by
 intro gV s σ H Pr Z so I E h;unfold aj K1 at h
 cases q:Z[i]? with
 |none=>rw[q]at h;exact h.elim
 | some l =>
  rw[q]at h;obtain⟨sv,hs,sl⟩:=E.slot q
  cases l with
  |un=>exact h.elim
  |dic a kvs=>exact h.elim
  | d y =>
   obtain⟨v,rfl,r⟩:=sl;exact PP (gH hN hv hd hcd gV s σ H (λw H'=>w=v/\H'=H) I ⟨v,hs,rfl,rfl⟩) λu s1 ⟨w,H1,I1,r1,e1,e2⟩=>by subst e1 e2;exact⟨w,H1,_,Z,I1,r1,E.cons_d r,h⟩
  | own a xs =>
   obtain⟨rfl,vs,ha,r⟩:=sl;refine PP (gH hN hv hd hcd gV s σ H (λw H'=>w=.ref a/\H'=H) I ⟨.ref a,hs,rfl,rfl⟩) λu s1 ⟨w,H1,I1,r1,e1,e2⟩=>?_;subst e1 e2;obtain⟨o,I2⟩:=I1.freezeL ha;have E2:=(E.out q).freeze ha o;have hi:i<Z.length:=(UA.mp q).1;have E3:=E2.back (i:=i) (by simp[hi]) hs;rw[List.set_set]at E3;obtain⟨_,e,p⟩:=E2.head_d;cases e;exact⟨_,_,_,_,I2,r1,E3.cons_d p,h⟩
  | bx a ls =>
   obtain⟨y,ey,h⟩:=xH h
   have hv':∃b,sv=some (.ref b):=by
    cases a with
    |none=>simp only[a6]at sl;obtain⟨b,_,e,_⟩:=sl;exact⟨b,e⟩
    |some b=>simp only[a6]at sl;exact⟨b,sl.1⟩
   obtain⟨b,rfl⟩:=hv';refine PP (gH hN hv hd hcd gV s σ H (λw H'=>w=.ref b/\H'=H) I ⟨.ref b,hs,rfl,rfl⟩) λu s1 ⟨w,H1,I1,r1,e1,e2⟩=>?_;subst e1 e2;obtain⟨H2,I2,E2,_⟩:=K0 (.bx a ls) I1 (E.outL q hs) ey;have hi:i<Z.length:=(UA.mp q).1;have E3:=E2.back (i:=i) (by simp[hi]) hs;rw[List.set_set]at E3;obtain⟨_,e,p⟩:=E2.head_d;cases e;exact⟨_,_,_,_,I2,r1,E3.cons_d p,h⟩
def Kp(o:Option L)(i:Nat)(Z:Ev)(so:L->Ev->Prop):Prop:=match o with
 |some (.d x)=>so (.d x) Z
 |some (.own a xs)=>so (.own a xs) (Z.set i .un)
 |some (.bx a ls)=>so (.bx a ls) (Z.set i .un)
 |_=>False
def p5(i:Nat):W L:=λZ so=>Kp Z[i]? i Z so
theorem K3(x:D)(i:Nat)(Z:Ev)(so:L->Ev->Prop):Kp (some (.d x)) i Z so=so (.d x) Z:=(rfl)
theorem ER(a:Addr)(xs:List D)(i:Nat)(Z:Ev)(so:L->Ev->Prop):Kp (some (.own a xs)) i Z so=so (.own a xs) (Z.set i .un):=(rfl)
theorem Io(a:Option Addr)(ls:List L)(i:Nat)(Z:Ev)(so:L->Ev->Prop):Kp (some (.bx a ls)) i Z so=so (.bx a ls) (Z.set i .un):=(rfl)
theorem jN(i:Nat){x:Str}{pos:Pos}(hN:X.N[i]?=some x:=by rfl)(hv:PF X.env.scope x:=by first | exact Or.inl rfl | exact Or.inr (Or.inl rfl) | exact Or.inr (Or.inr rfl)) (hd:(x == ("__debug__" : Str))=false:=by decide)
  (hcd:(x == ("__classdict__" : Str))=false:=by decide):PL X (.Name x pos) (p5 i):=by
 intro gV s σ H Pr Z so I E h;unfold p5 Kp at h
 cases q:Z[i]? with
 |none=>rw[q]at h;exact h.elim
 | some l =>
  rw[q]at h;obtain⟨sv,hs,sl⟩:=E.slot q
  cases l with
  |un=>exact h.elim
  |dic a kvs=>exact h.elim
  | d y =>
   obtain⟨v,rfl,r⟩:=sl;exact PP (gH hN hv hd hcd gV s σ H (λw H'=>w=v/\H'=H) I ⟨v,hs,rfl,rfl⟩) λu s1 ⟨w,H1,I1,r1,e1,e2⟩=>by subst e1 e2;exact⟨w,H1,_,Z,I1,r1,E.cons_d r,h⟩
  | own a xs =>
   obtain⟨rfl,vs,ha,r⟩:=sl;refine PP (gH hN hv hd hcd gV s σ H (λw H'=>w=.ref a/\H'=H) I ⟨.ref a,hs,rfl,rfl⟩) λu s1 ⟨w,H1,I1,r1,e1,e2⟩=>?_;subst e1 e2;exact⟨_,_,_,_,I1,r1,E.out q,h⟩
  | bx a ls =>
   have hv':∃b,sv=some (.ref b):=by
    cases a with
    |none=>simp only[a6]at sl;obtain⟨b,_,e,_⟩:=sl;exact⟨b,e⟩
    |some b=>simp only[a6]at sl;exact⟨b,sl.1⟩
   obtain⟨b,rfl⟩:=hv';refine PP (gH hN hv hd hcd gV s σ H (λw H'=>w=.ref b/\H'=H) I ⟨.ref b,hs,rfl,rfl⟩) λu s1 ⟨w,H1,I1,r1,e1,e2⟩=>?_;subst e1 e2;exact⟨_,_,_,_,I1,r1,E.outL q hs,h⟩
theorem Ip{x:Str}{v:V}{u:Value}{y:D}{pos:Pos}(hg:Gl X x)(hm:X.mg x=some u)(r:b8 v u)(hy:∀ H,Qs X.K H v y) (hd:(x == ("__debug__" : Str))=false:=by decide):PL X (.Name x pos) (wC y) :=
 PL.of (HK hg hm r hd) λσ H Pr Z so E h=>⟨_,_,E.cons_d (hy H),h⟩
def AL:L->(Bool->Prop)->Prop
 |.d (.bl b),k=>k b
 |_,_=>False
def aW(t:W L):W Bool:=λZ so=>t Z λr Z1=>AL r λb=>so b Z1
theorem t8{r:L}{k:Bool->Prop}(h:AL r k):∃b,r=.d (.bl b)/\k b:=by
 cases r with
 | d x=>cases x with
  |bl b=>exact⟨b,rfl,h⟩
  |_=>exact h.elim
 |_=>exact h.elim
theorem bP{t:W L}(h:PL X e t)(he:∀whole,isTrue e X.env whole=(do let v <- whole;standAt e.pos;holding [v] (truthy v)):=by intro _;rfl):PB X e (aW t):=by intro gV s σ H Pr Z so I E ht;rw[he];refine Uw (PP (h gV s σ H Pr Z _ I E ht) λu s1 ⟨v,H1,r,Z1,I1,rv,E1,p⟩=>Uw (wpAny_standAt (wpAny_holding ?_)));obtain⟨b,rfl,p⟩:=t8 p;obtain⟨_,e1,p1⟩:=E1.head_d;cases e1;cases p1;cases rv;exact wpAny_truthy_bool ⟨H1,Z1,I1,E1.tail,p⟩
end
section
variable{X:Cx}{e a b c:Expr}{rest:List Expr}{pos:Pos}{ta tb:W L}{tA tB:W Bool}
def Qy(X:Cx)(e:Expr)(t:W Bool):Prop :=
 ∀(whole:Sem Value)(gV:List (Addr×Obj))(s:Shared)(σ:St)(H Pr:Hp)(Z:Ev)(so:Bool->Ev->Prop),PJ X gV σ H s->aB X.K Pr H σ Z->t Z so->wpAny (model X.prog X.w) X.A (isTrue e X.env whole) (EB X gV σ Pr so) X.xe s
theorem Qy.pb{t:W Bool}(h:Qy X e t):PB X e t:=h _
def K4(t u:W Bool):W Bool:=λZ so=>t Z λc Z1=>if c=true then u Z1 so else so false Z1
def Qz(t u:W Bool):W Bool:=λZ so=>t Z λc Z1=>if c=true then so true Z1 else u Z1 so
def vI(t:W Bool):W Bool:=λZ so=>t Z λc Z1=>so (!c) Z1
theorem zp(ha:PB X a tA):Qy X (.BoolOp .And [a] pos) tA:=by
 intro wh gV s σ H Pr Z so I E h;refine isTrue_and (PP (ha gV s σ H Pr Z so I E h) λc s1 e=>?_)
 cases c with
 |true=>exact isTrue_and_nil e
 |false=>exact e
theorem l7(ha:PB X a tA):Qy X (.BoolOp .Or [a] pos) tA:=by
 intro wh gV s σ H Pr Z so I E h;refine isTrue_or (PP (ha gV s σ H Pr Z so I E h) λc s1 e=>?_)
 cases c with
 |false=>exact isTrue_or_nil e
 |true=>exact e
theorem xJ(ha:PB X a tA)(hb:Qy X (.BoolOp .And (b::rest) pos) tB):Qy X (.BoolOp .And (a::b::rest) pos) (K4 tA tB):=by
 intro wh gV s σ H Pr Z so I E h;refine isTrue_and (PP (ha gV s σ H Pr Z _ I E h) λc s1 ⟨H1,Z1,I1,E1,q1⟩=>?_)
 cases c with
 |true=>exact hb wh gV s1 σ H1 Pr Z1 so I1 E1 q1
 |false=>exact⟨H1,Z1,I1,E1,q1⟩
theorem oT(ha:PB X a tA)(hb:Qy X (.BoolOp .Or (b::rest) pos) tB):Qy X (.BoolOp .Or (a::b::rest) pos) (Qz tA tB):=by
 intro wh gV s σ H Pr Z so I E h;refine isTrue_or (PP (ha gV s σ H Pr Z _ I E h) λc s1 ⟨H1,Z1,I1,E1,q1⟩=>?_)
 cases c with
 |true=>exact⟨H1,Z1,I1,E1,q1⟩
 |false=>exact hb wh gV s1 σ H1 Pr Z1 so I1 E1 q1
theorem iu(ha:PB X a tA):PB X (.UnaryOp .Not a pos) (vI tA):=by intro gV s σ H Pr Z so I E h;exact isTrue_not (ha gV s σ H Pr Z (λc Z1=>so (!c) Z1) I E h)
theorem QA{op:CmpOp}{o:Qw}(ho:Qx X (compareOp op) o)(ha:PL X a ta)(hb:PL X b tb)(hm:behindInMarks op b=false):PB X (.Compare a [op] [b] pos) (aW (ax o ta tb)):=by intro gV s σ H Pr Z so I E h;refine wpAny_isTrue_Compare1 (two (R:=λdx dy Z2=>o dx dy λr=>AL r λb=>so b Z2) ha hb I E h λv u s2 x y H2 dx dy Z2 I2 r1 r2 E2 p1 p2 q=>?_) hm;refine PP (ho gV s2 σ H2 Pr Z2 x y v u dx dy _ I2 r1 r2 E2.tail.tail p1 p2 q) λw s3 ⟨z,H3,r,I3,rz,E3,p⟩=>?_;obtain⟨b,rfl,p⟩:=t8 p;obtain⟨_,e1,p1⟩:=E3.head_d;cases e1;cases p1;cases rz;exact wpAny_truthy_bool ⟨H3,Z2,I3,E3.tail,p⟩
def k9(ta tb:W L):W L:=λZ so=>ta Z λr Z1=>AL r λc=>if c=true then tb Z1 so else so (.d (.bl false)) Z1
def MX(ta tb:W L):W L:=λZ so=>ta Z λr Z1=>AL r λc=>if c=true then so (.d (.bl true)) Z1 else tb Z1 so
def Ca(t:W Bool):W L:=λZ so=>t Z λc Z1=>so (.d (.bl (!c))) Z1
theorem jO {op} {t:W L} (h:PL X a t):PL X (.BoolOp op [a] pos) t:=λgV s σ H Pr Z so I E hw=>BoolOp_one (h gV s σ H Pr Z so I E hw)
theorem EL.bl{gV:List (Addr×Obj)}{σ:St}{Pr:Hp}{so:Bool->Ev->Prop}{u:Value}{s':Shared}(h:EL X gV σ Pr (λr Z=>AL r λb=>so b Z) u s') :
  ∃H' b Z',u=.bool b/\PJ X gV σ H' s'/\aB X.K Pr H' σ Z'/\so b Z':=by
 obtain⟨v,H',r,Z',I,rv,E,p⟩:=h;obtain⟨b,rfl,p⟩:=t8 p;obtain⟨_,e1,p1⟩:=E.head_d;cases e1;cases p1;cases rv;exact⟨H',b,Z',rfl,I,E.tail,p⟩
theorem gJ(ha:PL X a ta)(hb:PL X (.BoolOp .And (b::rest) pos) tb):PL X (.BoolOp .And (a::b::rest) pos) (k9 ta tb):=by
 intro gV s σ H Pr Z so I E h;refine BoolOp_and (PP (ha gV s σ H Pr Z _ I E h) λv s1 q=>?_)
 obtain⟨H1,c,Z1,rfl,I1,E1,q1⟩:=EL.bl (so:=λc Z1=>if c=true then tb Z1 so else so (.d (.bl false)) Z1) q
 refine wpAny_truthy_bool ?_
 cases c with
 |true=>exact hb gV s1 σ H1 Pr Z1 so I1 E1 q1
 |false=>exact⟨.bl false,H1,_,Z1,I1,rfl,E1.cons_d (.bl false),q1⟩
theorem K5(ha:PL X a ta)(hb:PL X (.BoolOp .Or (b::rest) pos) tb):PL X (.BoolOp .Or (a::b::rest) pos) (MX ta tb):=by
 intro gV s σ H Pr Z so I E h;refine BoolOp_or (PP (ha gV s σ H Pr Z _ I E h) λv s1 q=>?_)
 obtain⟨H1,c,Z1,rfl,I1,E1,q1⟩:=EL.bl (so:=λc Z1=>if c=true then so (.d (.bl true)) Z1 else tb Z1 so) q
 refine wpAny_truthy_bool ?_
 cases c with
 |false=>exact hb gV s1 σ H1 Pr Z1 so I1 E1 q1
 |true=>exact⟨.bl true,H1,_,Z1,I1,rfl,E1.cons_d (.bl true),q1⟩
theorem Cb(ha:PL X a ta):PL X (.UnaryOp .Not a pos) (Ca (aW ta)):=by intro gV s σ H Pr Z so I E h;refine UnaryOp_ (PP (ha gV s σ H Pr Z _ I E h) λv s1 q=>?_);obtain⟨H1,c,Z1,rfl,I1,E1,q1⟩:=EL.bl (so:=λc Z1=>so (.d (.bl (!c))) Z1) q;exact not_of (wpAny_truthy_bool ⟨.bl (!c),H1,_,Z1,I1,rfl,E1.cons_d (.bl _),q1⟩)
def BA(t:W Bool)(ta tb:W L):W L:=λZ so=>t Z λc Z1=>if c=true then ta Z1 so else tb Z1 so
theorem lA(hc:PB X c tA)(ha:PL X a ta)(hb:PL X b tb):PL X (.IfExp c a b pos) (BA tA ta tb):=by
 intro gV s σ H Pr Z so I E h;refine wpAny_IfExp (PP (hc gV s σ H Pr Z _ I E h) λd s1 ⟨H1,Z1,I1,E1,q1⟩=>?_)
 cases d with
 |true=>exact ha gV s1 σ H1 Pr Z1 so I1 E1 q1
 |false=>exact hb gV s1 σ H1 Pr Z1 so I1 E1 q1
def QB(op:D->(L->Prop)->Prop)(t:W L):W L:=λZ so=>t Z λx Z1=>Qv x λdx=>op dx λr=>so r Z1
def ES:D->(L->Prop)->Prop
 |.int i,k=>k (.d (.int (-i)))
 |_,_=>False
theorem K6(ha:PL X a ta):PL X (.UnaryOp .USub a pos) (QB ES ta):=by
 intro gV s σ H Pr Z so I E h;refine UnaryOp_ (PP (ha gV s σ H Pr Z _ I E h) λv s1 q=>?_);obtain⟨x,H1,dx,Z1,I1,r1,E1,q1⟩:=EL.frz (so:=λdx Z1=>ES dx λr=>so r Z1) q;obtain⟨_,e1,p1⟩:=E1.head_d;cases e1
 cases p1 with
 | int i =>
  exact PP (KI gV s1 σ H1 _ v (λw H'=>w=.int (-i)/\H'=H1) I1 r1 ⟨i,rfl,rfl,rfl⟩) λu s2 ⟨w,H2,I2,r2,e1,e2⟩=>by subst e1 e2;exact⟨_,_,_,Z1,I2,r2,E1.tail.cons_d (.int _),q1⟩
 |_=>exact q1.elim
variable{st:Stmt}{sts:List Stmt}{t u:W Fl}
def cm:W Fl:=λZ so=>so .nx Z
def a5(t u:W Fl):W Fl:=λZ so=>t Z λf Z1=>match f with
 |.nx=>u Z1 so
 |f=>so f Z1
theorem a9:Qu X [] cm:=λ_ _ σ H Pr Z so I E h=>wpAny_execs_nil ⟨σ,H,Z,I,E,h⟩
theorem ah(h1:PM X st t)(h2:Qu X sts u):Qu X (st::sts) (a5 t u):=by
 intro gV s σ H Pr Z so I E h;refine wpAny_execs_cons (PP (h1 gV s σ H Pr Z _ I E h) λf s1 q=>?_)
 cases f with
 | next =>
  obtain⟨σ',H',Z',I',E',q⟩:=q;exact h2 gV s1 σ' H' Pr Z' so I' E' q
 |ret v=>exact q
 |brk=>exact q
 |cont=>exact q
theorem ao(h1:PM X st t):Qu X [st] t:=by
 intro gV s σ H Pr Z so I E h;refine wpAny_execs_cons (PP (h1 gV s σ H Pr Z _ I E h) λf s1 q=>?_)
 cases f with
 |next=>exact wpAny_execs_nil q
 |ret v=>exact q
 |brk=>exact q
 |cont=>exact q
def vJ(t:W L):W Fl:=λZ so=>t Z λ_ Z1=>so .nx Z1
theorem nQ{te:W L}(he:PL X e te)(hs:swapsWith e none pos.line X.env=pure false:=by rfl):PM X (.Expr e pos) (vJ te):=by intro gV s σ H Pr Z so I E h;exact wpAny_Expr_any (PP (he gV s σ H Pr Z _ I E h) λv s1 ⟨x,H1,r,Z1,I1,r1,E1,q1⟩=>⟨σ,H1,Z1,I1,E1.tail,q1⟩) I.quiet hs
def bN(t:W L):W Fl:=λZ so=>t Z λr Z1=>so (.rt r) Z1
theorem aF{te:W L}(he:PL X e te):PM X (.Return (some e) pos) (bN te):=by intro gV s σ H Pr Z so I E h;exact wpAny_Return_some (PP (he gV s σ H Pr Z _ I E h) λv s1 ⟨x,H1,r,Z1,I1,r1,E1,q1⟩=>⟨x,σ,H1,r,Z1,σ,I1,r1,E1,q1⟩)
def QC(c:W Bool)(t u:W Fl):W Fl:=λZ so=>c Z λb Z1=>if b=true then t Z1 so else u Z1 so
theorem cY{sa sb:List Stmt}(hc:PB X c tA)(ha:Qu X sa t)(hb:Qu X sb u):PM X (.If c sa sb pos) (QC tA t u):=by
 intro gV s σ H Pr Z so I E h;refine wpAny_If (PP (hc gV s σ H Pr Z _ I E h) λd s1 ⟨H1,Z1,I1,E1,q1⟩=>?_)
 cases d with
 |true=>exact ha gV s1 σ H1 Pr Z1 so I1 E1 q1
 |false=>exact hb gV s1 σ H1 Pr Z1 so I1 E1 q1
theorem aB.forget{K:PySem.W.Frag}{Pr H:Hp}{σ:St}{Z:Ev}(E:aB K Pr H σ Z)(i:Nat)(v:Option V):aB K Pr H (σ.set i v) (Z.set i .un):=by
 have hsub:(owns (Z.set i .un)).Sublist (owns Z):=by
  have:∀(Z:Ev)(i:Nat),(owns (Z.set i .un)).Sublist (owns Z):=by
   intro Z
   induction Z with
   |nil=>intro i;exact List.Sublist.refl _
   | cons l Z ih =>
    intro i
    cases i with
    | zero =>
     show(owns Z).Sublist (owns (l::Z));rw[aJ];exact List.sublist_append_right _ _
    | succ i =>
     show(owns (l::Z.set i .un)).Sublist (owns (l::Z));rw[aJ,aJ];exact(List.Sublist.refl _).append (ih i)
  exact this Z i
 exact⟨E.sub,E.nd.sublist hsub,λa h=>E.off a (hsub.subset h),Paired.set2 True.intro i E.sl⟩
theorem aB.store{K:PySem.W.Frag}{Pr H:Hp}{σ:St}{Z:Ev}{v:Option V}{l:L}(E:aB K Pr H (v::σ) (l::Z)){i:Nat}(hi:i<σ.length):aB K Pr H (σ.set i v) (Z.set i l):=by have E1:=E.forget (i+1) v;have E2:aB K Pr H (v::σ.set i v) (l::Z.set i .un):=E1;have hl:=E.tail.len;have E3:=E2.back (i:=i) (by rw[List.getElem?_set_self xL]) (by rw[List.getElem?_set_self hi]);rw[List.set_set]at E3;exact E3
def bD(i:Nat)(t:W L):W Fl:=λZ so=>t Z λr Z1=>so .nx (Z1.set i r)
theorem aC{i:Nat}{x:Str}{te:W L}{pos':Pos}(hN:X.N.Nodup)(hi:X.N[i]?=some x)(hx:PH X.env.scope x)(he:PL X e te)(hs:swapsWith e (some (.Name x pos')) pos.line X.env=pure false:=by rfl)(hf:X.fn x=true∨X.env.scope.names.lookup x=some .local:=by first|exact .inl rfl|exact .inr rfl|assumption) :
  PM X (.Assign [.Name x pos'] e pos) (bD i te):=by
 intro gV s σ H Pr Z so I E h;refine wpAny_Assign_Name (PP (he gV s σ H Pr Z _ I E h) λv s1 ⟨y,H1,r,Z1,I1,r1,E1,q1⟩=>?_) hs;exact mS I1 hN hi hx r1 (λs2 I2=>⟨_,H1,_,I2,E1.store (by rw[I1.len];exact(UA.mp hi).1),q1⟩) hf
end
theorem mV{a b:Ev}(h:a.Perm b):(owns a).Perm (owns b):=by
 induction h with
 |nil=>exact .refl _
 |cons x _ ih=>rw[aJ,aJ];exact ih.append_left _
 | swap x y l =>
  rw[aJ,aJ,aJ,aJ,<- List.append_assoc,<- List.append_assoc];exact List.Perm.append_right _ List.perm_append_comm
 |trans _ _ h1 h2=>exact h1.trans h2
theorem ET{a b:Ev}(h:a.Sublist b):(owns a).Sublist (owns b):=by
 induction h with
 |slnil=>exact .refl _
 |cons x _ ih=>rw[aJ];exact ih.trans (List.sublist_append_right _ _)
 |cons_cons x _ ih=>rw[aJ,aJ];exact(List.Sublist.refl _).append ih
def tL(K:PySem.W.Frag)(t:W L):TE:=λσ H Q=>∃Pr Z so,aB K Pr H σ Z/\t Z so/\∀v H' r Z',aB K Pr H' (some v::σ) (r::Z')->so r Z'->Q v H'
def tW(K:PySem.W.Frag)(t:W Fl):TS:=λD σ H=>∃Pr Z so,aB K Pr H σ Z/\t Z so/\(∀σ' H' Z',aB K Pr H' σ' Z'->so .nx Z'->D.nx σ' H')/\(∀σ' H' Z',aB K Pr H' σ' Z'->so .bk Z'->D.bk σ' H')/\(∀σ' H' Z',aB K Pr H' σ' Z'->so .ct Z'->D.ct σ' H') /\
 ∀v τ H' r Z',aB K Pr H' (some v::τ) (r::Z')->so (.rt r) Z'->D.rt v H'
noncomputable def QD(K:PySem.W.Frag)(t:W Bool):TT:=λσ H Q=>∃Pr Z so,aB K Pr H σ Z/\t Z so/\∀b H' Z',aB K Pr H' σ Z'->so b Z'->Q b H'
section
variable{X:Cx}{e a b:Expr}{es:List Expr}{pos:Pos}{st:Stmt}{sts:List Stmt}{t u:W Fl}
theorem PL.pe{t:W L}(h:PL X e t):PE X e (tL X.K t):=λgV s σ H Q I ⟨Pr,Z,so,E,ht,q⟩ =>
 PP (h gV s σ H Pr Z so I E ht) λu s1 ⟨v,H1,r,Z1,I1,rv,E1,p⟩=>⟨v,H1,I1,rv,q v H1 r Z1 E1 p⟩
theorem PB.pt{t:W Bool}(h:PB X e t):PT X e (QD X.K t):=λgV s σ H Q I ⟨Pr,Z,so,E,ht,q⟩ =>
 PP (h gV s σ H Pr Z so I E ht) λb s1 ⟨H1,Z1,I1,E1,p⟩=>⟨H1,I1,q b H1 Z1 E1 p⟩
theorem Qu.pss(h:Qu X sts t):PN X sts (tW X.K t):=λgV s σ H D I ⟨Pr,Z,so,E,ht,q1,q2,q3,q4⟩ =>
 PP (h gV s σ H Pr Z so I E ht) λf s1 q=>by
  cases f with
  |next=>obtain⟨σ',H',Z',I',E',p⟩:=q;exact⟨σ',H',I',q1 σ' H' Z' E' p⟩
  |brk=>obtain⟨σ',H',Z',I',E',p⟩:=q;exact⟨σ',H',I',q2 σ' H' Z' E' p⟩
  |cont=>obtain⟨σ',H',Z',I',E',p⟩:=q;exact⟨σ',H',I',q3 σ' H' Z' E' p⟩
  |ret u=>obtain⟨v,σ',H',r,Z',τ,I',rv,E',p⟩:=q;exact⟨v,σ',H',I',rv,q4 v τ H' r Z' E' p⟩
noncomputable def K7(K:PySem.W.Frag)(Pr:Hp)(so:Fl->Ev->Prop):Ko where
 nx:=λσ' H'=>∃Z',aB K Pr H' σ' Z'/\so .nx Z'
 rt:=λv H'=>∃τ r Z',aB K Pr H' (some v::τ) (r::Z')/\so (.rt r) Z'
 bk:=λσ' H'=>∃Z',aB K Pr H' σ' Z'/\so .bk Z'
 ct:=λσ' H'=>∃Z',aB K Pr H' σ' Z'/\so .ct Z'
theorem PM.of{ts:TS}(h:PS X st ts)(q:∀σ H Pr Z so,σ.length=X.N.length->aB X.K Pr H σ Z->t Z so->ts (K7 X.K Pr so) σ H):PM X st t:=λgV s σ H Pr Z so I E ht =>
 PP (h gV s σ H _ I (q σ H Pr Z so I.len E ht)) λf s1 q=>by
  cases f with
  |next=>obtain⟨σ',H',I',Z',E',p⟩:=q;exact⟨σ',H',Z',I',E',p⟩
  |brk=>obtain⟨σ',H',I',Z',E',p⟩:=q;exact⟨σ',H',Z',I',E',p⟩
  |cont=>obtain⟨σ',H',I',Z',E',p⟩:=q;exact⟨σ',H',Z',I',E',p⟩
  |ret u=>obtain⟨v,σ',H',I',rv,τ,r,Z',E',p⟩:=q;exact⟨v,σ',H',r,Z',τ,I',rv,E',p⟩
theorem aB.narrow{K:PySem.W.Frag}{Pr H1 H:Hp}{σ1 σ:St}{Z1 Z:Ev}(E1:aB K Pr H1 σ1 Z1)(E:aB K (br H1 Z1) H σ Z):aB K Pr H σ Z:=by
 refine⟨λb o e=>E.sub b o ?_,E.nd,λa ha=>?_,E.sl⟩
 . unfold br;rw[if_neg,E1.sub b o e];intro hm;have z:=E1.off b hm;rw[e]at z;cases z
 .
  have z:=E.off a ha;unfold br at z;by_cases hm:a∈owns Z1
  . exact E1.off a hm
  .
   rw[if_neg hm]at z
   cases q:Pr a with
   |none=>rfl
   |some o=>rw[E1.sub a o q]at z;cases z
def aI:W (List L):=λZ so=>so [] Z
def aq(t:W L)(r:W (List L)):W (List L):=λZ so=>t Z λx Z1=>r Z1 λxs Z2=>so (x::xs) Z2
def xv(i:Nat)(r:W (List L)):W (List L):=λZ so=>match Z[i]? with
 |some (.own _ _)=>r Z λxs Z2=>so (.un::xs) Z2
 |_=>False
theorem af:Qt X [] [] aI:=λ_ gV s σ H Pr Z so I E h=>Calls.spliced_nil ⟨[],H,[],Z,I,.nil,rfl,rfl,E,λk i e=>by simp at e,h⟩
theorem aa{bs:List (Option Nat)}{r:W (List L)}{t:W L}(ha:PL X e t)(hr:Qt X es bs r)(hs:starEach (e::es) X.env=(false,eval e X.env)::starEach es X.env:=by rfl):Qt X (e::es) (none::bs) (aq t r):=by
 intro pos gV s σ H Pr Z so I E h;rw[hs];show wpAny _ _ (spliced ((false,eval e X.env)::backTo pos (starEach es X.env))) _ _ s;refine Calls.spliced_cons (PP (ha gV s σ H Pr Z _ I E h) λu s1 ⟨x,H1,l,Z1,I1,r1,E1,q1⟩=>?_);refine PP (hr pos gV s1 σ H1 _ Z1 _ I1 E1.tail.wide q1) λus s2 ⟨vs,H2,ls,Z2,I2,r2,hl,hb,E2,hv,q2⟩=>?_;have E3:aB X.K Pr H2 (vs.map some++(some x::σ)) (ls++(l::Z2)):=aB.step (τ:=[some x]) (lam:=[l]) E1 rfl E2 (by simp[hl])
 have E4:aB X.K Pr H2 (some x::(vs.map some++σ)) (l::(ls++Z2)):=by
  have pm:(owns (ls++(l::Z2))).Perm (owns (l::(ls++Z2))):=mV List.perm_middle;have s1:=Paired.unapp (by simp[hl]) E3.sl;obtain⟨s1,s2⟩:=s1
  cases s2 with
  |cons q t=>exact⟨E3.sub,pm.nodup_iff.mp E3.nd,λa h=>E3.off a (pm.mem_iff.mpr h),.cons q (Paired.app s1 t)⟩
 refine⟨x::vs,H2,l::ls,Z2,I2,.cons r1 r2,by simp[hl],by simp[hb],E4,λk i e=>?_,q2⟩
 cases k with
 |zero=>simp at e
 |succ k=>simpa using hv k i (by simpa using e)
theorem d5(i:Nat){x:Str}{p:Pos}{bs:List (Option Nat)}{r:W (List L)}(hr:Qt X es bs r)(hN:X.N[i]?=some x:=by rfl)(hv:PF X.env.scope x:=by first | exact Or.inl rfl | exact Or.inr (Or.inl rfl) | exact Or.inr (Or.inr rfl)) (hd:(x == ("__debug__" : Str))=false:=by decide)
  (hcd:(x == ("__classdict__" : Str))=false:=by decide) (hs:starEach (.Name x p::es) X.env=(false,eval (.Name x p) X.env)::starEach es X.env:=by rfl):Qt X (.Name x p::es) (some i::bs) (xv i r):=by
 intro pos gV s σ H Pr Z so I E h;unfold xv at h
 cases q:Z[i]? with
 |none=>rw[q]at h;exact h.elim
 | some l =>
  rw[q]at h
  cases l with
  |un=>exact h.elim
  |d y=>exact h.elim
  |bx _ _=>exact h.elim
  |dic _ _=>exact h.elim
  | own a xs =>
   obtain⟨sv,hsl,sl⟩:=E.slot q;obtain⟨rfl,_⟩:=sl;rw[hs];show wpAny _ _ (spliced ((false,eval (.Name x p) X.env)::backTo pos (starEach es X.env))) _ _ s;refine Calls.spliced_cons (PP (gH hN hv hd hcd gV s σ H (λw H'=>w=.ref a/\H'=H) I ⟨.ref a,hsl,rfl,rfl⟩) λu s1 ⟨w,H1,I1,r1,e1,e2⟩=>?_);subst e1 e2;refine PP (hr pos gV s1 σ H1 Pr Z _ I1 E h) λus s2 ⟨vs,H2,ls,Z2,I2,r2,hl,hb,E2,hv,q2⟩=>?_;refine⟨.ref a::vs,H2,.un::ls,Z2,I2,.cons r1 r2,by simp[hl],by simp[hb],E2.cons_un,λk j e=>?_,q2⟩
   cases k with
   |zero=>simp at e;subst e;exact⟨rfl,.ref a,rfl,hsl⟩
   |succ k=>simpa using hv k j (by simpa using e)
def EU:List L->(List D->Prop)->Prop
 |[],k=>k []
 |.d x::r,k=>EU r λxs=>k (x::xs)
 |_::_,_=>False
theorem jP:∀{ls:List L}{k:List D->Prop},EU ls k->∃xs,ls=xs.map .d/\k xs
 |[],_,h=>⟨[],rfl,h⟩
 | .d x::r,k,h=>by obtain⟨xs,e,q⟩:=jP (ls:=r) h;exact⟨x::xs,by rw[e];rfl,q⟩
 |.un::_,_,h=>h.elim
 |.own _ _::_,_,h=>h.elim
theorem jQ{K:PySem.W.Frag}{Pr H:Hp}{σ:St}{Z:Ev}:∀{vs:List V}{xs:List D},vs.length=xs.length->aB K Pr H (vs.map some++σ) (xs.map .d++Z)->bA K H vs xs
 |[],[],_,_=>.nil
 | v::vs,x::xs,hl,E=>by obtain⟨w,e,r⟩:=aB.head_d (v:=some v) (x:=x) E;cases e;exact .cons r (jQ (by simpa using hl) (aB.tail (v:=some v) (l:=.d x) E))
 |[],_::_,hl,_=>by simp at hl
 |_::_,[],hl,_=>by simp at hl
def nJ(t:W (List L)):W L:=λZ so=>t Z λls Z1=>EU ls λxs=>xs.length<=sizeLine/\so (.d (.tup xs)) Z1
def r6(t:W (List L)):W L:=λZ so=>t Z λls Z1=>EU ls λxs=>xs.length<=sizeLine/\∀a,so (.own a xs) Z1
theorem bQ {x1} {bs:List (Option Nat)} {t:W (List L)} (h:Qt X es bs t):PL X (.Tuple es x1 pos) (nJ t):=by
 intro gV s σ H Pr Z so I E hq;refine wpAny_Tuple_spliced (PP (h pos gV s σ H Pr Z _ I E hq) λus s1 ⟨vs,H1,ls,Z1,I1,r,hl,hb,E1,hv,q⟩=>?_);obtain⟨xs,rfl,z,q⟩:=jP q;have p4:vs.length=xs.length:=by simpa using hl
 refine⟨by rw[<- r.length,p4];exact z,?_⟩;have hf:H1 s1.heap.objs.size=none:=I1.hok.fresh (UJ _);refine⟨.ref s1.heap.objs.size,Pv H1 s1.heap.objs.size (.tup vs),_,Z1,I1.laid (t':=s1.toks) (λb u e=>Uy _ e) (UJ _) ?_,rfl,(E1.drop (by simp[p4])).cons_tup hf (jQ p4 E1),q⟩;exact⟨by rw[p4];exact z,us,r,⟨_,Heap.get?_push_size _ rfl,rfl,_,rfl⟩⟩
theorem dB{bs:List (Option Nat)}{t:W (List L)}(h:Qt X es bs t):PL X (.List es pos) (r6 t):=by
 intro gV s σ H Pr Z so I E hq;refine wpAny_List_spliced (PP (h pos gV s σ H Pr Z _ I E hq) λus s1 ⟨vs,H1,ls,Z1,I1,r,hl,hb,E1,hv,q⟩=>?_);obtain⟨xs,rfl,z,q⟩:=jP q;have p4:vs.length=xs.length:=by simpa using hl
 refine⟨by rw[<- r.length,p4];exact z,?_⟩;have hf:H1 s1.heap.objs.size=none:=I1.hok.fresh (UJ _);refine⟨.ref s1.heap.objs.size,Pv H1 s1.heap.objs.size (.lst vs),_,Z1,I1.laid (t':=s1.toks) (λb u e=>Uy _ e) (UJ _) ?_,rfl,(E1.drop (by simp[p4])).cons_own hf (jQ p4 E1),q _⟩;exact⟨by rw[p4];exact z,us,0,r,Heap.get?_push_size _ rfl⟩
abbrev FS:=List L->(L->List L->Prop)->Prop
noncomputable def spF(K:PySem.W.Frag)(n:Nat)(fs:FS):Sp:=λvs H Q _=>vs.length=n/\∃Pr ls so,aB K Pr H (vs.map some) ls/\fs ls so/\∀v H' r ls',aB K Pr H' (some v::vs.map some) (r::ls')->so r ls'->Q v H'
theorem aB.swap{K:PySem.W.Frag}{Pr H:Hp}{σ τ:St}{Z lam:Ev}(hl:τ.length=lam.length)(E:aB K Pr H (τ++σ) (lam++Z)):aB K Pr H (σ++τ) (Z++lam):=by have pm:(owns (lam++Z)).Perm (owns (Z++lam)):=mV List.perm_append_comm;obtain⟨s1,s2⟩:=Paired.unapp hl E.sl;exact⟨E.sub,pm.nodup_iff.mp E.nd,λa h=>E.off a (pm.mem_iff.mpr h),Paired.app s2 s1⟩
theorem G0{K:PySem.W.Frag}{Pr H H':Hp}{σ τ:St}{Z ls ls':Ev}{v:Option V}{r:L}(hl:τ.length=ls.length)(E:aB K Pr H (τ++σ) (ls++Z))(E':aB K (br H ls) H' (v::τ) (r::ls')):aB K Pr H' (v::(τ++σ)) (r::(ls'++Z)):=by
 have hρ:σ.length=Z.length:=(E.drop hl).len;have z:=aB.step (τ:=σ) (σ:=τ) (lam:=Z) (Z:=ls) (w:=[v]) (μ:=[r]) (E.swap hl) hρ E' rfl;have hl':τ.length=ls'.length:=by have:=E'.len;simpa using this
 obtain⟨s1,s2⟩:=Paired.unapp (a:=[v]) (b:=[r]) rfl z.sl;obtain⟨s2,s3⟩:=Paired.unapp hρ s2;have pm:(owns ([r]++(Z++ls'))).Perm (owns (r::(ls'++Z))):=mV (List.Perm.cons r (List.perm_append_comm (l₁:=Z) (l₂:=ls')));exact⟨z.sub,pm.nodup_iff.mp z.nd,λa h=>z.off a (pm.mem_iff.mpr h),Paired.app s1 (Paired.app s3 s2)⟩
def aD(fs:FS)(t:W (List L)):W L:=λZ so=>t Z λls Z1=>fs ls λr _=>so r Z1
def fV(fs:FS)(k i:Nat)(t:W (List L)):W L:=λZ so=>t Z λls Z1=>match Z1[i]? with
 |some (.own a xs)=>fs (ls.set k (.own a xs)) λr ls'=>∃ys,ls'[k]?=some (.own a ys)/\so r (Z1.set i (.own a ys))
 |_=>False
section
variable{CX:Qa}{k n:Nat}{f:Addr}{fd:FuncData}{ps:List Str}{fs:FS}{E:XK}{x:Str}{p:Pos}{bs:List (Option Nat)}{t:W (List L)}
theorem aB.drop1{K:PySem.W.Frag}{Pr H:Hp}{σ τ:St}{Z lam:Ev}{v:Option V}{r:L}(hl:τ.length=lam.length)(E:aB K Pr H (v::(τ++σ)) (r::(lam++Z))):aB K Pr H (v::σ) (r::Z):=by obtain⟨s1,s2⟩:=Paired.unapp (a:=[v]) (b:=[r]) rfl E.sl;obtain⟨s2,s3⟩:=Paired.unapp hl s2;have sb:(owns (r::Z)).Sublist (owns (r::(lam++Z))):=ET (List.Sublist.cons_cons r (List.sublist_append_right _ _));exact⟨E.sub,E.nd.sublist sb,λa h=>E.off a (sb.subset h),Paired.app s1 s3⟩
theorem Iq(F:FnOk X.prog X.w X.K X.mg X.base CX k f fd ps (spF X.K n fs))(hr:gI k X.A)(hg:Gl X x)(hm:X.mg x=some (.ref f))(hk:PySem.W.keepIn X.K (.ref f)=true)(hb:nN X.K fd ps [])(hx:zi CX X E)
  (ha:Qt X (e::es) bs t) (hn:bs.length=n) (hdb:(x == ("__debug__" : Str))=false:=by decide) (he:starEach (e::es) X.env=(false,eval e X.env)::starEach es X.env:=by rfl) (hpl:(backTo pos (starEach es X.env)).any (·.1)=false:=by rfl) :
  PL X (.Call (.Name x p) (e::es) [] pos) (aD fs t):=by
 intro gV s σ H Pr Z so I E0 h;refine wpAny_Call_Name_kw (jH I hg hm ?_ hdb);refine PySem.W.callWith_K (h₀:=X.base) I.ok.mod.kin hk (PP (ha pos gV s σ H Pr Z _ I E0 h) λus s1 ⟨vs,H1,ls,Z1,I1,r,hl,hbl,E1,hv,q⟩=>⟨I1.kIn,?_⟩) he hpl;have hl':(vs.map some).length=ls.length:=by simp[hl]
 refine PP (BW (Q:=λv H'=>∃r Z',aB X.K Pr H' (some v::σ) (r::Z')/\so r Z') F hr hb .nil hx I1 r ?_) λu s2 ⟨v,H2,I2,rv,r,Z',E2,p⟩=>⟨v,H2,r,Z',I2,rv,E2,p⟩;rw[List.append_nil];refine⟨hbl.trans hn,br H1 ls,ls,_,(E1.left hl').wide,q,λv H' r ls' E2 p=>⟨r,Z1,?_,p⟩⟩;have z:=G0 hl' E1 E2;have hl2:(vs.map some).length=ls'.length:=by have:=E2.len;simpa using this
 exact z.drop1 hl2
theorem EV(F:FnOk X.prog X.w X.K X.mg X.base CX k f fd ps (spF X.K n fs))(hr:gI k X.A)(hg:Gl X x)(hm:X.mg x=some (.ref f))(hk:PySem.W.keepIn X.K (.ref f)=true)(hb:nN X.K fd ps [])(hx:zi CX X E)
  (j i:Nat) (ha:Qt X (e::es) bs t) (hj:bs[j]?=some (some i)) (hn:bs.length=n) (hdb:(x == ("__debug__" : Str))=false:=by decide) (he:starEach (e::es) X.env=(false,eval e X.env)::starEach es X.env:=by rfl) (hpl:(backTo pos (starEach es X.env)).any (·.1)=false:=by rfl) :
  PL X (.Call (.Name x p) (e::es) [] pos) (fV fs j i t):=by
 intro gV s σ H Pr Z so I E0 h;refine wpAny_Call_Name_kw (jH I hg hm ?_ hdb);refine PySem.W.callWith_K (h₀:=X.base) I.ok.mod.kin hk (PP (ha pos gV s σ H Pr Z _ I E0 h) λus s1 ⟨vs,H1,ls,Z1,I1,r,hl,hbl,E1,hv,q⟩=>⟨I1.kIn,?_⟩) he hpl;have hl':(vs.map some).length=ls.length:=by simp[hl]
 refine PP (BW (Q:=λv H'=>∃r Z',aB X.K Pr H' (some v::σ) (r::Z')/\so r Z') F hr hb .nil hx I1 r ?_) λu s2 ⟨v,H2,I2,rv,r,Z',E2,p⟩=>⟨v,H2,r,Z',I2,rv,E2,p⟩;rw[List.append_nil];dsimp only at q
 cases qi:Z1[i]? with
 |none=>rw[qi]at q;exact q.elim
 | some l =>
  rw[qi]at q
  cases l with
  |un=>exact q.elim
  |d y=>exact q.elim
  |bx _ _=>exact q.elim
  |dic _ _=>exact q.elim
  | own a xs =>
   obtain⟨hun,w,hw,hσ⟩:=hv j i hj;obtain⟨sv,hs2,rfl,_⟩:=(E1.drop hl').slot qi;rw[hσ]at hs2;cases hs2;have hjl:j<ls.length:=(UA.mp hun).1;have hjv:j<vs.length:=by omega
   have hil:i<Z1.length:=(UA.mp qi).1;have E2:=E1.out (i:=ls.length+i) (a:=a) (xs:=xs) (by rw[List.getElem?_append_right xL];simpa using qi);rw[List.set_append_right _ _ xL,Nat.add_sub_cancel_left]at E2;have E3:=E2.back (i:=j) (by rw[List.getElem?_append_left hjl];exact hun) (by rw[List.getElem?_append_left (by simp;omega)];simp[hw]);rw[List.set_append_left _ _ hjl]at E3;have hl3:(vs.map some).length=(ls.set j (.own a xs)).length:=by simp[hl]
   refine⟨hbl.trans hn,br H1 (ls.set j (.own a xs)),_,_,(E3.left hl3).wide,q,λv H' r ls' E4 p=>?_⟩;obtain⟨ys,hys,p⟩:=p;refine⟨r,Z1.set i (.own a ys),?_,p⟩;have z:=G0 hl3 E3 E4;have hl4:(vs.map some).length=ls'.length:=by have:=E4.len;simpa using this
   have hjl':j<ls'.length:=by simp at hl4;omega
   have z1:=z.out (i:=1+j) (a:=a) (xs:=ys) (by rw[Nat.add_comm];simp only[List.getElem?_cons_succ];rw[List.getElem?_append_left hjl'];exact hys);rw[Nat.add_comm 1 j,List.set_cons_succ,List.set_append_left _ _ hjl']at z1
   have z2:=z1.back (i:=(1+ls'.length)+i) (by
    rw[Nat.add_comm 1,Nat.add_right_comm,List.getElem?_cons_succ,List.getElem?_append_right v6]
    simp[hil]) (by
    rw[Nat.add_comm 1,Nat.add_right_comm,List.getElem?_cons_succ,List.getElem?_append_right (by simp at hl4 ⊢;omega)];simp at hl4 ⊢;rw[<- hl4,Nat.add_sub_cancel_left]
    exact hσ)
   rw[Nat.add_comm 1,Nat.add_right_comm,List.set_cons_succ,List.set_append_right _ _ v6]at z2;simp only[List.length_set,Nat.add_sub_cancel_left,List.set_set]at z2;exact z2.drop1 (by simp at hl4 ⊢;exact hl4)
end
end
def xw(Z:Ev):List L->List L->Prop:=Paired λl l'=>match l with
 |.own a _=>(∃ys,l'=.own a ys/\L.own a ys∈Z)∨l'=.un
 |.bx _ _=>l'=.un
 |.dic _ _=>l'=.un
 |l=>l'=l
def aR(ls:List L)(so:L->List L->Prop):Fl->Ev->Prop:=λf Z=>match f with
 |.rt r=>∃ls',xw Z ls ls'/\so r ls'
 |.nx=>∃ls',xw Z ls ls'/\so (.d .non) ls'
 |_=>False
theorem xw.owns{Z:Ev}:∀{ls ls':List L},xw Z ls ls'->(owns ls').Sublist (owns ls)
 |_,_,.nil=>.refl _
 | l::ls,l'::ls',.cons h t=>by
  have ih:=xw.owns t;rw[aJ,aJ]
  cases l with
  | own a xs =>
   rcases h with⟨ys,rfl,_⟩|rfl
   . exact(List.Sublist.refl _).append ih
   . exact ih.trans (List.sublist_append_right _ _)
  |un=>have e:l'=.un:=h;subst e;exact(List.Sublist.refl _).append ih
  |d x=>have e:l'=.d x:=h;subst e;exact(List.Sublist.refl _).append ih
  |bx k ms=>have e:l'=.un:=h;subst e;exact ih.trans (List.sublist_append_right _ _)
  |dic k ms=>have e:l'=.un:=h;subst e;exact ih.trans (List.sublist_append_right _ _)
theorem xw.sub{Z:Ev}:∀{ls ls':List L},xw Z ls ls'->∀a∈L2.owns ls',a∈L2.owns Z
 |_,_,.nil=>λa ha=>by simp[L2.owns]at ha
 | l::ls,l'::ls',.cons h t=>λa ha=>by
  have ih:=xw.sub t;rw[aJ]at ha;rcases List.mem_append.mp ha with z|z
  .
   cases l with
   | own b xs =>
    rcases h with⟨ys,rfl,hm⟩|rfl
    .
     have e:a=b:=by simpa[a8]using z
     subst e;exact Ih hm
    . simp[a8]at z
   |un=>have e:l'=.un:=h;subst e;simp[a8]at z
   |d x=>have e:l'=.d x:=h;subst e;simp[a8]at z
   |bx k ms=>have e:l'=.un:=h;subst e;simp[a8]at z
   |dic k ms=>have e:l'=.un:=h;subst e;simp[a8]at z
  . exact ih a z
theorem pM{K:PySem.W.Frag}{Pr H H':Hp}{σ τ:St}{ls ls' Z:Ev}{v:Option V}{r:L}(E:aB K Pr H σ ls)(E':aB K (br H ls) H' (v::τ) (r::Z))(B:xw Z ls ls'):aB K Pr H' (v::σ) (r::ls'):=by
 have E1:=E.narrow E';have p:vh H H':=t7 E E'.sub;have sub:=B.sub;have nd1:(owns ls').Nodup:=E.nd.sublist B.owns;refine⟨E1.sub,?_,λa ha=>?_,?_⟩
 . have nd:=E'.nd;rw[aJ]at nd ⊢;obtain⟨n1,n2,n3⟩:=List.nodup_append.mp nd;exact List.nodup_append.mpr ⟨n1,nd1,λa ha b hb=>n3 a ha b (sub b hb)⟩
 .
  rw[aJ]at ha;refine E1.off a ?_;rw[aJ];rcases List.mem_append.mp ha with z|z
  . exact List.mem_append_left _ z
  . exact List.mem_append_right _ (sub a z)
 .
  have s1:=E'.sl
  cases s1 with
  | cons q t =>
   refine .cons q ?_;have sl:=E.sl;clear E E' E1 nd1 sub
   induction B generalizing σ with
   |nil=>cases sl;exact .nil
   | cons h u ih =>
    rename_i l l' _ _
    cases sl with
    | cons s0 s2 =>
     refine .cons ?_ (ih s2)
     cases l with
     | own a xs =>
      rcases h with⟨ys,rfl,hm⟩|rfl
      . obtain⟨e,_⟩:=s0;obtain⟨_,_,_,z⟩:=Paired.mem2 t hm;exact⟨e,z⟩
      . unfold a6;exact True.intro
     |un=>have e:l'=.un:=h;subst e;unfold a6;exact True.intro
     |bx k ms=>have e:l'=.un:=h;subst e;unfold a6;exact True.intro
     |dic k ms=>have e:l'=.un:=h;subst e;unfold a6;exact True.intro
     | d x =>
      have e:l'=.d x:=h;subst e;obtain⟨w,e,r⟩:=s0;exact⟨w,e,r.pres p⟩
section
variable{P:Program}{w:World}{K:PySem.W.Frag}{mg:Str->Option Value}{base:Heap}
theorem aB.uns{K:PySem.W.Frag}{Pr H:Hp}{σ:St}{Z:Ev}(E:aB K Pr H σ Z):∀n,aB K Pr H (σ++List.replicate n none) (Z++List.replicate n .un):=λn=>by
 have e:owns (Z++List.replicate n .un)=owns Z:=by
  rw[aE]
  have:owns (List.replicate n L.un)=[]:=by
   induction n with
   |zero=>rfl
   |succ n ih=>rw[List.replicate_succ,oR];exact ih
  rw[this,List.append_nil]
 refine⟨E.sub,by rw[e];exact E.nd,λa h=>E.off a (by rw[e]at h;exact h),Paired.app E.sl ?_⟩
 induction n with
 |zero=>exact .nil
 | succ n ih =>
  rw[List.replicate_succ,List.replicate_succ];refine .cons True.intro (ih ?_)
  have:owns (List.replicate n L.un)=[]:=by
   clear ih e
   induction n with
   |zero=>rfl
   |succ n ih=>rw[List.replicate_succ,oR];exact ih
  rw[aE,this,List.append_nil]
theorem bf{x qual:Str}{st:Stmt}{f:Addr}{fd:FuncData}{N ps:List Str}{k:Nat}{fs:FS}(F:Qq K x qual st f fd)(S:az N ps (ak st))(t:W Fl)
  (hbody:∀(cdv:Value)(A:Around)(outer:List Env)(s:Shared)(H:Hp)(E:XK),gI k (A.deeper (envOfC qual (ak st) s.heap.objs.size f cdv))->Qu (Eg CX0 P w K mg base N qual (ak st) f cdv A outer s H E).nox (cX st) t)
  (h:∀ls so,ls.length=ps.length->fs ls so->t (ls++List.replicate (N.length-ps.length) .un) (aR ls so)):FnOk P w K mg base CX0 (k+1) f fd ps (spF K ps.length fs):=by
 refine F.ok S (λvs H Q E q=>q.1) (λcdv A outer s H vs Q E hr q=>?_);obtain⟨hl,Pr,ls,so,E0,hf,q⟩:=q;refine⟨_,(hbody cdv A outer s H E hr).pss,br H ls,ls++List.replicate (N.length-ps.length) .un,aR ls so,?_,h ls so (by rw[<- hl];have:=E0.len;simpa using this.symm) hf,λσ' H' Z' E' p=>?_,λ_ _ _ _ p=>p.elim,λ_ _ _ _ p=>p.elim,λv τ H' r Z' E' p=>?_⟩
 . unfold nO;rw[hl];exact E0.wide.uns _
 . obtain⟨ls',B,p⟩:=p;exact q .non H' (.d .non) ls' (pM E0 (E'.cons_d .non) B) p
 . obtain⟨ls',B,p⟩:=p;exact q v H' r ls' (pM E0 E' B) p
end
theorem aO{Z:Ev}:xw Z [] []:=.nil
theorem ai{Z:Ev}{x:D}{a b:List L}(t:xw Z a b):xw Z (.d x::a) (.d x::b):=.cons rfl t
theorem t9{Z:Ev}{p:Addr}{xs ys:List D}{a b:List L}(h:L.own p ys∈Z)(t:xw Z a b):xw Z (.own p xs::a) (.own p ys::b):=.cons (.inl ⟨ys,rfl,h⟩) t
section
variable{X:Cx}{e a b c tg:Expr}{es:List Expr}{pos:Pos}{tA:W Bool}{t u:W Fl}
def zr(c:W Bool)(b:W Fl):W Fl:=λZ so=>∃J:Nat->Ev->Prop,(∃n,J n Z)/\∀n Z,J n Z->c Z λt Z1=>if t=true then b Z1 λf Z2=>(match f with
 |.nx=>∃m,m<n/\J m Z2
 |.ct=>∃m,m<n/\J m Z2
 |.bk=>so .nx Z2
 |.rt r=>so (.rt r) Z2)else so .nx Z1
theorem ua{body:List Stmt}(hp:PassesOwn (model X.prog X.w) X.A X.env X.xe)(hc:PB X c tA)(hb:Qu X body t):PM X (.While c body [] pos) (zr tA t):=by
 refine PM.of (Eo hp hc.pt hb.pss) λσ H Pr Z so p4 E h=>?_;obtain⟨J,⟨n0,j0⟩,turn⟩:=h;refine⟨λn σ H=>∃Z,aB X.K Pr H σ Z/\J n Z,⟨n0,Z,E,j0⟩,λn σ1 H1 ⟨Z1,E1,j1⟩=>⟨Pr,Z1,_,E1,turn n Z1 j1,λb H2 Z2 E2 q=>?_⟩⟩
 cases b with
 |false=>exact⟨Z2,E2,q⟩
 | true =>
  refine⟨λσ' H'=>∃Z' m,aB X.K Pr H' σ' Z'/\m<n/\J m Z',λσ' H' ⟨Z',m,E',hm,j⟩=>⟨m,hm,Z',E',j⟩,Pr,Z2,_,E2,q,λσ' H' Z' E' ⟨m,hm,j⟩=>⟨Z',m,E',hm,j⟩,λσ' H' Z' E' p=>⟨Z',E',p⟩,λσ' H' Z' E' ⟨m,hm,j⟩=>⟨Z',m,E',hm,j⟩,λv τ H' r Z' E' p=>⟨τ,r,Z',E',p⟩⟩
abbrev Tg:=D->Ev->(Ev->Prop)->Prop
def QE(X:Cx)(tg:Expr)(g:Tg):Prop:=∃gg:TG,PG X tg gg/\∀v σ H Pr Z x k,σ.length=X.N.length->aB X.K Pr H σ Z->Qs X.K H v x->g x Z k->gg v σ H λσ' H'=>H'=H/\σ'.length=X.N.length/\∃Z',aB X.K Pr H σ' Z'/\k Z'
def bu(i:Nat):Tg:=λx Z k=>k (Z.set i (.d x))
theorem fg{i:Nat}{x:Str}(hN:X.N.Nodup)(hi:X.N[i]?=some x)(hx:PH X.env.scope x)(hf:X.fn x=true∨X.env.scope.names.lookup x=some .local:=by first|exact .inl rfl|exact .inr rfl|assumption):QE X (.Name x pos) (bu i) :=
 ⟨_,tY hN hi hx hf,λv σ H Pr Z x k hl E r h=>⟨rfl,by simpa using hl,_,(E.cons_d r).store (by rw[hl];exact(UA.mp hi).1),h⟩⟩
def iS:List Nat->List D->Ev->(Ev->Prop)->Prop
 |[],[],Z,k=>k Z
 |i::is,x::xs,Z,k=>iS is xs (Z.set i (.d x)) k
 |_,_,_,_=>False
def QF(X:Cx)(es:List Expr)(is:List Nat):Prop:=∃gg:PX,PY X es gg/\es.length=is.length/\∀vs σ H Pr Z xs k,σ.length=X.N.length->aB X.K Pr H σ Z->bA X.K H vs xs->iS is xs Z k->gg vs σ H λσ' H'=>H'=H/\σ'.length=X.N.length/\∃Z',aB X.K Pr H σ' Z'/\k Z'
theorem fW:QF X [] []:=⟨_,BL,rfl,λvs σ H Pr Z xs k hl E r h=>by
 cases r with
 |nil=>exact⟨rfl,rfl,hl,Z,E,h⟩
 |cons _ _=>exact h.elim⟩
theorem aU{i:Nat}{is:List Nat}{x:Str}(hN:X.N.Nodup)(hi:X.N[i]?=some x)(hx:PH X.env.scope x)(hr:QF X es is)(hf:X.fn x=true∨X.env.scope.names.lookup x=some .local:=by first|exact .inl rfl|exact .inr rfl|assumption)
  (hs:(assignEach (.Name x pos::es) X.env).map (·.2)=assign (.Name x pos) X.env::(assignEach es X.env).map (·.2):=by rfl):QF X (.Name x pos::es) (i::is):=by
 obtain⟨gg,hg,p4,q⟩:=hr;refine⟨_,zg (tY hN hi hx hf) hg hs,by simp[p4],λvs σ H Pr Z xs k hl E r h=>?_⟩
 cases r with
 |nil=>exact h.elim
 | cons r0 t =>
  refine⟨_,_,rfl,?_⟩;exact q _ _ H Pr _ _ k (by simpa using hl) ((E.cons_d r0).store (by rw[hl];exact(UA.mp hi).1)) t h
def cn(is:List Nat):Tg:=λx Z k=>match x with
 |.tup xs=>iS is xs Z k
 |_=>False
theorem l8:∀{is:List Nat}{xs:List D}{Z:Ev}{k:Ev->Prop},iS is xs Z k->xs.length=is.length
 |[],[],_,_,_=>rfl
 |_::is,_::xs,_,_,h=>by simp[l8 (is:=is) (xs:=xs) h]
 |[],_::_,_,_,h=>h.elim
 |_::_,[],_,_,h=>h.elim
theorem jR{is:List Nat}{k:Nat}(hc:X.calm=true)(h:QF X es is)(hn:(assignEach es X.env).length=is.length:=by rfl)(hst:(assignEach es X.env).findIdx? (·.1)=none:=by rfl):QE X (.Tuple es k pos) (cn is):=by
 obtain⟨gg,hg,p4,q⟩:=h;refine⟨_,GU hc hg hn hst,λv σ H Pr Z x k hl E r h=>?_⟩
 cases r with
 |tup hs rs=>exact⟨_,_,rfl,hs,by rw[rs.length];exact l8 h,q _ σ H Pr Z _ k hl E rs h⟩
 |_=>exact h.elim
def d6(g:Tg)(b:W Fl):List D->W Fl
 |[]=>λZ so=>so .nx Z
 | x::xs=>λZ so=>g x Z λZ1=>b Z1 λf Z2=>match f with
  |.nx=>d6 g b xs Z2 so
  |.ct=>d6 g b xs Z2 so
  |.bk=>so .nx Z2
  |.rt r=>so (.rt r) Z2
def l9:D->(List D->Prop)->Prop
 |.lst xs,k=>k xs
 |.tup xs,k=>k xs
 |_,_=>False
def K8(H H':Hp):Prop:=H'=H∨∃p o,H p=none/\H'=Pv H p o
theorem aB.grown{K:PySem.W.Frag}{Pr H H':Hp}{σ:St}{Z:Ev}(E:aB K Pr H σ Z)(g:K8 H H'):aB K Pr H' σ Z:=by
 rcases g with rfl|⟨p,o,h,rfl⟩
 . exact E
 . exact E.new h
def AM(K:PySem.W.Frag)(H:Hp)(J:It)(xs:List D):Prop:=∀H',vh H H' ->
 (∀i x,xs[i]?=some x->J.go i H'/\∀v H2,J.yld i H' v H2->K8 H' H2/\Qs K H2 v x)/\J.stop xs.length H'
def EI(X:Cx)(gV:List (Addr×Obj))(σ:St)(tg:Expr)(Pr:Hp)(so:List D->Ev->Prop)(itv:Value)(s2:Shared):Prop :=
 ∃(it:Addr)(fp:List Addr)(tn:Nat->Heap->Prop)(J:It)(H':Hp)(xs:List D)(Z':Ev),itv=.ref it/\PJ X gV σ H' s2/\HN X.prog X.w X.K tg J fp it tn/\tn 0 s2.heap/\(∀b∈fp,BM X gV H' b)/\aB X.K Pr H' σ Z'/\AM X.K H' J xs/\so xs Z'
def QG(X:Cx)(tg iter:Expr)(w:W (List D)):Prop :=
 ∀(gV:List (Addr×Obj))(s:Shared)(σ:St)(H Pr:Hp)(Z:Ev)(so:List D->Ev->Prop),PJ X gV σ H s->aB X.K Pr H σ Z->w Z so ->
  wpAny (model X.prog X.w) X.A (eval iter X.env) (λv s1=>wpAny (model X.prog X.w) X.A (pyIter v) (EI X gV σ tg Pr so) X.xe s1) X.xe s
def ub(t:W L):W (List D):=λZ so=>t Z λr Z1=>Qv r λx=>l9 x λxs=>so xs Z1
theorem AN{K:PySem.W.Frag}{H:Hp}{a:Addr}{vs:List V}{xs:List D}(h:Qr K H a vs)(r:bA K H vs xs):AM K H (P0 K a) xs:=λH' p=>by have h':=(h.pres p).l;refine⟨λi x e=>?_,⟨vs,h',by rw[r.length];exact UJ _⟩⟩;obtain⟨v,ev,rv⟩:=r.get e;refine⟨⟨vs,v,h',ev⟩,λw H2 ⟨e1,e2⟩=>?_⟩;have e3:=e2 vs h';rw[ev]at e3;cases e3;subst e1;exact⟨.inl rfl,rv.pres p⟩
theorem Cc{K:PySem.W.Frag}{H:Hp}{a:Addr}{vs:List V}{xs:List D}(h:PV K H a vs)(r:bA K H vs xs):AM K H (P1 K a) xs:=λH' p=>by have h':=h.pres p;refine⟨λi x e=>?_,⟨vs,h',by rw[r.length];exact UJ _⟩⟩;obtain⟨v,ev,rv⟩:=r.get e;refine⟨⟨vs,v,h',ev⟩,λw H2 ⟨e1,e2⟩=>?_⟩;have e3:=e2 vs h';rw[ev]at e3;cases e3;subst e1;exact⟨.inl rfl,rv.pres p⟩
theorem cq{t:W L}(h:PL X e t):QG X tg e (ub t):=by
 intro gV s σ H Pr Z so I E ht;refine PP (h gV s σ H Pr Z _ I E ht) λu s1 q=>?_;obtain⟨v,H1,x,Z1,I1,r1,E1,q2⟩:=EL.frz (so:=λx Z1=>l9 x λxs=>so xs Z1) q;obtain⟨_,e1,p⟩:=E1.head_d;cases e1
 cases p with
 | lst hz rs =>
  cases r1;obtain⟨its,rv,pl,hz'⟩:=I1.list hz.l;refine wpAny_pyIter_list pl.isList ?_;refine⟨s1.heap.objs.size,[s1.heap.objs.size],_,_,H1,_,Z1,rfl,I1.kept (t':=s1.toks) λb o e=>Uy _ e,BN _ _,⟨_,Heap.get?_push_size _ rfl,rfl,rfl⟩,λb hb=>?_,E1.tail,AN hz rs,q2⟩;have e:b=s1.heap.objs.size:=by simpa using hb
  subst e;exact I1.fpOk (UJ _) (I1.hok.fresh (UJ _))
 | tup hz rs =>
  cases r1;obtain⟨its,rv,pl,hz'⟩:=I1.tuple hz;refine wpAny_pyIter_tuple (show s1.heap.IsTuple _ its.toArray from pl) ?_;refine⟨s1.heap.objs.size,[s1.heap.objs.size],_,_,H1,_,Z1,rfl,I1.kept (t':=s1.toks) λb o e=>Uy _ e,Ax _ _,⟨_,Heap.get?_push_size _ rfl,rfl,rfl⟩,λb hb=>?_,E1.tail,Cc hz rs,q2⟩;have e:b=s1.heap.objs.size:=by simpa using hb
  subst e;exact I1.fpOk (UJ _) (I1.hok.fresh (UJ _))
 |_=>exact q2.elim
noncomputable def rW(lo:Int)(n:Nat):List D:=(List.range n).map λ(i:Nat)=>.int (lo+(i:Int))
theorem vK{K:PySem.W.Frag}{H:Hp}(lo:Int)(n:Nat):AM K H (P2 lo n) (rW lo n):=λH' p=>by
 refine⟨λi x e=>?_,?_⟩
 .
  have hi:i<n:=by have:=(UA.mp e).1;simpa[rW]using this
  refine⟨hi,λv H2 ⟨e1,e2⟩=>?_⟩;subst e1 e2;have:x=.int (lo+(i:Int)):=by unfold rW at e;rw[List.getElem?_map,List.getElem?_range hi]at e;simpa using e.symm
  subst this;exact⟨.inl rfl,.int _⟩
 . show n<=(rW lo n).length;simp[rW]
def mW:L->(Int->Prop)->Prop
 |.d (.int i),k=>k i
 |_,_=>False
theorem dC{r:L}{k:Int->Prop}(h:mW r k):∃i,r=.d (.int i)/\k i:=by
 cases r with
 | d x=>cases x with
  |int i=>exact⟨i,rfl,h⟩
  |_=>exact h.elim
 |_=>exact h.elim
def Cd(j:Int):Prop:=-(2^62)<=j/\j<2^62
def r9(t:W L):W (List D):=λZ so=>t Z λr Z1=>mW r λj=>Cd j/\so (rW 0 j.toNat) Z1
def Ir(t u:W L):W (List D):=λZ so=>t Z λr Z1=>mW r λi=>u Z1 λr Z2=>mW r λj=>Cd i/\Cd j/\so (rW i (j-i).toNat) Z2
theorem gK{t:W L}{p pos:Pos} (hg:Gl X "range") (hm:X.mg "range"=none) (ha:PL X a t) (hs:starEach [a] X.env=[(false,eval a X.env)]:=by rfl):QG X tg (.Call (.Name "range" p) [a] [] pos) (r9 t):=by
 intro gV s σ H Pr Z so I E h;refine PP (BO (tg:=tg) hg hm (cW ha.pe ly hs) hs gV s σ H (λJ H1=>∃Z1 n,J=P2 0 n/\aB X.K Pr H1 σ Z1/\so (rW 0 n) Z1) I ?_) λv s1 q=>PP q λitv s2 ⟨it,fp,tn,J,H',e,I',T,t0,hf,Z1,n,eJ,E1,q⟩=>?_
 . refine⟨Pr,Z,_,E,h,λv H' r Z' E' p=>?_⟩;obtain⟨j,rfl,hj,p⟩:=dC p;obtain⟨_,e1,p1⟩:=E'.head_d;cases e1;cases p1;exact⟨j,rfl,hj.1,hj.2,Z',_,rfl,E'.tail,p⟩
 . subst eJ;exact⟨it,fp,tn,_,H',_,Z1,e,I',T,t0,hf,E1,vK 0 n,q⟩
theorem EW{t u:W L}{p pos:Pos} (hg:Gl X "range") (hm:X.mg "range"=none) (ha:PL X a t) (hb:PL X b u) (hs:starEach [a,b] X.env=[(false,eval a X.env),(false,eval b X.env)]:=by rfl) (hs2:starEach [b] X.env=[(false,eval b X.env)]:=by rfl):QG X tg (.Call (.Name "range" p) [a,b] [] pos) (Ir t u):=by
 intro gV s σ H Pr Z so I E h;refine PP (BP (tg:=tg) hg hm (cW ha.pe (cW hb.pe ly hs2) (hs.trans (by rw[hs2]))) hs hs2 gV s σ H (λJ H1=>∃Z1 lo n,J=P2 lo n/\aB X.K Pr H1 σ Z1/\so (rW lo n) Z1) I ?_) λv s1 q=>PP q λitv s2 ⟨it,fp,tn,J,H',e,I',T,t0,hf,Z1,lo,n,eJ,E1,q⟩=>?_
 . refine⟨Pr,Z,_,E,h,λv H' r Z' E' p=>?_⟩;obtain⟨i,rfl,p⟩:=dC p;obtain⟨_,e1,p1⟩:=E'.head_d;cases e1;cases p1;refine⟨Pr,Z',_,E'.tail,p,λv H2 r Z2 E2 p=>?_⟩;obtain⟨j,rfl,hi,hj,p⟩:=dC p;obtain⟨_,e1,p1⟩:=E2.head_d;cases e1;cases p1;exact⟨i,j,rfl,⟨hi.1,hi.2,hj.1,hj.2⟩,Z2,_,_,rfl,E2.tail,p⟩
 . subst eJ;exact⟨it,fp,tn,_,H',_,Z1,e,I',T,t0,hf,E1,vK lo n,q⟩
def p6(s:W (List D))(g:Tg)(b:W Fl):W Fl:=λZ so=>s Z λxs Z1=>d6 g b xs Z1 so
theorem cP{iter:Expr}{body:List Stmt}{w:W (List D)}{g:Tg}(hp:PassesOwn (model X.prog X.w) X.A X.env X.xe)(hc:X.calm=true)(hi:QG X tg iter w)(hg:QE X tg g)(hb:Qu X body t)
  (hs:∀x,foldedSetIterable iter X.env x=pure x:=by intro _;rfl):PM X (.For tg iter body [] pos) (p6 w g t):=by
 intro gV s σ H Pr Z so I E h;obtain⟨gg,hg,hgg⟩:=hg;refine wpAny_For (PP (hi gV s σ H Pr Z _ I E h) λv s1 h1=>PP h1 λitv s2 h2=>?_) hs;obtain⟨it,fp,tn,J,H2,xs,Z2,e,I2,T,st2,f2,E2,G,w0⟩:=h2;subst e;have stat:∀{H':Hp},(∀b∈fp,H' b=none)->∀b∈fp,BM X gV H' b:=λhn b hb=>⟨hn b hb,(f2 b hb).2⟩;refine codeAny_forLoop_any (λn s'=>∃i σ' H' Z',n+i=xs.length/\PJ X gV σ' H' s'/\tn i s'.heap/\(∀b∈fp,H' b=none)/\aB X.K (br H2 Z2) H' σ' Z'/\d6 g t (xs.drop i) Z' so) ?_ xs.length ⟨0,σ,H2,Z2,xL,I2,st2,λb hb=>(f2 b hb).1,E2.wide,by simpa using w0⟩;rintro n s3 ⟨i,σ3,H3,Z3,hn,I3,st3,fr3,E3,w3⟩;obtain⟨go,stop⟩:=G H3 (t7 E2 E3.sub);by_cases hlt:i<xs.length
 .
  obtain⟨hgo,hy⟩:=go i xs[i] (Ux hlt);rw[List.drop_eq_getElem_cons hlt]at w3;refine wpAny_passesOwn hp (PP (T.item X rfl rfl rfl hc i gV s3 σ3 H3 X.xe I3 (stat fr3) st3 hgo) λr s4 ⟨u,hr,h4⟩=>?_);subst hr;refine wpAny_passesOwn hp (PP h4 λ_ s5 ⟨x,H5,I5,r5,y5,st5,fr5⟩=>?_);obtain⟨gr,rx⟩:=hy x H5 y5;have I5':=I5.pinned (stat fr5) (T.obj _ _ st5);have E5:=E3.grown gr;refine wpAny_passesOwn hp (PP (hg _ s5 σ3 H5 x u _ I5' r5 (hgg x σ3 H5 _ Z3 xs[i] _ I5.len E5 rx w3)) λ_ s6 ⟨σ6,H6,I6,e6,hl6,Z6,E6,q6⟩=>?_);subst e6;refine wpAny_passesOwn hp (PP (hb _ s6 σ6 _ _ Z6 _ I6 E6 q6) λf s7 q7=>?_)
  have again:∀{σ7:St}{H7:Hp}{Z7:Ev},PJ X (gV++vn fp s5.heap) σ7 H7 s7->aB X.K (br H2 Z2) H7 σ7 Z7->d6 g t (xs.drop (i+1)) Z7 so ->
    ∃m,m<n/\∃i σ' H' Z',m+i=xs.length/\PJ X gV σ' H' s7/\tn i s7.heap/\(∀b∈fp,H' b=none)/\aB X.K (br H2 Z2) H' σ' Z'/\d6 g t (xs.drop i) Z' so:=λ{σ7 H7 Z7} I7 E7 n7=>by
   refine⟨n-1,xL,i+1,σ7,H7,Z7,xL,I7.unpinned,T.keep _ _ _ st5 λb hb o e=>(I7.pin (b,o) (List.mem_append_right _ (List.mem_append_right _ (kK hb e)))).1,λb hb=>?_,E7,n7⟩;obtain⟨o,e,d⟩:=T.obj _ _ st5 b hb;exact(I7.pin (b,o) (List.mem_append_right _ (List.mem_append_right _ (kK hb e)))).2.1
  cases f with
  |next=>obtain⟨σ7,H7,Z7,I7,E7,n7⟩:=q7;exact again I7 E7 n7
  |cont=>obtain⟨σ7,H7,Z7,I7,E7,n7⟩:=q7;exact again I7 E7 n7
  |brk=>obtain⟨σ7,H7,Z7,I7,E7,q7⟩:=q7;exact⟨σ7,H7,Z7,I7.unpinned,E2.narrow E7,q7⟩
  |ret v=>obtain⟨x7,σ7,H7,r,Z7,τ,I7,r7,E7,q7⟩:=q7;exact⟨x7,σ7,H7,r,Z7,τ,I7.unpinned,r7,E2.narrow E7,q7⟩
 .
  have e:i=xs.length:=by omega
  subst e;refine wpAny_passesOwn hp (PP (T.done X rfl rfl rfl hc xs.length gV s3 σ3 H3 X.xe I3 (stat fr3) st3 stop) λr s4 ⟨hr,I4⟩=>?_);subst hr;rw[List.drop_length]at w3;exact wpAny_execs_nil ⟨σ3,H3,Z3,I4,E2.narrow E3,w3⟩
end
section
variable{X:Cx}{e a b c:Expr}{pos:Pos}{ta tb:W L}
def cQ(i:Int):Prop:=i.natAbs<2^1000000
def fP:Qw:=λx y k=>match x,y with
 |.int i,.int j=>k (.d (.int (i+j)))
 |.str i,.str j=>i.length+j.length<=sizeLine/\k (.d (.str (i++j)))
 |.lst xs,.lst ys=>xs.length+ys.length<=sizeLine/\∀a,k (.own a (xs++ys))
 |_,_=>False
def ph:Qw:=λx y k=>match x,y with
 |.int i,.int j=>k (.d (.int (i-j)))
 |_,_=>False
def uc:Qw:=λx y k=>match x,y with
 |.int i,.int j=>j≠0/\j.natAbs<2^9000/\k (.d (.int (i.fdiv j)))
 |_,_=>False
def jS:Qw:=λx y k=>match x,y with
 |.int i,.int j=>j≠0/\k (.d (.int (i.fmod j)))
 |_,_=>False
def AO:Qw:=λx y k=>match x,y with
 |.int i,.int j=>0<=j/\j<=1000000/\i.natAbs<2^64/\k (.d (.int (i^j.toNat)))
 |_,_=>False
def vi:Qw:=λx y k=>match x,y with
 |.int i,.int j=>k (.d (.bl (decide (i<j))))
 |_,_=>False
def Nl:Qw:=λx y k=>match x,y with
 |.int i,.int j=>k (.d (.bl (decide (i<=j))))
 |_,_=>False
def Kq:Qw:=λx y k=>match x,y with
 |.int i,.int j=>k (.d (.bl (decide (j<i))))
 |_,_=>False
def K9:Qw:=λx y k=>match x,y with
 |.int i,.int j=>k (.d (.bl (decide (j<=i))))
 |_,_=>False
theorem Ce{i j:Int}(h1:cQ i)(h2:cQ j):IntMulOk i j:=IntMulOk.of_le (PySem.intBits_le_iff.mpr h1) (PySem.intBits_le_iff.mpr h2) x_
theorem Iu:P4 X (binaryOp .Mult) (rI (λi j=>cQ i/\cQ j) λi j=>.int (i*j)):=P8 λ_ _ _ _ _ _ _ hc q=>mul_int q (Ce hc.1 hc.2)
theorem Iv:P4 X (binaryOp .FloorDiv) (rI (λi j=>j≠0/\j.natAbs<2^9000) λi j=>.int (i.fdiv j)):=P8 λi j _ _ _ _ _ hc q=>floordiv_int hc.1 q (.inl (PyProof.noPylong_of_log2 ((Nat.log2_lt (by have:=hc.1;omega)).mpr hc.2)))
theorem Iw:P4 X (binaryOp .Add) (λx y H Q=>∃l b xs zs,x=.ref l/\y=.ref b/\PU X.K H l xs/\PU X.K H b zs/\xs.length+zs.length<=sizeLine/\∀p,H p=none->Q (.ref p) (Pv H p (.lst (xs++zs)))):=by
 intro gV s σ H x y v u Q I rx ry h;obtain⟨l,b,xs,zs,rfl,rfl,hH,hB,hz,q⟩:=h;cases rx;cases ry;obtain⟨its,r,⟨o,n,e,c,d,f⟩,z⟩:=I.list hH;obtain⟨its2,r2,⟨o2,n2,e2,c2,d2,f2⟩,z2⟩:=I.list hB;obtain⟨cl,dd,dt,sl⟩:=o;obtain⟨cl2,dd2,dt2,sl2⟩:=o2;simp only at c f c2 f2;subst c f c2 f2;have hl:=r.length;have hl2:=r2.length;refine concat_meets ⟨_,e,rfl⟩ ⟨_,e2,rfl⟩ noFill_list_add seq_list_add PySem.F.slot_list_add PySem.F.entry_list_add (PySem.F.args_list_add_2 _ _) (list_addW l b its.toArray its2.toArray n n2 dd dd2 sl sl2 (by rw[List.size_toArray,List.size_toArray];omega)) ⟨e,e2,?_⟩;have ea:its.toArray++its2.toArray=(its++its2).toArray:=by simp
 rw[ea];exact⟨.ref _,_,I.lnew (t':=s.toks) (r.append r2) (by rw[List.length_append];omega),rfl,q _ I.fresh⟩
theorem EX{x y:D}{k:L->Prop}(h:fP x y k):(∃i j,x=.int i/\y=.int j/\k (.d (.int (i+j))))∨(∃i j,x=.str i/\y=.str j/\i.length+j.length<=sizeLine/\k (.d (.str (i++j))))∨∃xs ys,x=.lst xs/\y=.lst ys/\xs.length+ys.length<=sizeLine/\∀a,k (.own a (xs++ys)):=by
 unfold fP at h;split at h
 . exact .inl ⟨_,_,rfl,rfl,h⟩
 . exact .inr (.inl ⟨_,_,rfl,rfl,h⟩)
 . exact .inr (.inr ⟨_,_,rfl,rfl,h⟩)
 . exact h.elim
theorem Iy:Qx X (binaryOp .Add) (λx y k=>∃i j,x=.int i/\y=.int j/\k (.d (.int (i+j)))):=Qx.of KF λσ H Pr Z x y dx dy so E px py ⟨i,j,e1,e2,h⟩=>by subst e1 e2;cases px;cases py;exact⟨i,j,rfl,rfl,_,E.cons_d (.int _),h⟩
theorem Iz:Qx X (binaryOp .Add) (λx y k=>∃i j,x=.str i/\y=.str j/\i.length+j.length<=sizeLine/\k (.d (.str (i++j)))):=Qx.of Az λσ H Pr Z x y dx dy so E px py ⟨i,j,e1,e2,z,h⟩=>by subst e1 e2;cases px;cases py;exact⟨i,j,rfl,rfl,z,_,E.cons_d (.str _),h⟩
theorem ID:Qx X (binaryOp .Add) (λx y k=>∃xs ys,x=.lst xs/\y=.lst ys/\xs.length+ys.length<=sizeLine/\∀a,k (.own a (xs++ys))):=Qx.of Iw λσ H Pr Z x y dx dy so E px py ⟨xs,ys,e1,e2,z,h⟩=>by
 subst e1 e2
 cases px with
 | lst h1 r1 =>
  cases py with
  |lst h2 r2=>exact⟨_,_,_,_,rfl,rfl,h1.l,h2.l,by rw[r1.length,r2.length];exact z,λp hp=>⟨_,E.cons_own hp (r1.append r2),h p⟩⟩
theorem dh:Qx X (binaryOp .Add) fP:=by
 intro gV s σ H Pr Z x y v u dx dy so I rx ry E px py ho;rcases EX ho with h|h|h
 . exact Iy gV s σ H Pr Z x y v u dx dy so I rx ry E px py h
 . exact Iz gV s σ H Pr Z x y v u dx dy so I rx ry E px py h
 . exact ID gV s σ H Pr Z x y v u dx dy so I rx ry E px py h
theorem zu{f:Value->Value->Sem Value}{C:Int->Int->Prop}{g:Int->Int->V}{gd:Int->Int->D}(h:P4 X f (rI C g))(hg:∀K H i j,Qs K H (g i j) (gd i j)) :
  Qx X f (λx y k=>∃i j,x=.int i/\y=.int j/\C i j/\k (.d (gd i j))) :=
 Qx.of h λσ H Pr Z x y dx dy so E px py ⟨i,j,e1,e2,z,h⟩=>by subst e1 e2;cases px;cases py;exact⟨i,j,rfl,rfl,z,_,E.cons_d (hg _ _ _ _),h⟩
theorem ud{f:Value->Value->Sem Value}{g:Int->Int->V}{gd:Int->Int->D}(h:P4 X f (P7 g))(hg:∀K H i j,Qs K H (g i j) (gd i j)) :
  Qx X f (λx y k=>∃i j,x=.int i/\y=.int j/\k (.d (gd i j))) :=
 Qx.of h λσ H Pr Z x y dx dy so E px py ⟨i,j,e1,e2,h⟩=>by subst e1 e2;cases px;cases py;exact⟨i,j,rfl,rfl,_,E.cons_d (hg _ _ _ _),h⟩
theorem mX:Qx X (binaryOp .Sub) ph:=(ud KG (gd:=λi j=>.int (i-j)) λ_ _ _ _=>.int _).imp λx y k h=>by
 unfold ph at h;split at h
 . exact⟨_,_,rfl,rfl,h⟩
 . exact h.elim
theorem La:Qx X (binaryOp .Mult) (λx y k=>∃i j,x=.int i/\y=.int j/\(cQ i/\cQ j)/\k (.d (.int (i*j)))):=zu Iu (gd:=λi j=>.int (i*j)) λ_ _ _ _=>.int _
def bF:Qw:=λx y k=>match x,y with
 |.int i,.int j=>cQ i/\cQ j/\k (.d (.int (i*j)))
 |_,_=>False
theorem bg:Qx X (binaryOp .Mult) bF:=La.imp λx y k h=>by
 unfold bF at h;split at h
 . exact⟨_,_,rfl,rfl,⟨h.1,h.2.1⟩,h.2.2⟩
 . exact h.elim
theorem sT:Qx X (binaryOp .FloorDiv) uc:=(zu Iv (gd:=λi j=>.int (i.fdiv j)) λ_ _ _ _=>.int _).imp λx y k h=>by
 unfold uc at h;split at h
 . exact⟨_,_,rfl,rfl,⟨h.1,h.2.1⟩,h.2.2⟩
 . exact h.elim
theorem gL:Qx X (binaryOp .Mod) jS:=(zu HQ (gd:=λi j=>.int (i.fmod j)) λ_ _ _ _=>.int _).imp λx y k h=>by
 unfold jS at h;split at h
 . exact⟨_,_,rfl,rfl,h.1,h.2⟩
 . exact h.elim
theorem Cf:Qx X (binaryOp .Pow) AO:=(zu KH (gd:=λi j=>.int (i^j.toNat)) λ_ _ _ _=>.int _).imp λx y k h=>by
 unfold AO at h;split at h
 . exact⟨_,_,rfl,rfl,⟨h.1,h.2.1,h.2.2.1⟩,h.2.2.2⟩
 . exact h.elim
theorem nR:Qx X (compareOp .Lt) vi:=(ud KJ (gd:=λi j=>.bl (decide (i<j))) λ_ _ _ _=>.bl _).imp λx y k h=>by
 unfold vi at h;split at h
 . exact⟨_,_,rfl,rfl,h⟩
 . exact h.elim
theorem IE:Qx X (compareOp .Gt) Kq:=(ud Nc (gd:=λi j=>.bl (decide (j<i))) λ_ _ _ _=>.bl _).imp λx y k h=>by
 unfold Kq at h;split at h
 . exact⟨_,_,rfl,rfl,h⟩
 . exact h.elim
theorem Ld:Qx X (compareOp .GtE) K9:=(ud Nd (gd:=λi j=>.bl (decide (j<=i))) λ_ _ _ _=>.bl _).imp λx y k h=>by
 unfold K9 at h;split at h
 . exact⟨_,_,rfl,rfl,h⟩
 . exact h.elim
mutual
noncomputable def QH:D->PyData
 |.non=>.none
 |.bl b=>.bool b
 |.int i=>.int i
 |.str x=>.str x
 |.tup xs=>.tuple (fQ xs)
 |.lst xs=>.list (fQ xs)
 |.dct _=>.dict []
 |.exc _ _ _=>.dict []
 |.fn _ _=>.dict []
noncomputable def fQ:List D->List PyData
 |[]=>[]
 |x::xs=>QH x::fQ xs
end
noncomputable def QI(x y:D):Bool:=PyData.eqv (QH x) (QH y)
def cH(x:D):Prop:=SeqAt.shaped (QH x)=true
def sU:Qw:=λx y k=>cH x/\cH y/\k (.d (.bl (QI x y)))
def xK:Qw:=λx y k=>cH x/\cH y/\k (.d (.bl (!QI x y)))
mutual
theorem kN{gV:List (Addr×Obj)}{σ:St}{H:Hp}{s:Shared}(I:PJ X gV σ H s):∀(d:D)(x:V)(u:Value),b8 x u->Qs X.K H x d->(QH d).canLay0=true->∃as,Reads s.heap u (QH d) as
 |.non,_,_,rv,r,_=>by cases r;cases rv;exact⟨_,.none⟩
 |.bl b,_,_,rv,r,_=>by cases r;cases rv;exact⟨_,.bool b⟩
 |.int i,_,_,rv,r,_=>by cases r;obtain⟨t,rfl⟩:=rv;exact⟨_,.int i t⟩
 |.str z,_,_,rv,r,_=>by cases r;obtain⟨t,rfl⟩:=rv;exact⟨_,.str z t⟩
 | .tup xs,_,_,rv,r,hc=>by
  cases r with
  | tup h rs =>
   cases rv
   obtain⟨its,vs,⟨o,e,c,n,d⟩,_⟩:=I.tuple h
   obtain⟨as,ra⟩:=fX I xs _ _ vs rs hc
   exact⟨_,.tuple (xs:=fQ xs) e c d (by simpa using ra)⟩
 | .lst xs,_,_,rv,r,hc=>by
  cases r with
  | lst h rs =>
   cases rv
   obtain⟨its,vs,⟨o,n,e,c,_,d⟩,_⟩:=I.list h.l
   obtain⟨as,ra⟩:=fX I xs _ _ vs rs hc
   exact⟨_,.list (xs:=fQ xs) e c d (by simpa using ra)⟩
 |.dct _,_,_,_,_,hc=>nomatch hc
 |.exc _ _ _,_,_,_,_,hc=>nomatch hc
 |.fn _ _,_,_,_,_,hc=>nomatch hc
theorem fX{gV:List (Addr×Obj)}{σ:St}{H:Hp}{s:Shared}(I:PJ X gV σ H s):∀(ds:List D)(vs:List V)(us:List Value),bO vs us->bA X.K H vs ds->PyData.canLayAll0 (fQ ds)=true->∃as,ReadsAll s.heap us (fQ ds) as
 |[],_,_,rv,r,_=>by cases r;cases rv;exact⟨_,.nil⟩
 | d::ds,_,_,rv,r,hc=>by
  have hc':(QH d).canLay0=true/\PyData.canLayAll0 (fQ ds)=true:=by simpa[fQ,PyData.canLayAll0]using hc
  cases r with
  | cons r0 rs =>
   cases rv with
   | cons v0 vs =>
    obtain⟨as,ra⟩:=kN I d _ _ v0 r0 hc'.1
    obtain⟨bs,rb⟩:=fX I ds _ _ vs rs hc'.2
    exact⟨_,.cons ra rb⟩
end
theorem jD(hu:X.A.units+64<cLine):Qx X (compareOp .Eq) sU:=by intro gV s σ H Pr Z x y v u dx dy so I rx ry E px py ⟨h1,h2,ho⟩;obtain⟨as,ra⟩:=kN I dx x v rx px (SeqAt.canLay_of_shaped h1);obtain⟨bs,rb⟩:=kN I dy y u ry py (SeqAt.canLay_of_shaped h2);exact eq_dataH ra rb h1 h2 hu ⟨.bl _,H,_,I,rfl,E.cons_d (.bl _),ho⟩
theorem pj(hu:X.A.units+64<cLine):Qx X (compareOp .NotEq) xK:=by intro gV s σ H Pr Z x y v u dx dy so I rx ry E px py ⟨h1,h2,ho⟩;obtain⟨as,ra⟩:=kN I dx x v rx px (SeqAt.canLay_of_shaped h1);obtain⟨bs,rb⟩:=kN I dy y u ry py (SeqAt.canLay_of_shaped h2);exact ne_dataH ra rb h1 h2 hu ⟨.bl _,H,_,I,rfl,E.cons_d (.bl _),ho⟩
noncomputable def AQ(x:D)(xs:List D):Bool:=xs.any λy=>QI y x
theorem Ox:Qx X (compareOp .Is) (λx y k=>y=.non/\k (.d (.bl (match x with | .non=>true|_=>false)))):=Qx.of KL λσ H Pr Z x y dx dy so E px py ⟨e,h⟩=>by subst e;cases py;refine⟨rfl,_,E.cons_d (.bl _),?_⟩;cases px<;>exact h
theorem IF:Qx X (compareOp .IsNot) (λx y k=>y=.non/\k (.d (.bl (match x with | .non=>false|_=>true)))):=Qx.of HR λσ H Pr Z x y dx dy so E px py ⟨e,h⟩=>by subst e;cases py;refine⟨rfl,_,E.cons_d (.bl _),?_⟩;cases px<;>exact h
def aK:Qw:=λx y k=>match x,y with
 |.lst xs,.int i=>∃v,Qf xs i=some v/\k (.d v)
 |.tup xs,.int i=>∃v,Qf xs i=some v/\k (.d v)
 |.str z,.int i=>z.length<=sizeLine/\∃c,Qf z.cps.toList i=some c/\k (.d (.str ⟨#[c]⟩))
 |_,_=>False
theorem xM{K:PySem.W.Frag}{H:Hp}{vs:List V}{xs:List D}(r:bA K H vs xs){i:Int}{x:D}(h:Qf xs i=some x):∃v,Qf vs i=some v/\Qs K H v x:=by
 unfold Qf at h ⊢;rw[r.length]
 cases q:Qe xs.length i with
 |none=>rw[q]at h;cases h
 | some j =>
  rw[q]at h;exact r.get h
theorem IG{x y:D}{k:L->Prop}(h:aK x y k):∃i,y=.int i/\((∃xs,x=.lst xs/\∃v,Qf xs i=some v/\k (.d v))∨(∃xs,x=.tup xs/\∃v,Qf xs i=some v/\k (.d v))∨∃z,x=.str z/\z.length<=sizeLine/\∃c,Qf z.cps.toList i=some c/\k (.d (.str ⟨#[c]⟩))):=by
 unfold aK at h;split at h
 . exact⟨_,rfl,.inl ⟨_,rfl,h⟩⟩
 . exact⟨_,rfl,.inr (.inl ⟨_,rfl,h⟩)⟩
 . exact⟨_,rfl,.inr (.inr ⟨_,rfl,h⟩)⟩
 . exact h.elim
theorem au(ha:PL X a ta)(hb:PL X b tb)(hs:xB b):PL X (.Subscript a b pos) (ax aK ta tb):=by
 intro gV s σ H Pr Z so I E h;refine Subscript_ (two (R:=λdx dy Z2=>aK dx dy λr=>so r Z2) ha hb I E h λv u s2 x y H2 dx dy Z2 I2 r1 r2 E2 p1 p2 q=>?_);have PR:∀(Q:VK),(∀z H',Q z H'->∃r,aB X.K Pr H' (some z::σ) (r::Z2)/\so r Z2)->∀w s',EP X gV σ Q w s'->EL X gV σ Pr so w s':=λQ hQ w s' ⟨z,H',I',rz,q⟩=>by obtain⟨r,E',p⟩:=hQ z H' q;exact⟨z,H',r,Z2,I',rz,E',p⟩
 have Eσ:=E2.tail.tail;obtain⟨i,rfl,⟨xs,rfl,z,hz',q⟩|⟨xs,rfl,z,hz',q⟩|⟨z,rfl,hz,c,hc,q⟩⟩:=IG q
 .
  cases p2
  cases p1 with
  | lst hz rs =>
   obtain⟨w,hw,rw⟩:=xM rs hz';exact PP (B0 a b gV s2 σ H2 _ _ v u (λz H'=>z=w/\H'=H2) I2 r1 r2 ⟨_,_,i,w,rfl,rfl,hz.l,hw,rfl,rfl⟩ (hs _ _)) (PR _ λz H' ⟨e1,e2⟩=>by subst e1 e2;exact⟨_,Eσ.cons_d rw,q⟩)
 .
  cases p2
  cases p1 with
  | tup hz rs =>
   obtain⟨w,hw,rw⟩:=xM rs hz';exact PP (KO a b gV s2 σ H2 _ _ v u (λz H'=>z=w/\H'=H2) I2 r1 r2 ⟨_,_,i,w,rfl,rfl,hz,hw,rfl,rfl⟩ (hs _ _)) (PR _ λz H' ⟨e1,e2⟩=>by subst e1 e2;exact⟨_,Eσ.cons_d rw,q⟩)
 . cases p2;cases p1;exact PP (KP a b gV s2 σ H2 _ _ v u (λz H'=>z=.str ⟨#[c]⟩/\H'=H2) I2 r1 r2 ⟨z,i,c,rfl,rfl,hz,hc,rfl,rfl⟩ (hs _ _)) (PR _ λz H' ⟨e1,e2⟩=>by subst e1 e2;exact⟨_,Eσ.cons_d (.str _),q⟩)
end
section
variable{X:Cx}{e a b c:Expr}{es:List Expr}{pos p:Pos}{ta:W L}{x:Str}{bs:List (Option Nat)}{t:W (List L)}{id T:String}
abbrev QJ:=List D->(L->Prop)->Prop
def gF(X:Cx)(f:Value)(op:QJ):Prop :=
 ∀(gV:List (Addr×Obj))(s:Shared)(σ:St)(H Pr:Hp)(Z:Ev)(vs:List V)(us:List Value)(ds:List D)(so:L->Prop),PJ X gV σ H s->bO vs us->aB X.K Pr H σ Z->bA X.K H vs ds->op ds so ->
  wpAny (model X.prog X.w) X.A (call f us) (λw s'=>∃z H' r,PJ X gV σ H' s'/\b8 z w/\aB X.K Pr H' (some z::σ) (r::Z)/\so r) X.xe s
theorem gF.of{f:Value}{r:List V->Hp->VK->Prop}{op:QJ}(h:jI X f r)(q:∀σ H Pr Z vs ds so,aB X.K Pr H σ Z->bA X.K H vs ds->op ds so->r vs H λz H'=>∃r,aB X.K Pr H' (some z::σ) (r::Z)/\so r):gF X f op :=
 λgV s σ H Pr Z vs us ds so I rv E ps ho=>PP (h gV s σ H vs us _ I rv (q σ H Pr Z vs ds so E ps ho)) λw s' ⟨z,H',I',rz,r,E',p⟩=>⟨z,H',r,I',rz,E',p⟩
def bp(op:QJ)(t:W (List L)):W L:=λZ so=>t Z λls Z1=>EU ls λds=>op ds λr=>so r Z1
theorem aZ(hc:gF X (.builtin id) op)(hg:Gl X x)(hm:X.mg x=none)(hv:bootBuiltins x=some (.builtin id))(ha:Qt X (e::es) bs t) (hn:x≠"__name__":=by decide) (hdb:(x == ("__debug__" : Str))=false:=by decide)
  (he:starEach (e::es) X.env=(false,eval e X.env)::starEach es X.env:=by rfl) (hpl:(backTo pos (starEach es X.env)).any (·.1)=false:=by rfl):PL X (.Call (.Name x p) (e::es) [] pos) (bp op t):=by
 intro gV s σ H Pr Z so I E h;refine wpAny_Call_Name_kw (jn I hg hm hv ?_ hn hdb);refine PyProof.Rows.callWith_builtin1 (PP (ha pos gV s σ H Pr Z _ I E h) λus s1 ⟨vs,H1,ls,Z1,I1,r1,hl,hb,E1,_,q1⟩=>?_) he hpl;obtain⟨ds,rfl,q2⟩:=jP q1;have p4:vs.length=ds.length:=by simpa using hl
 exact PP (hc gV s1 σ H1 Pr Z1 vs us ds _ I1 r1 (E1.drop (by simp[p4])) (jQ p4 E1) q2) λw s2 ⟨z,H2,r,I2,rz,E2,q⟩=>⟨z,H2,r,Z1,I2,rz,E2,q⟩
theorem jT(hc:gF X (.type T) op)(hg:Gl X x)(hm:X.mg x=none)(hv:bootBuiltins x=some (.type T))(ha:Qt X (e::es) bs t) (hn:x≠"__name__":=by decide) (hdb:(x == ("__debug__" : Str))=false:=by decide)
  (he:starEach (e::es) X.env=(false,eval e X.env)::starEach es X.env:=by rfl) (hpl:(backTo pos (starEach es X.env)).any (·.1)=false:=by rfl):PL X (.Call (.Name x p) (e::es) [] pos) (bp op t):=by
 intro gV s σ H Pr Z so I E h;refine wpAny_Call_Name_kw (jn I hg hm hv ?_ hn hdb);refine PyProof.Rows.callWith_type1 (PP (ha pos gV s σ H Pr Z _ I E h) λus s1 ⟨vs,H1,ls,Z1,I1,r1,hl,hb,E1,_,q1⟩=>?_) he hpl;obtain⟨ds,rfl,q2⟩:=jP q1;have p4:vs.length=ds.length:=by simpa using hl
 exact PP (hc gV s1 σ H1 Pr Z1 vs us ds _ I1 r1 (E1.drop (by simp[p4])) (jQ p4 E1) q2) λw s2 ⟨z,H2,r,I2,rz,E2,q⟩=>⟨z,H2,r,Z1,I2,rz,E2,q⟩
def fh:QJ:=λds k=>match ds with
 |[.lst xs]=>k (.d (.int xs.length))
 |[.tup xs]=>k (.d (.int xs.length))
 |[.str x]=>x.length<=sizeLine/\k (.d (.int x.length))
 |_=>False
theorem p7{K:PySem.W.Frag}{H:Hp}{vs:List V}{d:D}(r:bA K H vs [d]):∃v,vs=[v]/\Qs K H v d:=by
 cases r with
 |cons h t=>cases t;exact⟨_,rfl,h⟩
theorem Lf{K:PySem.W.Frag}{H:Hp}{vs:List V}{d d':D}(r:bA K H vs [d,d']):∃v w,vs=[v,w]/\Qs K H v d/\Qs K H w d':=by
 cases r with
 | cons h t=>cases t with
  |cons h' t=>cases t;exact⟨_,_,rfl,h,h'⟩
theorem gM:gF X (.builtin "len") fh:=gF.of (oQ.or vz) λσ H Pr Z vs ds so E ps h=>by
 unfold fh at h;split at h
 .
  obtain⟨v,rfl,r⟩:=p7 ps
  cases r with
  |lst hz rs=>exact .inl ⟨_,_,rfl,.inl hz.l,_,E.cons_d (.int _),by rw[rs.length];exact h⟩
 .
  obtain⟨v,rfl,r⟩:=p7 ps
  cases r with
  |tup hz rs=>exact .inl ⟨_,_,rfl,.inr hz,_,E.cons_d (.int _),by rw[rs.length];exact h⟩
 .
  obtain⟨v,rfl,r⟩:=p7 ps
  cases r with
  |str z=>exact .inr ⟨_,rfl,h.1,_,E.cons_d (.int _),h.2⟩
 . exact h.elim
def xN:QJ:=λds k=>match ds with
 |[.int i]=>k (.d (.int (if i<0 then -i else i)))
 |_=>False
theorem zv:gF X (.builtin "abs") xN:=gF.of Es λσ H Pr Z vs ds so E ps h=>by
 unfold xN at h;split at h
 .
  obtain⟨v,rfl,r⟩:=p7 ps
  cases r with
  |int i=>exact⟨_,rfl,_,E.cons_d (.int _),h⟩
 . exact h.elim
def Cg:QJ:=λds k=>match ds with
 |[.int i,.int j]=>k (.d (.int (if j > i then j else i)))
 |_=>False
def AR:QJ:=λds k=>match ds with
 |[.int i,.int j]=>k (.d (.int (if j<i then j else i)))
 |_=>False
theorem G1(hc:X.calm=true):gF X (.builtin "max") Cg:=gF.of (BR hc) λσ H Pr Z vs ds so E ps h=>by
 unfold Cg at h;split at h
 .
  obtain⟨v,w,rfl,r,r'⟩:=Lf ps
  cases r with
  | int i=>cases r' with
   |int j=>exact⟨_,_,rfl,_,E.cons_d (.int _),h⟩
 . exact h.elim
theorem Ci(hc:X.calm=true):gF X (.builtin "min") AR:=gF.of (BS hc) λσ H Pr Z vs ds so E ps h=>by
 unfold AR at h;split at h
 .
  obtain⟨v,w,rfl,r,r'⟩:=Lf ps
  cases r with
  | int i=>cases r' with
   |int j=>exact⟨_,_,rfl,_,E.cons_d (.int _),h⟩
 . exact h.elim
def AS:QJ:=λds k=>match ds with
 |[.int i]=>k (.d (.int i))
 |[.bl b]=>k (.d (.int (if b then 1 else 0)))
 |_=>False
theorem Cj:gF X (.type "int") AS:=gF.of BU λσ H Pr Z vs ds so E ps h=>by
 unfold AS at h;split at h
 .
  obtain⟨v,rfl,r⟩:=p7 ps
  cases r with
  |int i=>exact .inl ⟨_,rfl,_,E.cons_d (.int _),h⟩
 .
  obtain⟨v,rfl,r⟩:=p7 ps
  cases r with
  |bl i=>exact .inr ⟨_,rfl,_,E.cons_d (.int _),h⟩
 . exact h.elim
def vL:QJ:=λds k=>match ds with
 |[.lst xs]=>∀a,k (.own a xs)
 |[.tup xs]=>∀a,k (.own a xs)
 |_=>False
theorem Ck:gF X (.type "list") vL:=gF.of vA λσ H Pr Z vs ds so E ps h=>by
 unfold vL at h;split at h
 .
  obtain⟨v,rfl,r⟩:=p7 ps
  cases r with
  |lst hz rs=>exact⟨_,_,rfl,.inl hz.l,λl hl=>⟨_,E.cons_own hl rs,h l⟩⟩
 .
  obtain⟨v,rfl,r⟩:=p7 ps
  cases r with
  |tup hz rs=>exact⟨_,_,rfl,.inr hz,λl hl=>⟨_,E.cons_own hl rs,h l⟩⟩
 . exact h.elim
noncomputable def QK:D->Value
 |.non=>.type "NoneType"
 |.bl _=>.type "bool"
 |.int _=>.type "int"
 |.str _=>.type "str"
 |.tup _=>.type "tuple"
 |.lst _=>.type "list"
 |.dct _=>.type "dict"
 |.exc _ _ _=>.none
 |.fn _ _=>.type "function"
def QL(K:PySem.W.Frag)(d:D)(t:Value):Prop:=match d with
 |.exc c _ _=>∃C,t=.ref C/\jL K c C=true
 |d=>t=QK d
theorem EY{gV:List (Addr×Obj)}{σ:St}{H:Hp}{s:Shared}{a:Addr}{o:Obj}{u:HO}{C:Addr}{ns:List Str}{vs:List V}(I:PJ X gV σ H s)(h:H a=some (.frz o u))(hc:o.cls=.ref C)(hn:PySem.W.notCls o=true)(hf:XF H o.dict ns vs):∃od,PySem.W.InstAt s.heap a o C od/\∀d,o.dict=some d->∃q,od=some q/\s.heap.get? d=some q:=by
 have e:=(show s.heap.get? a=some o/\_ from I.hok a _ h).1;rcases hf with⟨_,_,z⟩|⟨d,od,z,h2,_⟩
 . exact⟨none,⟨e,hc,hn,by rw[z];trivial⟩,λd q=>by rw[z]at q;cases q⟩
 . have e2:=(show s.heap.get? d=some od/\_ from I.hok d _ h2).1;exact⟨some od,⟨e,hc,hn,by rw[z];exact e2⟩,λd' q=>by rw[z]at q;cases q;exact⟨od,rfl,e2⟩⟩
theorem Fb{gV:List (Addr×Obj)}{σ:St}{H:Hp}{s:Shared}{x:V}{u c:Value}{d:D}{b:Bool}{Q:Value->Shared->Prop}{A:Around}{E:Value->Shared->Prop}(I:PJ X gV σ H s)(rx:b8 x u)(r:Qs X.K H x d)(e:∀t,QL X.K d t->PySem.W.kitOne X.K t c=some b)(h:∀tk,Q (.bool b) {s with toks:=tk}) :
  wpAny (model X.prog X.w) A (call (.builtin "isinstance") [u,c]) Q E s:=by
 cases r with
 |non=>cases rx;exact PySem.W.kia_one PySem.W.kitx_none I.kIn True.intro (e _ rfl) (λz=>nomatch z) h
 |bl y=>cases rx;exact PySem.W.kia_one PySem.W.kitx_bool I.kIn True.intro (e _ rfl) (λz=>nomatch z) h
 |int i=>obtain⟨t,rfl⟩:=rx;exact PySem.W.kia_one PySem.W.kitx_int I.kIn True.intro (e _ rfl) (λz=>nomatch z) h
 |str y=>obtain⟨t,rfl⟩:=rx;exact PySem.W.kia_one PySem.W.kitx_str I.kIn True.intro (e _ rfl) (λz=>nomatch z) h
 | lst hz rs =>
  cases rx;obtain⟨its,_,⟨o,n,e1,c1,_,_⟩,_⟩:=I.list hz.l;exact PySem.W.kia_one PySem.W.kitx_list I.kIn ⟨o,e1,c1⟩ (e _ rfl) (λz=>nomatch z) h
 | tup hz rs =>
  cases rx;obtain⟨its,_,⟨o,e1,c1,_⟩,_⟩:=I.tuple hz;exact PySem.W.kia_one PySem.W.kitx_tuple I.kIn ⟨o,e1,c1⟩ (e _ rfl) (λz=>nomatch z) h
 | @dct a o kvs hz =>
  cases rx;obtain⟨_,_,_,vs,_,o',es,ep,h1,h2,_⟩:=(show d3 X.prog X.w H s.heap a (.frz o (.dK kvs))from I.hok a _ hz);exact PySem.W.kia_one PySem.W.kitx_dict I.kIn ⟨o',h1,h2.1⟩ (e _ rfl) (λz=>nomatch z) h
 | @exc a o u cc C ns vs ds h1 hv hc hn hs hq hf rs =>
  cases rx;obtain⟨od,Ia,_⟩:=EY I h1 hc hn hf;obtain⟨LL,cd,S⟩:=jM hs;exact PySem.W.kia_one (EH S) I.kIn ⟨_,_,Ia⟩ (e _ ⟨C,rfl,hs⟩) (λz=>nomatch z) h
 | fn hl hf hq hc hz hd hv hm r =>
  cases rx;exact PySem.W.kia_one Ie I.kIn ⟨_,(I.hok _ _ hf).1,rfl⟩ (e _ rfl) (λz=>nomatch z) h
noncomputable def mY(T:String):D->Bool
 |.non=>T == "NoneType"
 |.bl _=>T == "bool" ||T == "int"
 |.int _=>T == "int"
 |.str _=>T == "str"
 |.tup _=>T == "tuple"
 |.lst _=>T == "list"
 |.dct _=>T == "dict"
 |.exc _ _ _=>(["ValueError","Exception","BaseException","object"]:List String).contains T
 |.fn _ _=>T == "function"
def pk(T:String):D->(L->Prop)->Prop:=λd k=>k (.d (.bl (mY T d)))
theorem oU{T:String}{y:Str}{py:Pos}(hT:∀ K d t,QL K d t->PySem.W.kitOne K t (.type T)=some (mY T d)) (hg:Gl X "isinstance") (hm:X.mg "isinstance"=none) (hy:Gl X y) (hmy:X.mg y=none) (hby:bootBuiltins y=some (.type T)) (ha:PL X a ta)
  (hny:y≠"__name__":=by decide) (hdy:(y == ("__debug__" : Str))=false:=by decide)
  (h1:starEach [a,.Name y py] X.env=(false,eval a X.env)::starEach [.Name y py] X.env:=by rfl) (h2:starEach [.Name y py] X.env=[(false,eval (.Name y py) X.env)]:=by rfl) (hpl:(backTo pos (starEach [.Name y py] X.env)).any (·.1)=false:=by rfl) :
  PL X (.Call (.Name "isinstance" p) [a,.Name y py] [] pos) (QB (pk T) ta):=by
 have cr:jI X (.builtin "isinstance") (λxs H Q=>∃ x d,xs=[x,.ty T]/\Qs X.K H x d/\Q (.bl (mY T d)) H):=by intro gV s σ H xs us Q I rv h;obtain⟨x,d,rfl,r,q⟩:=h;obtain⟨u,w,rfl,r1,r2⟩:=Er rv;cases r2;exact Fb I r1 r (hT _ d) λtk=>⟨.bl _,H,I.tok _,rfl,q⟩
 refine PL.of (zk cr hg hm y_ (cW (aA ha).pe (cW (HL hy hmy hby (v:=.ty T) rfl hny hdy) ly h2) h1) (he:=h1) (hpl:=hpl)) λσ H Pr Z so E h=>?_
 refine⟨Pr,Z,λr Z1=>match r with
  |.d x=>pk T x λr=>so r Z1
  |_=>False,E,h,λv H' r Z' E' p=>?_⟩
 cases r with
 | d x =>
  obtain⟨_,e1,p1⟩:=E'.head_d;cases e1;exact⟨_,x,rfl,p1,_,Z',E'.tail.cons_d (.bl _),p⟩
 |_=>exact p.elim
end
section
variable{X:Cx}{e a b:Expr}{pos p apos cpos:Pos}{tb te:W L}{x:Str}
theorem aB.updOwn{K:PySem.W.Frag}{Pr H:Hp}{σ:St}{Z:Ev}{i:Nat}{l:Addr}{xs ys:List D}{vs:List V}(E:aB K Pr H σ Z)(q:Z[i]?=some (.own l xs))(r:bA K H vs ys):aB K Pr (Pv H l (.lst vs)) σ (Z.set i (.own l ys)):=by obtain⟨sv,hs,rfl,_⟩:=E.slot q;have hi:i<Z.length:=(UA.mp q).1;have E1:=(E.out q).write r;have E2:=E1.back (i:=i) (by simp[hi]) hs;rw[List.set_set]at E2;exact E2
theorem aB.ownAt{K:PySem.W.Frag}{Pr H:Hp}{σ:St}{Z:Ev}{i:Nat}{l:Addr}{xs:List D}(E:aB K Pr H σ Z)(q:Z[i]?=some (.own l xs)):σ[i]?=some (some (.ref l))/\∃vs,H l=some (.lst vs)/\bA K H vs xs:=by obtain⟨sv,hs,rfl,r⟩:=E.slot q;exact⟨hs,r⟩
def vM(i:Nat)(Z:Ev)(k:Addr->List D->Prop):Prop:=match Z[i]? with
 |some (.own a xs)=>k a xs
 |_=>False
theorem g5{i:Nat}{Z:Ev}{k:Addr->List D->Prop}(h:vM i Z k):∃a xs,Z[i]?=some (.own a xs)/\k a xs:=by
 unfold vM at h
 cases q:Z[i]? with
 |none=>rw[q]at h;exact h.elim
 | some l =>
  rw[q]at h
  cases l with
  |own a xs=>exact⟨a,xs,rfl,h⟩
  |un=>exact h.elim
  |d x=>exact h.elim
  |bx _ _=>exact h.elim
  |dic _ _=>exact h.elim
def IH(i:Nat)(te:W L):W L:=λZ so=>vM i Z λ_ _=>te Z λr Z1=>Qv r λy=>vM i Z1 λa xs=>xs.length<sizeLine/\so (.d .non) (Z1.set i (.own a (xs++[y])))
theorem jU(i:Nat)(he:PL X e te)(hN:X.N[i]?=some x:=by rfl)(hv:PF X.env.scope x:=by first | exact Or.inl rfl | exact Or.inr (Or.inl rfl) | exact Or.inr (Or.inr rfl)) (hd:(x == ("__debug__" : Str))=false:=by decide)
  (hcd:(x == ("__classdict__" : Str))=false:=by decide) (hs1:starEach [e] X.env=[(false,eval e X.env)]:=by rfl) (hbase:attributeBase (.Name x p) "append" X.env (eval (.Name x p) X.env)=eval (.Name x p) X.env:=by rfl)
  (hfew:((backTo cpos (starEach [e] X.env)).all (λx=>!x.1) && (backToKw cpos (keywordEach [] X.env)).all (λx=>x.1.isSome)
   && decide (([e]).length+([]:List Keyword).length+(if([]:List Keyword).isEmpty then 0 else 1)<30))=true:=by rfl)
  (hline:(apos.endLine == cpos.line)=true:=by rfl) (hplain:(backTo cpos (starEach ([]:List Expr) X.env)).any (·.1)=false:=by rfl) :
  PL X (.Call (.Attribute (.Name x p) "append" apos) [e] [] cpos) (IH i te):=by
 refine PL.of (KS PySem.F.plainAttrs_list PySem.F.slot_list_append PySem.F.type_list_append vD (gH hN hv hd hcd) (cW (aA he).pe ly hs1) (hbase:=hbase) (hfew:=hfew) (hline:=hline) (hs:=hs1) (hplain:=hplain)) λσ H Pr Z so E h=>?_;obtain⟨l,xs0,q0,h⟩:=g5 h;obtain⟨hσ,vs0,hl0,_⟩:=E.ownAt q0
 refine⟨.ref l,hσ,.inl ⟨rfl,vs0,PU.of hl0⟩,Pr,Z,λr Z1=>match r with
  |.d y=>vM i Z1 λa xs=>xs.length<sizeLine/\so (.d .non) (Z1.set i (.own a (xs++[y])))
  |_=>False,E,h,λv H' r Z' E' pp=>?_⟩
 cases r with
 | d y =>
  obtain⟨l',xs,q,p4,pp⟩:=g5 pp;obtain⟨hσ',vs,hl,r⟩:=E'.tail.ownAt q;rw[hσ]at hσ';cases hσ';obtain⟨_,e1,p1⟩:=E'.head_d;cases e1;exact⟨l,vs,v,rfl,rfl,hl,by rw[r.length];exact p4,_,_,(E'.tail.updOwn q (r.append (.cons p1 .nil))).cons_d .non,pp⟩
 |_=>exact pp.elim
def vN(i:Nat)(tb:W L):W L:=λZ so=>vM i Z λ_ _=>tb Z λr Z1=>mW r λj=>vM i Z1 λ_ xs=>∃y,Qf xs j=some y/\so (.d y) Z1
theorem fY(i:Nat)(hb:PL X b tb)(hs:xB b)(hN:X.N[i]?=some x:=by rfl)(hv:PF X.env.scope x:=by first | exact Or.inl rfl | exact Or.inr (Or.inl rfl) | exact Or.inr (Or.inr rfl)) (hd:(x == ("__debug__" : Str))=false:=by decide)
  (hcd:(x == ("__classdict__" : Str))=false:=by decide):PL X (.Subscript (.Name x p) b pos) (vN i tb):=by
 refine PL.of (Ni B0 (gH hN hv hd hcd) hb.pe hs) λσ H Pr Z so E h=>?_;obtain⟨l,xs0,q0,h⟩:=g5 h;obtain⟨hσ,vs0,hl0,_⟩:=E.ownAt q0;refine⟨.ref l,hσ,Pr,Z,_,E,h,λv H' r Z' E' pp=>?_⟩;obtain⟨j,rfl,pp⟩:=dC pp;obtain⟨l',xs,q,y,hy,pp⟩:=g5 pp;obtain⟨hσ',vs,hl,r⟩:=E'.tail.ownAt q;rw[hσ]at hσ';cases hσ';obtain⟨_,e1,p1⟩:=E'.head_d;cases e1;cases p1;obtain⟨w,hw,rw⟩:=xM r hy;exact⟨l,vs,j,w,rfl,rfl,PU.of hl,hw,_,Z',E'.tail.cons_d rw,pp⟩
def II(i:Nat):W L:=λZ so=>vM i Z λ_ xs=>so (.d (.int xs.length)) Z
theorem IJ(i:Nat) (hg:Gl X "len") (hm:X.mg "len"=none) (hN:X.N[i]?=some x:=by rfl) (hv:PF X.env.scope x:=by first | exact Or.inl rfl | exact Or.inr (Or.inl rfl) | exact Or.inr (Or.inr rfl)) (hd:(x == ("__debug__" : Str))=false:=by decide)
  (hcd:(x == ("__classdict__" : Str))=false:=by decide) (h1:starEach [.Name x p] X.env=[(false,eval (.Name x p) X.env)]:=by rfl) (hpl:(backTo pos (starEach ([]:List Expr) X.env)).any (·.1)=false:=by rfl) :
  PL X (.Call (.Name "len" apos) [.Name x p] [] pos) (II i):=by
 refine PL.of (zk oQ hg hm PySem.boot_len (cW (gH hN hv hd hcd) ly h1) (he:=h1) (hpl:=hpl)) λσ H Pr Z so E h=>?_;obtain⟨l,xs0,q0,h⟩:=g5 h;obtain⟨hσ,vs0,hl0,r⟩:=E.ownAt q0;exact⟨.ref l,hσ,l,vs0,rfl,.inl (PU.of hl0),_,Z,E.cons_d (.int _),by rw[r.length];exact h⟩
def ue(i:Nat)(tb te:W L):W Fl:=λZ so=>te Z λr Z1=>Qv r λy=>vM i Z1 λ_ _=>tb Z1 λr Z2=>mW r λj=>vM i Z2 λa xs=>∃k,Qe xs.length j=some k/\so .nx (Z2.set i (.own a (xs.set k y)))
theorem ma(i:Nat){b:Expr}{ps:Pos}(hb:PL X b tb)(he:PL X e te)(hN:X.N[i]?=some x:=by rfl)(hv:PF X.env.scope x:=by first | exact Or.inl rfl | exact Or.inr (Or.inl rfl) | exact Or.inr (Or.inr rfl)) (hd:(x == ("__debug__" : Str))=false:=by decide)
  (hcd:(x == ("__classdict__" : Str))=false:=by decide)
  (ha:∀v,assign (.Subscript (.Name x p) b ps) X.env v=(do
   let ov <- holding [v] (eval (.Name x p) X.env)
   let iv <- holding [v,ov] (eval b X.env)
   standAt ps
   holding [v,ov,iv] (setItem ov iv v)
   release [v,ov,iv] []):=by intro _;rfl)
  (hs:swapsWithSole [.Subscript (.Name x p) b ps] e pos.line X.env=pure false:=by rfl) (hw:swappedStores [.Subscript (.Name x p) b ps] e X.env=pure none:=by rfl)
  (h1:(assignEach [.Subscript (.Name x p) b ps] X.env).map (·.2)=[assign (.Subscript (.Name x p) b ps) X.env]:=by rfl):PM X (.Assign [.Subscript (.Name x p) b ps] e pos) (ue i tb te):=by
 refine PM.of (KB (aA he).pe (KA (gH hN hv hd hcd) hb.pe Ew ha) hs hw h1) λσ H Pr Z so p4 E h=>?_
 refine⟨Pr,Z,λr Z1=>match r with
  |.d y=>vM i Z1 λ_ _=>tb Z1 λr Z2=>mW r λj=>vM i Z2 λa xs=>∃k,Qe xs.length j=some k/\so .nx (Z2.set i (.own a (xs.set k y)))
  |_=>False,E,h,λv H' r Z' E' pp=>?_⟩
 cases r with
 | d y =>
  obtain⟨l,xs0,q0,pp⟩:=g5 pp;obtain⟨hσ,vs0,hl0,_⟩:=E'.tail.ownAt q0;refine⟨.ref l,hσ,br H' Z',Z',_,E'.tail.wide,pp,λw H2 r2 Z2 E2 pp=>?_⟩;obtain⟨j,rfl,pp⟩:=dC pp;obtain⟨l',xs,q,k,hk,pp⟩:=g5 pp;obtain⟨_,e1,p1⟩:=E2.head_d;cases e1;cases p1;have E3:aB X.K Pr H2 (some (.int j)::some v::σ) (.d (.int j)::.d y::Z2):=aB.step (τ:=[some v]) (lam:=[.d y]) (w:=[some (.int j)]) (μ:=[.d (.int j)]) E' rfl E2 rfl;obtain⟨_,e1,p1⟩:=E3.tail.head_d;cases e1;obtain⟨hσ',vs,hl,r⟩:=E3.tail.tail.ownAt q;rw[hσ]at hσ';cases hσ';refine⟨l,vs,j,k,rfl,rfl,hl,by rw[r.length];exact hk,_,E3.tail.tail.updOwn q (r.set p1 k),pp⟩
 |_=>exact pp.elim
def AU:Option (W L)->Ev->(Option Int->Ev->Prop)->Prop
 |none=>λZ k=>k none Z
 |some t=>λZ k=>t Z λr Z1=>mW r λi=>k (some i) Z1
noncomputable def Cm{α:Type}(xs:List α)(lo hi:Option Int):List α:=(xs.drop (HT.sIx xs.length 0 lo)).take (HT.sIx xs.length xs.length hi-HT.sIx xs.length 0 lo)
end
noncomputable def bB:List Nat->Ev->Ev
 |[],Z=>Z
 |j::r,Z=>(bB r Z).set j .un
noncomputable def cI(fi:List Nat)(Z:Ev):Ev:=fi.map λj=>(Z[j]?).getD .un
noncomputable def bZ(fi:List Nat)(σ:St):St:=fi.map λj=>(σ[j]?).getD none
noncomputable def iw:List Nat->Ev->Ev->Ev
 |j::r,c::cs,Z=>iw r cs (Z.set j c)
 |_,_,Z=>Z
theorem fZ:∀(fi:List Nat)(Z:Ev),(bB fi Z).length=Z.length
 |[],_=>rfl
 |j::r,Z=>by unfold bB;rw[List.length_set,fZ r Z]
theorem vO:∀(fi:List Nat)(Z:Ev)(j:Nat),j∉fi->(bB fi Z)[j]?=Z[j]?
 |[],_,_,_=>rfl
 | i::r,Z,j,h=>by unfold bB;rw[List.getElem?_set_ne (λe=>h (by simp[e])),vO r Z j λe=>h (tu _ e)]
theorem zw:∀(fi:List Nat)(Z:Ev)(j:Nat),j∈fi->j<Z.length->(bB fi Z)[j]?=some .un
 | i::r,Z,j,h,hl=>by
  unfold bB;by_cases e:i=j
  . subst e;rw[List.getElem?_set_self (by rw[fZ];exact hl)]
  . rw[List.getElem?_set_ne e];exact zw r Z j ((UK.mp h).resolve_left λz=>e z.symm) hl
section
variable{K:PySem.W.Frag}{Pr H:Hp}{σ:St}{Z:Ev}
theorem aB.takeAt(E:aB K Pr H σ Z){i:Nat}{l:L}{s:Option V}(h:Z[i]?=some l)(hs:σ[i]?=some s):aB K Pr H (s::σ) (l::Z.set i .un):=E.outL h hs
theorem aB.takes(E:aB K Pr H σ Z):∀(fi:List Nat),fi.Nodup->(∀j∈fi,j<Z.length)->aB K Pr H (bZ fi σ++σ) (cI fi Z++bB fi Z)
 |[],_,_=>E
 | j::r,nd,hl=>by
  have ih:=E.takes r (List.nodup_cons.mp nd).2 λi hi=>hl i (tu _ hi);have hj:j<Z.length:=hl j Uz;have hjs:j<σ.length:=by rw[E.len];exact hj
  have e1:(cI r Z++bB r Z)[r.length+j]?=some Z[j]:=by rw[List.getElem?_append_right (by simp[cI])];simp only[cI,UC,Nat.add_sub_cancel_left];rw[vO r Z j (List.nodup_cons.mp nd).1];exact Ux hj
  have e2:(bZ r σ++σ)[r.length+j]?=some σ[j]:=by rw[List.getElem?_append_right (by simp[bZ])];simp only[bZ,UC,Nat.add_sub_cancel_left];exact Ux hjs
  have z:=ih.takeAt e1 e2;rw[List.set_append_right _ _ (by simp[cI])]at z;simp only[cI,UC,Nat.add_sub_cancel_left]at z;have c1:bZ (j::r) σ=σ[j]::bZ r σ:=by simp[bZ,hjs]
  have c2:cI (j::r) Z=Z[j]::cI r Z:=by simp[cI,hj]
  rw[c1,c2];exact z
theorem aB.backs:∀(fi:List Nat){cs Z:Ev},fi.Nodup->cs.length=fi.length->(∀j∈fi,Z[j]?=some .un)->(∀j∈fi,j<σ.length)->aB K Pr H (bZ fi σ++σ) (cs++Z)->aB K Pr H σ (iw fi cs Z)
 |[],[],Z,_,_,_,_,E=>E
 | j::r,c::cs,Z,nd,hl,hu,hs,E=>by
  have hjs:j<σ.length:=hs j Uz;have hj:=hu j Uz;have c1:bZ (j::r) σ=σ[j]::bZ r σ:=by simp[bZ,hjs]
  rw[c1]at E;have hlr:cs.length=r.length:=by simpa using hl
  have z:=aB.back (σ:=bZ r σ++σ) (Z:=cs++Z) (l:=c) E (i:=r.length+j) (by
   rw[List.getElem?_append_right xL,hlr,Nat.add_sub_cancel_left];exact hj) (by
   rw[List.getElem?_append_right (by simp[bZ])];simp only[bZ,UC,Nat.add_sub_cancel_left]
   exact Ux hjs)
  rw[List.set_append_right _ _ xL,hlr,Nat.add_sub_cancel_left]at z
  exact aB.backs r (List.nodup_cons.mp nd).2 hlr (λi hi=>by
   rw[List.getElem?_set_ne (λe=>(List.nodup_cons.mp nd).1 (by rw[e];exact hi))];exact hu i (tu _ hi)) (λi hi=>hs i (tu _ hi)) z
 |[],_::_,_,_,hl,_,_,_=>by simp at hl
 |_::_,[],_,_,hl,_,_,_=>by simp at hl
end
noncomputable def vP(cells:List (Str×Addr)):List (Str×NameKind)->List (Str×Addr)->List (Str×Addr)
 |[],acc=>acc
 |(n,k)::r,acc=>vP cells r (if k == .free then(match cells.lookup n with|some c=>(n,c)::acc|none=>acc)else acc)
theorem nS{env:Env}:∀(names:List (Str×NameKind))(acc:List (Str×Addr)),(∀x∈names,x.2=.free->∃c,env.cells.lookup x.1=some c) ->
  (forIn names acc λ(x:Str×NameKind) (cs:List (Str×Addr))=>(if x.2 == .free then do let c <- cellOf env x.1;pure (ForInStep.yield ((x.1,c)::cs))else pure (ForInStep.yield cs):Sem (ForInStep (List (Str×Addr)))))=pure (vP env.cells names acc)
 |[],acc,_=>rfl
 | (n,k)::r,acc,h=>by
  rw[List.forIn_cons];by_cases hk:(k == NameKind.free)=true
  .
   obtain⟨c,hc⟩:=h (n,k) Uz (by simpa using hk);have e:cellOf env n=pure c:=by unfold cellOf;rw[show env.cells.lookup n=some c from hc]
   simp only[hk,if_true,e,pure_bind,vP,hc];exact nS r _ λx hx=>h x (tu _ hx)
  . simp only[hk,vP,if_false,pure_bind];exact nS r _ λx hx=>h x (tu _ hx)
theorem mZ{scope:Scope}{env:Env}(h:∀x∈scope.names,x.2=.free->∃c,env.cells.lookup x.1=some c):closureFor scope env=pure (vP env.cells scope.names []):=by have:=nS (env:=env) scope.names [] h;unfold closureFor;simp only[bind_pure_comp]at this ⊢;rw[this];rfl
theorem zx{cells:List (Str×Addr)}:∀(names:List (Str×NameKind))(acc:List (Str×Addr)),(∀x c,acc.lookup x=some c->cells.lookup x=some c)->∀x c,(vP cells names acc).lookup x=some c->cells.lookup x=some c
 |[],acc,h,x,c,e=>h x c e
 | (n,k)::r,acc,h,x,c,e=>by
  unfold vP at e;refine zx r _ (λy d ey=>?_) x c e;split at ey
  .
   split at ey
   .
    rename_i q;rw[List.lookup_cons]at ey;split at ey
    .
     rename_i e2;have:y=n:=by simpa using e2
     cases ey;rw[this];exact q
    . exact h y d ey
   . exact h y d ey
  . exact h y d ey
theorem pq{n:Str}{c:Addr}{acc:List (Str×Addr)}{x:Str}(h:∃d,acc.lookup x=some d):∃d,((n,c)::acc).lookup x=some d:=by
 rw[List.lookup_cons];split
 . exact⟨_,rfl⟩
 . exact h
theorem uf{cells:List (Str×Addr)}:∀(names:List (Str×NameKind))(acc:List (Str×Addr))(x:Str),((∃d,acc.lookup x=some d)∨((x,NameKind.free)∈names/\∃c,cells.lookup x=some c))->∃d,(vP cells names acc).lookup x=some d
 | [],acc,x,h=>by
  rcases h with h|⟨h,_⟩
  . exact h
  . simp at h
 | (n,k)::r,acc,x,h=>by
  unfold vP;refine uf r _ x ?_;rcases h with h|⟨hm,c,hc⟩
  .
   left;split
   .
    split
    . exact pq h
    . exact h
   . exact h
  .
   rcases UK.mp hm with e|hm
   . cases e;left;simp only[hc,beq_self_eq_true,if_true];exact⟨c,by simp[List.lookup_cons]⟩
   . exact .inr ⟨hm,c,hc⟩
noncomputable def jo(X:Cx)(scope:Scope)(cl:List (Str×Addr))(Nb:List Str)(s₀:Shared)(H₀:Hp)(fp:List Addr):Cx :=
 {X with N:=Nb,s₀:=s₀,H₀:=H₀,env:=compEnvC scope cl s₀.heap.objs.size X.env,outer:=X.stack,stack:=X.stack,ex:=fp,fn:=λ_=>false,pn:=[],xe:=λ_ _=>False}
theorem kO{α β:Type}{F:α->β->Prop}:∀{a:List α}{b:List β},Paired F a b↔a.length=b.length/\∀p∈a.zip b,F p.1 p.2
 |[],[]=>⟨λ_=>⟨rfl,λ_ h=>by simp at h⟩,λ_=>.nil⟩
 |[],_::_=>⟨(λh=>nomatch h),λh=>by simp at h⟩
 |_::_,[]=>⟨(λh=>nomatch h),λh=>by simp at h⟩
 | x::a,y::b=>by
  constructor
  .
   intro h
   cases h with
   | cons r t =>
    obtain⟨h1,h2⟩:=kO.mp t
    exact⟨by simp[h1],λp hp=>by
     rw[List.zip_cons_cons]at hp;rcases UK.mp hp with rfl|hp
     . exact r
     .
      exact h2 p hp⟩
  . rintro⟨hl,h⟩;exact .cons (h (x,y) v6) (kO.mpr ⟨by simpa using hl,λp hp=>h p (by rw[List.zip_cons_cons];exact tu _ hp)⟩)
theorem ug:∀{σ:St}{Z:Ev},σ.length=Z.length->(σ.zip Z).map (·.2)=Z
 |[],[],_=>rfl
 | _::σ,l::Z,h=>by have ih:=ug (σ:=σ) (Z:=Z) (by simpa using h);rw[List.zip_cons_cons,List.map_cons,ih]
 |[],_::_,h=>by simp at h
 |_::_,[],h=>by simp at h
theorem aB.rearr{K:PySem.W.Frag}{Pr H:Hp}{σ σ2:St}{Z Z2:Ev}(E:aB K Pr H σ Z)(hl:σ2.length=Z2.length)(extra:List (Option V×L))(h:(σ.zip Z).Perm (σ2.zip Z2++extra)):aB K Pr H σ2 Z2:=by
 have pm:(owns Z).Perm (owns Z2++owns (extra.map (·.2))):=by have q:=mV (h.map (·.2));rw[List.map_append,ug E.len,ug hl,aE]at q;exact q
 refine⟨E.sub,(List.nodup_append.mp (pm.nodup_iff.mp E.nd)).1,λa ha=>E.off a (pm.mem_iff.mpr (List.mem_append_left _ ha)),kO.mpr ⟨hl,λp hp=>?_⟩⟩;exact(kO.mp E.sl).2 p (h.mem_iff.mpr (List.mem_append_left _ hp))
theorem vQ{fi:List Nat}{σ τ:St}(h:∀j∈fi,j<σ.length):bZ fi (σ++τ)=bZ fi σ:=by unfold bZ;refine List.map_congr_left λj hj=>?_;rw[List.getElem?_append_left (h j hj)]
theorem AV{fi:List Nat}{σ τ:Ev}(h:∀j∈fi,j<σ.length):cI fi (σ++τ)=cI fi σ:=by unfold cI;refine List.map_congr_left λj hj=>?_;rw[List.getElem?_append_left (h j hj)]
theorem vR{τ:Ev}:∀{fi:List Nat}{Z:Ev},(∀j∈fi,j<Z.length)->bB fi (Z++τ)=bB fi Z++τ
 |[],_,_=>rfl
 | j::r,Z,h=>by unfold bB;rw[vR λi hi=>h i (tu _ hi),List.set_append_left _ _ (by rw[fZ];exact h j Uz)]
theorem sV{τ:Ev}:∀{fi:List Nat}{cs Z:Ev},(∀j∈fi,j<Z.length)->iw fi cs (Z++τ)=iw fi cs Z++τ
 |[],[],_,_=>rfl
 |[],_::_,_,_=>rfl
 |_::_,[],_,_=>rfl
 | j::r,c::cs,Z,h=>by unfold iw;rw[List.set_append_left _ _ (h j Uz)];exact sV λi hi=>by rw[List.length_set];exact h i (tu _ hi)
theorem gb{env:Env}:∀{names:List (Str×NameKind)}{x:Str},names.lookup x=some .free ->
  (names.map λ(n,k)=>if(k == NameKind.free && env.scope.kind == .function && env.kindOf n == some .cell)then(n,NameKind.cell)else(n,k)).lookup x=some .cell ∨
  (names.map λ(n,k)=>if(k == NameKind.free && env.scope.kind == .function && env.kindOf n == some .cell)then(n,NameKind.cell)else(n,k)).lookup x=some .free
 |[],_,h=>by simp at h
 | (n,k)::r,x,h=>by
  have ih:=@gb env r x;rw[List.map_cons]
  cases hx:x == n with
  | true =>
   simp only[List.lookup_cons,hx]at h;cases h;dsimp only;by_cases hc:(NameKind.free == NameKind.free && env.scope.kind == .function && env.kindOf n == some .cell)=true
   . left;rw[if_pos hc];simp[List.lookup_cons,hx]
   . right;rw[if_neg hc];simp[List.lookup_cons,hx]
  | false =>
   simp only[List.lookup_cons,hx]at h;dsimp only;by_cases hc:(k == NameKind.free && env.scope.kind == .function && env.kindOf n == some .cell)=true
   . rw[if_pos hc];simp only[List.lookup_cons,hx];exact ih h
   . rw[if_neg hc];simp only[List.lookup_cons,hx];exact ih h
theorem iT{env:Env}:∀{names:List (Str×NameKind)}{x:Str}{k:NameKind},(∀y∈names,y.2≠.cell)->(k=.cell∨k=.free) ->
  (names.map λ(n,k)=>if(k == NameKind.free && env.scope.kind == .function && env.kindOf n == some .cell)then(n,NameKind.cell)else(n,k)).lookup x=some k->(x,NameKind.free)∈names
 |[],_,_,_,_,h=>by simp at h
 | (n,k0)::r,x,k,hc,hk,h=>by
  rw[List.map_cons]at h;dsimp only at h;by_cases q:(k0 == NameKind.free && env.scope.kind == .function && env.kindOf n == some .cell)=true
  .
   rw[if_pos q,List.lookup_cons]at h;have e0:k0=.free:=by have:=(Bool.and_eq_true_iff.mp (Bool.and_eq_true_iff.mp q).1).1;simpa using this
   split at h
   .
    rename_i e;have:x=n:=by simpa using e
    subst this e0;exact Uz
   . exact tu _ (iT (λy hy=>hc y (tu _ hy)) hk h)
  .
   rw[if_neg q,List.lookup_cons]at h;split at h
   .
    rename_i e;have:x=n:=by simpa using e
    subst this;have e1:k0=k:=by simpa using h
    subst e1;rcases hk with z|z
    . exact absurd z (hc (x,k0) Uz)
    . subst z;exact Uz
   . exact tu _ (iT (λy hy=>hc y (tu _ hy)) hk h)
section
variable{prog:Program}{w:World}{A:Around}{R:Result->Shared->Prop}
theorem Cn{elt target iter:Expr}{ifs:List Expr}{scope:Scope}{pos:Pos}{it acc:Value}{env:Env}(I:Nat->Shared->Prop)
  (turn:∀n s,I n s->wpAny (model prog w) A (pyNext it) (λr s₁=>match r with
   |none=>R (.ok .next) s₁
   | some v=>wpAny (model prog w) A (letOwnedTupleGo target it v) (λ_ s₀=>wpAny (model prog w) A (assign target env v) (λ_ s₂ =>
     wpAny (model prog w) A (forIn ifs true λc r=>if r=true then do let ok <- isTrue c env (eval c env);pure (ForInStep.yield ok)else pure (ForInStep.yield r)) (λok s₃ =>
      if ok=true then wpAny (model prog w) A (eval elt env) (λx s₄ =>
       wpAny (model prog w) A (call (.builtin "list.append") [acc,x]) (λ_ s₅=>∃ m,m < n/\I m s₅) (λ_ _=>False) s₄) (λ_ _=>False) s₃
      else ∃m,m<n/\I m s₃) (λ_ _=>False) s₂) (λ_ _=>False) s₀) (λ_ _=>False) s₁) (λ_ _=>False) s)
  (n:Nat) {s:Shared} (h:I n s) :
  codeAny (model prog w) A (.compLoop (.ListComp elt [⟨target,iter,ifs,0⟩] scope pos) 0 it acc env) R s:=by
 refine codeAny_loop rfl I (λn s hI=>?_) n h
 show wpAny _ A ((compTurn (.ListComp elt [⟨target,iter,ifs,0⟩] scope pos) 0 it acc env).onRaise (λx=>do noteFrame x env;theTreesLotGoes x)) _ _ s
 refine wpAny_noted ?_;rw[compTurn_list];have fe:∀{α:Type}{t:Sem α}{Q:α->Shared->Prop}{E:Value->Shared->Prop}{s:Shared},wpAny (model prog w) A t Q (λ_ _=>False) s->wpAny (model prog w) A t Q E s:=λh=>wpAny_mono h (λ_ _ q=>q) λ_ _ z=>z.elim;refine Uw (wpAny_standAt (Uw (wpAny_mono (turn n s hI) (λr s₁ h₁=>?_) λ_ _ h'=>h'.elim)))
 cases r with
 |none=>exact UH h₁
 | some v =>
  refine Uw (wpAny_mono h₁ (λ_ s₀ h₀=>?_) λ_ _ z=>z.elim);refine Uw (wpAny_mono h₀ (λ_ s₂ h₂=>Uw (wpAny_mono h₂ (λok s₃ h₃=>?_) λ_ _ h'=>h'.elim)) λ_ _ h'=>h'.elim)
  cases ok with
  |false=>exact UH ⟨rfl,h₃⟩
  | true =>
   exact Uw (Uw (wpAny_mono h₃ (λx s₄ h₄=>Uw (wpAny_mono h₄ (λ_ s₅ h₅=>UH (UH ⟨rfl,h₅⟩)) λ_ _ h'=>h'.elim)) λ_ _ h'=>h'.elim))
end
def QM(X:Cx)(tg:Expr)(n:Nat)(g:Tg):Prop:=∃gg:TG,PG X tg gg/\∀v σ H Pr Z x k,σ.length=X.N.length->aB X.K Pr H σ Z->Qs X.K H v x->g x Z k->gg v σ H λσ' H'=>H'=H/\σ'.drop n=σ.drop n/\∃Z',aB X.K Pr H σ' Z'/\k Z'
theorem jV{X:Cx}{i n:Nat}{x:Str}{pos:Pos}(hn:i<n)(hN:X.N.Nodup)(hi:X.N[i]?=some x)(hx:PH X.env.scope x)(hf:X.fn x=true∨X.env.scope.names.lookup x=some .local:=by first|exact .inl rfl|exact .inr rfl|assumption):QM X (.Name x pos) n (bu i) :=
 ⟨_,tY hN hi hx hf,λv σ H Pr Z x k hl E r h=>⟨rfl,by rw[List.drop_set_of_lt hn],_,(E.cons_d r).store (by rw[hl];exact(UA.mp hi).1),h⟩⟩
def QN(X:Cx)(ifs:List Expr)(t:W Bool):Prop :=
 ∀(gV:List (Addr×Obj))(s:Shared)(σ:St)(H Pr:Hp)(Z:Ev)(so:Bool->Ev->Prop),PJ X gV σ H s->aB X.K Pr H σ Z->t Z so ->
  wpAny (model X.prog X.w) X.A (forIn ifs true λc r=>if r=true then do let ok <- isTrue c X.env (eval c X.env);pure (ForInStep.yield ok)else pure (ForInStep.yield r)) (EB X gV σ Pr so) X.xe s
def g6:W Bool:=λZ so=>so true Z
theorem fj{X:Cx}:QN X [] g6:=λgV s σ H Pr Z so I E h=>wpAny_tests_nil ⟨H,Z,I,E,h⟩
theorem IK{X:Cx}{c:Expr}{t:W Bool}(h:PB X c t):QN X [c] t:=λgV s σ H Pr Z so I E ht=>wpAny_tests_one (h gV s σ H Pr Z so I E ht)
def dz(g:Tg)(ti:W Bool)(te:W L):List D->Ev->List D->(List D->Ev->Prop)->Prop
 |[],Z,acc,k=>k acc Z
 |x::xs,Z,acc,k=>g x Z λZ1=>ti Z1 λb Z2=>if b=true then te Z2 λr Z3=>Qv r λy=>dz g ti te xs Z3 (acc++[y]) k else dz g ti te xs Z2 acc k
def jW(n:Nat)(fi:List Nat)(src:W (List D))(g:Tg)(ti:W Bool)(te:W L):W L:=λZ so=>src Z λxs Z1=>xs.length<=sizeLine /\
 dz g ti te xs (List.replicate n .un++cI fi Z1) [] λys ρb=>∀a,so (.own a ys) (iw fi (ρb.drop n) (bB fi Z1))
section
variable{X:Cx}
theorem vS{elt tg iter:Expr}{ifs:List Expr}{scope sc:Scope}{pos:Pos}{N Nt Nf:List Str}{fi:List Nat}{src:W (List D)}{g:Tg}{ti:W Bool}{te:W L}
  (hsc:X.env.scope=sc) (hXN:X.N=N) (hc:X.calm=true) (hi:QG X tg iter src)
  (hkind:scope.kind=.function) (hnames:∀x∈scope.names,x.2=.local->scope.names.lookup x.1=some .local) (hcell:∀y∈scope.names,y.2≠.cell)
  (hfr:∀x∈scope.names,x.2=.free->sc.names.lookup x.1=some .cell∨sc.names.lookup x.1=some .free)
  (hnd:fi.Nodup) (hNf:Nf.map some=fi.map (λj=>N[j]?)) (hNk:∀x∈Nf,scope.names.lookup x=some .free) (hfl:∀j∈fi,j<N.length)
  (hg:∀cl s₀ H₀ fp,QM (jo X scope cl (Nt++Nf) s₀ H₀ fp) tg Nt.length g) (hti:∀cl s₀ H₀ fp,QN (jo X scope cl (Nt++Nf) s₀ H₀ fp) ifs ti) (hte:∀cl s₀ H₀ fp,PL (jo X scope cl (Nt++Nf) s₀ H₀ fp) elt te)
  {gV:List (Addr×Obj)} {s:Shared} {σ:St} {H Pr:Hp} {Z:Ev} {so:L->Ev->Prop} {use:Option (Value->Sem Unit)} {Q:Value->Shared->Prop} (I:PJ X gV σ H s) (E:aB X.K Pr H σ Z) (h:jW Nt.length fi src g ti te Z so)
  (hRR:∀D C s7 H6 acc Z'' m,PJ X gV σ H6 s7->s7.heap.Ns C m->H6 C=none->C≠X.env.locals->X.s₀.heap.objs.size<=C->(∀x c,X.env.cells.lookup x=some c->c≠C)->(∀p∈X.pn++gV,p.1≠C)->aB X.K Pr H6 (some (.ref D)::σ) (.own D acc::Z'')->so (.own D acc) Z'' ->
   compPost (model X.prog X.w) X.A X.xe use Q (.ref D) C (.ok .next) s7)
  (hs:∀x,foldedSetIterable iter X.env x=pure x):wpAny (model X.prog X.w) X.A (comprehension (.ListComp elt [⟨tg,iter,ifs,0⟩] scope pos) scope X.env (firstIterPos [⟨tg,iter,ifs,0⟩] pos) (newList []) false (eval iter X.env) use) Q X.xe s:=by
 have hcells:∀x∈scope.names,x.2=.free->∃c,X.env.cells.lookup x.1=some c:=λx hx hk=>I.ok.has x.1 (by
  show X.env.scope.names.lookup x.1=_∨X.env.scope.names.lookup x.1=_
  rw[hsc];exact hfr x hx hk)
 have hsub:=zx (cells:=X.env.cells) scope.names [] (λx c e=>by simp at e);refine wpAny_comprehension_free (use:=use) rfl hs (mZ hcells) hkind hnames (PP (hi gV s σ H Pr Z _ I E h) λv s1 h1=>PP h1 λitv s2 h2=>?_);obtain⟨it,fp,tn,J,H2,xs,Z2,e,I2,T,st2,f2,E2,G,p4,w0⟩:=h2;subst e;refine wpAny_newObj_type (T:="list") ?_;generalize hD:s2.heap.objs.size=D;have fD:H2 D=none:=by rw[<- hD];exact I2.fresh
 have I3:PJ X gV σ (Pv H2 D (.lst [])) {s2 with heap:=s2.heap.push {cls:=.type "list",dict:=none,data:=.seq ([]:List Value).toArray} }:=by have:=PJ.lnew (ys:=[]) (its:=[]) (t':=s2.toks) I2 .nil (Nat.zero_le _);rw[hD]at this;exact this
 have E3:=E2.cons_own (p:=D) (vs:=[]) (xs:=[]) fD .nil;have sz3:(s2.heap.push {cls:=.type "list",dict:=none,data:=.seq ([]:List Value).toArray}).objs.size=D+1:=by rw[Heap.size_push,hD]
 generalize hs3:({s2 with heap:=s2.heap.push {cls:=.type "list",dict:=none,data:=.seq ([]:List Value).toArray} }:Shared)=s3 at I3;have hs3h:s3.heap=s2.heap.push {cls:=.type "list",dict:=none,data:=.seq ([]:List Value).toArray}:=by rw[<- hs3]
 have fpD:∀b∈fp,b≠D:=λb hb=>by obtain⟨o,e,_⟩:=T.obj 0 _ st2 b hb;rw[<- hD];exact Nat.ne_of_lt (UF e)
 have old3:∀b o,s2.heap.get? b=some o->s3.heap.get? b=some o:=λb o e=>by rw[hs3h];exact Uy _ e
 refine wpAny_newFunctionEnv (around:=some X.env) hcell (by intro y hy;simp at hy) (λh4 hns4 hsb4=>?_) hkind
 have hns4':h4.Ns s3.heap.objs.size (λ_=>none):=by
  have:(λx=>(([]:List (Str×Value)).reverse.lookup x))=λ_=>(none:Option Value):=by funext x;rfl
  rw[this]at hns4;exact hns4
 have old4:∀b o,s3.heap.get? b=some o->h4.get? b=some o:=λb o e=>by rw[hsb4.2 b (Nat.ne_of_lt (UF e))];exact Uy _ e
 have hσl:σ.length=N.length:=by rw[<- hXN];exact I.len
 have hρ2:σ.length=Z2.length:=E2.len;have hjσ:∀j∈fi,j<σ.length:=λj hj=>by rw[hσl];exact hfl j hj
 have hjρ:∀j∈fi,j<Z2.length:=λj hj=>by rw[<- hρ2];exact hjσ j hj
 have hfpl:∀b∈fp,b<s3.heap.objs.size:=λb hb=>by obtain⟨o,e,_⟩:=T.obj 0 _ st2 b hb;exact UF (old3 b o e)
 have hlNf:Nf.length=fi.length:=by have:=congrArg List.length hNf;simpa using this
 have Bok:(jo X scope (vP X.env.cells scope.names []) (Nt++Nf) s3 (Pv H2 D (.lst [])) fp).Ok:=by
  refine⟨I3.ok.mod,hkind,I.ok.glob,I.ok.blt,UJ _,λx y c e1 e2=>I.ok.inj x y c (hsub x c e1) (hsub y c e2),λx hx=>?_,λx c hf _=>(Bool.false_ne_true hf).elim,I.ok.hd,I.ok.frames,.inl rfl,λb hb=>⟨Nat.ne_of_lt (hfpl b hb),λx c e=>(f2 b hb).2.2.2.2.1 x c (hsub x c e)⟩,I3.bs,Nat.le_trans I.ok.bsz I3.sz,λb o e hb=>?_,λb hb hm=>?_,I3.stack,I3.stkFree,I3.tbs⟩
  .
   have hm:(x,NameKind.free)∈scope.names:=by
    rcases hx with hx|hx
    . exact iT (env:=X.env) hcell (.inl rfl) hx
    . exact iT (env:=X.env) hcell (.inr rfl) hx
   exact uf scope.names [] x (.inr ⟨hm,hcells _ hm rfl⟩)
  .
   rcases(f2 b hb).2.2.2.1 with z|z
   . exact I.ok.noex b o e z
   . exact absurd (UB (UF (I.ok.bs b o e).1) z) (Nat.lt_irrefl _)
  .
   rcases UK.mp (I3.stkSub b hm)with z|z
   . exact(f2 b hb).2.1 z
   . exact(f2 b hb).2.2.1 z
 have I4:PJ (jo X scope (vP X.env.cells scope.names []) (Nt++Nf) s3 (Pv H2 D (.lst [])) fp) [] (List.replicate Nt.length none++bZ fi σ) (Pv H2 D (.lst [])) {s3 with heap:=h4,toks:=s3.toks+([]:List (Str×Value)).length}:=by
  refine⟨Bok,rfl,I3.bare,Un.kept old4,⟨_,hns4',λi x v e1 e2 e3=>?_⟩,λx c e=>?_,I3.fresh,λx c e=>(I3.freeC x c (hsub x c e)).imp id λz=>⟨rfl,z.2⟩,λp hp=>absurd (show p∈([]:List (Addr×Obj))from hp) v6,I3.hok.kept old4,?_⟩
  .
   have e1:(Nt++Nf)[i]?=some x:=e1
   have hi':Nt.length<=i:=by
    by_cases q:i<Nt.length
    . rw[List.getElem?_append_left (by simpa using q),List.getElem?_replicate]at e2;split at e2<;>cases e2
    . omega
   rw[List.getElem?_append_right hi']at e1;rw[List.getElem?_append_right (by simpa using hi')]at e2;simp only[List.length_replicate]at e2;generalize i-Nt.length=k at e1 e2;have hk:k<fi.length:=by have:=(UA.mp e1).1;omega
   have e4:(Nf.map some)[k]?=(fi.map λj=>N[j]?)[k]?:=by rw[hNf]
   rw[List.getElem?_map,List.getElem?_map,e1,Ux hk]at e4;have e5:N[fi[k]]?=some x:=by simpa using e4.symm
   have e6:σ[fi[k]]?=some (some v):=by unfold bZ at e2;rw[List.getElem?_map,Ux hk]at e2;have hjl:=hjσ fi[k] (UD hk);rw[Ux hjl];simpa[Ux hjl]using e2
   have hxm:x∈Nf:=List.mem_of_getElem? e1;have hfree:=hNk x hxm;have hmem:(x,NameKind.free)∈scope.names:=PySem.mem_of_lookup hfree;have hkx:=hfr _ hmem rfl;obtain⟨m,_,hl⟩:=I3.loc;obtain⟨u,ru,lk⟩:=hl fi[k] x v (by rw[hXN];exact e5) e6 (by rw[hsc];exact .inr hkx);refine⟨u,ru,.inr ⟨gb (env:=X.env) hfree,?_⟩⟩;rcases lk with⟨z,_⟩|⟨_,c,hc1,hc2⟩
   .
    have z:X.env.scope.names.lookup x=some .local:=z;rw[hsc]at z;rcases hkx with q|q
    . rw[z]at q;cases q
    . rw[z]at q;cases q
   .
    obtain⟨d,hd⟩:=uf (cells:=X.env.cells) scope.names [] x (.inr ⟨hmem,c,hc1⟩);have:d=c:=by have:=hsub x d hd;rw[hc1]at this;exact(Option.some.inj this).symm
    subst this;obtain⟨o,ho,hdd⟩:=hc2;exact⟨d,hd,o,old4 _ o ho,hdd⟩
  . obtain⟨v,o,ho,hd⟩:=I3.cell x c (hsub x c e);exact⟨v,o,old4 c o ho,hd⟩
  . show(List.replicate Nt.length none++bZ fi σ).length=(Nt++Nf).length;simp[bZ,hlNf]
 have E4:aB X.K Pr (Pv H2 D (.lst [])) (some (.ref D)::(σ++(List.replicate Nt.length none++bZ fi σ))) (.own D []::(bB fi Z2++(List.replicate Nt.length .un++cI fi Z2))):=by
  have a1:aB X.K Pr (Pv H2 D (.lst [])) (σ++[some (.ref D)]) (Z2++[.own D []]):=E3.rearr (by simp[hρ2]) [] (by
   rw[List.append_nil,List.zip_append hρ2]
   exact(List.perm_append_comm (l₁:=[(some (V.ref D),L.own D [])]) (l₂:=σ.zip Z2)))
  have a2:=a1.takes fi hnd λj hj=>by have:=hjρ j hj;simp;omega
  rw[vQ hjσ,AV hjρ,vR hjρ]at a2;have a3:=a2.uns Nt.length;have hcl:(bZ fi σ).length=(cI fi Z2).length:=by simp[bZ,cI]
  have hul:σ.length=(bB fi Z2).length:=by rw[fZ];exact hρ2
  refine a3.rearr (by simp[hul,hcl]) [] ?_;have l1:(bZ fi σ++(σ++[some (V.ref D)])++List.replicate Nt.length none).zip (cI fi Z2++(bB fi Z2++[L.own D []])++List.replicate Nt.length L.un)=((bZ fi σ).zip (cI fi Z2)++(σ.zip (bB fi Z2)++[(some (V.ref D),L.own D [])]))++(List.replicate Nt.length none).zip (List.replicate Nt.length L.un):=by rw[List.zip_append (by simp only[List.length_append,hcl,hul];rfl),List.zip_append hcl,List.zip_append hul];rfl
  have l2:(some (V.ref D)::(σ++(List.replicate Nt.length none++bZ fi σ))).zip (L.own D []::(bB fi Z2++(List.replicate Nt.length L.un++cI fi Z2)))=(some (V.ref D),L.own D [])::(σ.zip (bB fi Z2)++((List.replicate Nt.length none).zip (List.replicate Nt.length L.un)++(bZ fi σ).zip (cI fi Z2))):=by rw[List.zip_cons_cons,List.zip_append hul,List.zip_append v6]
  rw[List.append_nil,l1,l2];generalize (bZ fi σ).zip (cI fi Z2)=z1;generalize σ.zip (bB fi Z2)=z2;generalize (List.replicate Nt.length none).zip (List.replicate Nt.length L.un)=z3;show(z1++(z2++[(some (V.ref D),L.own D [])])++z3).Perm ((some (V.ref D),L.own D [])::(z2++(z3++z1)));have p1:(z1++(z2++[(some (V.ref D),L.own D [])])++z3).Perm ((z2++[(some (V.ref D),L.own D [])])++z3++z1):=by rw[List.append_assoc];exact List.perm_append_comm
  refine p1.trans ?_;rw[List.append_assoc,List.append_assoc];exact List.perm_middle
 clear E3
 let B:Cx:=jo X scope (vP X.env.cells scope.names []) (Nt++Nf) s3 (Pv H2 D (.lst [])) fp
 have hul:σ.length=(bB fi Z2).length:=by rw[fZ];exact hρ2
 have stat:∀{H':Hp},(∀b∈fp,H' b=none)->∀b∈fp,BM B [] H' b:=λhn b hb=>by
  refine⟨hn b hb,Nat.ne_of_lt (hfpl b hb),λhm=>?_,.inl hb,λx c e=>(f2 b hb).2.2.2.2.1 x c (hsub x c e),λp hp=>absurd (show p∈([]:List (Addr×Obj))from hp) v6⟩;rcases UK.mp (I3.stkSub b hm)with z|z
  . exact(f2 b hb).2.1 z
  . exact(f2 b hb).2.2.1 z
 have loop:∀s5:Shared,s5={s3 with heap:=h4,toks:=s3.toks+([]:List (Str×Value)).length}->codeAny (model X.prog X.w) X.A (.compLoop (.ListComp elt [⟨tg,iter,ifs,0⟩] scope pos) 0 (.ref it) (.ref D) B.env)
   (compPost (model X.prog X.w) X.A X.xe use Q (.ref D) s3.heap.objs.size) s5:=by
  rintro s5 rfl
  refine Cn (λn s'=>∃i σ' H' Z' acc,n+i=xs.length/\PJ B [] σ' H' s'/\tn i s'.heap/\(∀b∈fp,H' b=none)/\σ'.drop Nt.length=bZ fi σ/\aB X.K Pr H' (some (.ref D)::(σ++σ')) (.own D acc::(bB fi Z2++Z'))/\acc.length<=i /\
   dz g ti te (xs.drop i) Z' acc λys ρb=>∀a,so (.own a ys) (iw fi (ρb.drop Nt.length) (bB fi Z2))) ?_ xs.length
   ⟨0,_,_,_,[],xL,I4,T.keep 0 _ _ st2 λb hb o e=>old4 b o (old3 b o e),λb hb=>by rw[ay (fpD b hb)];exact(f2 b hb).1,v6,E4,UJ _,by simpa using w0⟩
  rintro n s6 ⟨i,σ6,H6,Z6,acc,hn,I6,st6,fr6,dr6,E6,hal,w6⟩
  have pr:vh H2 H6:=λb o p e=>by
   have ne:b≠D:=λz=>by rw[z,fD]at e;cases e
   have e':B.H₀ b=some o:=by show Pv H2 D (.lst []) b=some o;rw[ay ne];exact e
   cases o with
   |tup ys=>exact I6.base.tups b ys e'
   |frz ob u=>exact I6.base.frzs b ob u e'
   |tbl t=>exact I6.base.tbls b t e'
   |_=>exact p.elim
  obtain⟨go,stop⟩:=G H6 pr;have hτ:(some (V.ref D)::σ).length=(L.own D acc::bB fi Z2).length:=by simp[hul]
  by_cases hlt:i<xs.length
  .
   obtain⟨hgo,hy⟩:=go i xs[i] (Ux hlt);rw[List.drop_eq_getElem_cons hlt]at w6;refine PP (T.item B rfl rfl rfl hc i [] s6 σ6 H6 (λ_ _=>False) I6 (stat fr6) st6 hgo) λr s7 ⟨u,hr,h7⟩=>?_;subst hr;refine PP h7 λ_ s8 ⟨x,H8,I8,r8,y8,st8,fr8⟩=>?_;obtain⟨gr,rx⟩:=hy x H8 y8;have I8':=I8.pinned (stat fr8) (T.obj _ _ st8);have E8:=E6.grown gr;have E8a:aB X.K (br H8 Z6) H8 σ6 Z6:=(aB.drop (τ:=some (V.ref D)::σ) (lam:=L.own D acc::bB fi Z2) E8 hτ).wide;obtain⟨gg,hgg,hgs⟩:=hg (vP X.env.cells scope.names []) s3 (Pv H2 D (.lst [])) fp;refine PP (hgg _ s8 σ6 H8 x u _ I8' r8 (hgs x σ6 H8 _ Z6 xs[i] _ I8.len E8a rx w6)) λ_ s9 ⟨σ9,H9,I9,e9,dr9,Z9,E9,q9⟩=>?_;subst e9;have F9:aB X.K Pr H9 (some (V.ref D)::(σ++σ9)) (L.own D acc::(bB fi Z2++Z9)):=aB.step (τ:=some (V.ref D)::σ) (lam:=L.own D acc::bB fi Z2) (w:=[]) (μ:=[]) E8 hτ E9 rfl;have F9a:aB X.K (br H9 Z9) H9 σ9 Z9:=(aB.drop (τ:=some (V.ref D)::σ) (lam:=L.own D acc::bB fi Z2) F9 hτ).wide;refine PP (hti _ _ _ _ _ s9 σ9 H9 _ Z9 _ I9 F9a q9) λok sA ⟨HA,ρA,IA,EA,qA⟩=>?_;have FA:aB X.K Pr HA (some (V.ref D)::(σ++σ9)) (L.own D acc::(bB fi Z2++ρA)):=aB.step (τ:=some (V.ref D)::σ) (lam:=L.own D acc::bB fi Z2) (w:=[]) (μ:=[]) F9 hτ EA rfl
   have again:∀{sZ:Shared}{HZ:Hp}{ρZ:Ev}{acc':List L2.D},PJ B ([]++vn fp s8.heap) σ9 HZ sZ->aB X.K Pr HZ (some (.ref D)::(σ++σ9)) (.own D acc'::(bB fi Z2++ρZ))->acc'.length<=i+1 ->
     (dz g ti te (xs.drop (i+1)) ρZ acc' λys ρb=>∀a,so (.own a ys) (iw fi (ρb.drop Nt.length) (bB fi Z2)))->∃m,m<n/\∃i σ' H' Z' acc,m+i=xs.length/\PJ B [] σ' H' sZ/\tn i sZ.heap/\(∀b∈fp,H' b=none)/\σ'.drop Nt.length=bZ fi σ /\
     aB X.K Pr H' (some (.ref D)::(σ++σ')) (.own D acc::(bB fi Z2++Z'))/\acc.length<=i/\dz g ti te (xs.drop i) Z' acc λys ρb=>∀a,so (.own a ys) (iw fi (ρb.drop Nt.length) (bB fi Z2)):=λ{sZ HZ ρZ acc'} IZ EZ hz qZ=>by
    refine⟨n-1,xL,i+1,σ9,HZ,ρZ,acc',xL,IZ.unpinned,T.keep _ _ _ st8 λb hb o e=>(IZ.pin (b,o) (List.mem_append_right _ (List.mem_append_right _ (kK hb e)))).1,λb hb=>?_,dr9.trans dr6,EZ,hz,qZ⟩;obtain⟨o,e,d⟩:=T.obj _ _ st8 b hb;exact(IZ.pin (b,o) (List.mem_append_right _ (List.mem_append_right _ (kK hb e)))).2.1
   cases ok with
   | false =>
    rw[if_neg Bool.false_ne_true]at qA ⊢;exact again IA FA xL qA
   | true =>
    rw[if_pos rfl]at qA ⊢;have FAa:aB X.K (br HA ρA) HA σ9 ρA:=(aB.drop (τ:=some (V.ref D)::σ) (lam:=L.own D acc::bB fi Z2) FA hτ).wide;refine PP (hte _ _ _ _ _ sA σ9 HA _ ρA _ IA FAa qA) λux sB qB=>?_;obtain⟨vy,HB,y,ρB,IB,rB,EB,qB⟩:=EL.frz (X:=B) (so:=λy Z3=>dz g ti te (xs.drop (i+1)) Z3 (acc++[y]) λys ρb=>∀a,so (.own a ys) (iw fi (ρb.drop Nt.length) (bB fi Z2))) qB;have FB:aB X.K Pr HB (some vy::(some (V.ref D)::(σ++σ9))) (.d y::(L.own D acc::(bB fi Z2++ρB))):=aB.step (τ:=some (V.ref D)::σ) (lam:=L.own D acc::bB fi Z2) (w:=[some vy]) (μ:=[.d y]) FA hτ EB rfl;obtain⟨_,e1,p1⟩:=FB.head_d;cases e1;have QO:=FB.tail.sl
    cases QO with
    | cons q0 _ =>
     obtain⟨_,vs,hDB,rvs⟩:=q0;refine PP (vD (X:=B) _ sB σ9 HB (.ref D) [vy] (.ref D) [ux] (λz H'=>H'=Pv HB D (.lst (vs++[vy]))) IB rfl (.cons rB .nil) ⟨D,vs,vy,rfl,rfl,hDB,by rw[rvs.length];omega,rfl⟩) λ_ sC ⟨z,HC,IC,_,eC⟩=>?_;subst eC;exact again IC (FB.tail.write (rvs.append (.cons p1 .nil))) (by simp;omega) qB
  .
   have e:i=xs.length:=by omega
   subst e;refine PP (T.done B rfl rfl rfl hc xs.length [] s6 σ6 H6 (λ_ _=>False) I6 (stat fr6) st6 stop) λr s7 ⟨hr,I7⟩=>?_;subst hr;rw[List.drop_length]at w6;obtain⟨m,hm,_⟩:=id I7.loc;have I8:PJ X gV σ H6 s7:=I3.call' (ch:=fp) I7.os I7.base I7.hok I7.bare λb hb=>⟨(f2 b hb).2.2.2.1,(f2 b hb).2.1,(f2 b hb).2.2.2.2.1,(f2 b hb).2.2.2.2.2⟩;have f4:=I3.fpOk (H':=H6) (b:=s3.heap.objs.size) (UJ _) I7.free
   .
    have hlen6:σ6.length=Z6.length:=(aB.drop (τ:=some (V.ref D)::σ) (lam:=L.own D acc::bB fi Z2) E6 hτ).len
    have a1:aB X.K Pr H6 (bZ fi σ++(σ++[some (V.ref D)])) (Z6.drop Nt.length++(bB fi Z2++[L.own D acc])):=by
     have hcd:(bZ fi σ).length=(Z6.drop Nt.length).length:=by rw[<- dr6,List.length_drop,List.length_drop,hlen6]
     refine E6.rearr (by simp[hcd,hul,hlen6]) ((σ6.take Nt.length).zip (Z6.take Nt.length)) ?_;have l0:σ6.zip Z6=(σ6.take Nt.length).zip (Z6.take Nt.length)++(bZ fi σ).zip (Z6.drop Nt.length):=by rw[<- dr6,<- List.zip_append (by simp[hlen6]),List.take_append_drop,List.take_append_drop]
     have l1:(some (V.ref D)::(σ++σ6)).zip (L.own D acc::(bB fi Z2++Z6))=(some (V.ref D),L.own D acc)::(σ.zip (bB fi Z2)++σ6.zip Z6):=by rw[List.zip_cons_cons,List.zip_append hul]
     have l2:(bZ fi σ++(σ++[some (V.ref D)])).zip (Z6.drop Nt.length++(bB fi Z2++[L.own D acc]))=(bZ fi σ).zip (Z6.drop Nt.length)++(σ.zip (bB fi Z2)++[(some (V.ref D),L.own D acc)]):=by rw[List.zip_append hcd,List.zip_append hul];rfl
     rw[l1,l2,l0];generalize (bZ fi σ).zip (Z6.drop Nt.length)=z1;generalize σ.zip (bB fi Z2)=z2;generalize (σ6.take Nt.length).zip (Z6.take Nt.length)=z3;have p1:((some (V.ref D),L.own D acc)::(z2++(z3++z1))).Perm ((z2++[(some (V.ref D),L.own D acc)])++(z3++z1)):=by rw[List.append_assoc];exact List.perm_middle.symm
     refine p1.trans ?_;have p2:((z2++[(some (V.ref D),L.own D acc)])++(z3++z1)).Perm ((z3++z1)++(z2++[(some (V.ref D),L.own D acc)])):=List.perm_append_comm;refine p2.trans ?_;rw[List.append_assoc];exact List.perm_append_comm
    have a2:=aB.backs (σ:=σ++[some (V.ref D)]) (cs:=Z6.drop Nt.length) (Z:=bB fi Z2++[L.own D acc]) fi hnd (by rw[List.length_drop,<- hlen6,<- List.length_drop,dr6];simp[bZ]) (λj hj=>by
     rw[List.getElem?_append_left (by rw[fZ];exact hjρ j hj)];exact zw fi Z2 j hj (hjρ j hj)) (λj hj=>by have:=hjσ j hj;simp;omega) (by rw[vQ hjσ];exact a1)
    rw[sV λj hj=>by rw[fZ];exact hjρ j hj]at a2;have hpl:σ.length=(iw fi (Z6.drop Nt.length) (bB fi Z2)).length:=by have:=a2.len;simpa using this
    refine hRR D s3.heap.objs.size s7 H6 acc (iw fi (Z6.drop Nt.length) (bB fi Z2)) m I8 hm f4.1 f4.2.1 I3.sz f4.2.2.2.2.1 f4.2.2.2.2.2 (a2.rearr (by simp[hpl]) [] ?_) (w6 D);rw[List.append_nil,List.zip_append hpl,List.zip_cons_cons];exact List.perm_append_comm (l₂:=[(some (V.ref D),L.own D acc)])
 exact codeAny_compStart_list (loop _ rfl) (T.self _ 0 _ _ _ (T.keep 0 _ _ st2 λb hb o e=>old4 b o (old3 b o e)) (loop _ rfl))
theorem fk{elt tg iter:Expr}{ifs:List Expr}{scope sc:Scope}{pos:Pos}{N Nt Nf:List Str}{fi:List Nat}{src:W (List D)}{g:Tg}{ti:W Bool}{te:W L}
  (hsc:X.env.scope=sc) (hXN:X.N=N) (hc:X.calm=true) (hi:QG X tg iter src)
  (hkind:scope.kind=.function) (hnames:∀x∈scope.names,x.2=.local->scope.names.lookup x.1=some .local) (hcell:∀y∈scope.names,y.2≠.cell)
  (hfr:∀x∈scope.names,x.2=.free->sc.names.lookup x.1=some .cell∨sc.names.lookup x.1=some .free)
  (hnd:fi.Nodup) (hNf:Nf.map some=fi.map (λj=>N[j]?)) (hNk:∀x∈Nf,scope.names.lookup x=some .free) (hfl:∀j∈fi,j<N.length)
  (hg:∀cl s₀ H₀ fp,QM (jo X scope cl (Nt++Nf) s₀ H₀ fp) tg Nt.length g) (hti:∀cl s₀ H₀ fp,QN (jo X scope cl (Nt++Nf) s₀ H₀ fp) ifs ti) (hte:∀cl s₀ H₀ fp,PL (jo X scope cl (Nt++Nf) s₀ H₀ fp) elt te)
  (hs:∀x,foldedSetIterable iter X.env x=pure x:=by intro _;rfl):PL X (.ListComp elt [⟨tg,iter,ifs,0⟩] scope pos) (jW Nt.length fi src g ti te):=by
 intro gV s σ H Pr Z so I E h;rw[eval_ListComp];refine vS (use:=none) hsc hXN hc hi hkind hnames hcell hfr hnd hNf hNk hfl hg hti hte I E h (λD C s7 H6 acc Z'' m I7 hm h1 h2 h3 h4 h5 E7 p=>?_) hs;exact⟨m,hm,λh' hsb=>⟨.ref D,H6,_,Z'',I7.turned (t':=s7.toks) (λb o hb e=>(hsb.2 b hb).trans e) h1 (Ne.symm (Ne.symm h2)) (.inr h3) h4 h5,rfl,E7,p⟩⟩
theorem IL{elt tg iter:Expr}{ifs:List Expr}{scope sc:Scope}{pos spos py:Pos}{y:Str}{j:Nat}{N Nt Nf:List Str}{fi:List Nat}{src:W (List D)}{g:Tg}{ti:W Bool}{te:W L}
  (hN:X.N.Nodup) (hj:X.N[j]?=some y) (hy:PH X.env.scope y)
  (hsc:X.env.scope=sc) (hXN:X.N=N) (hc:X.calm=true) (hi:QG X tg iter src)
  (hkind:scope.kind=.function) (hnames:∀x∈scope.names,x.2=.local->scope.names.lookup x.1=some .local) (hcell:∀y∈scope.names,y.2≠.cell)
  (hfr:∀x∈scope.names,x.2=.free->sc.names.lookup x.1=some .cell∨sc.names.lookup x.1=some .free)
  (hnd:fi.Nodup) (hNf:Nf.map some=fi.map (λj=>N[j]?)) (hNk:∀x∈Nf,scope.names.lookup x=some .free) (hfl:∀j∈fi,j<N.length)
  (hg:∀cl s₀ H₀ fp,QM (jo X scope cl (Nt++Nf) s₀ H₀ fp) tg Nt.length g) (hti:∀cl s₀ H₀ fp,QN (jo X scope cl (Nt++Nf) s₀ H₀ fp) ifs ti) (hte:∀cl s₀ H₀ fp,PL (jo X scope cl (Nt++Nf) s₀ H₀ fp) elt te)
  (hsw:swapsWith (.ListComp elt [⟨tg,iter,ifs,0⟩] scope pos) (some (.Name y py)) spos.line X.env=pure true:=by rfl) (hf:X.fn y=true∨X.env.scope.names.lookup y=some .local:=by first|exact .inl rfl|exact .inr rfl|assumption)
  (hs:∀x,foldedSetIterable iter X.env x=pure x:=by intro _;rfl):PM X (.Assign [.Name y py] (.ListComp elt [⟨tg,iter,ifs,0⟩] scope pos) spos) (bD j (jW Nt.length fi src g ti te)):=by
 intro gV s σ H Pr Z so I E h;rw[exec_Assign_Name_used _ _ _ _ hsw];refine Uw (wpAny_standAt (Uw ?_))
 show wpAny _ X.A (do let _ <- comprehension (.ListComp elt [⟨tg,iter,ifs,0⟩] scope pos) scope X.env (firstIterPos [⟨tg,iter,ifs,0⟩] pos) (newList []) false (eval iter X.env) (some (assign (.Name y py) X.env))) _ _ s
 refine Uw (PP (vS (use:=some (assign (.Name y py) X.env)) (Q:=λ_ s'=>SM X gV Pr so .next s') (so:=λr Z1=>so .nx (Z1.set j r)) hsc hXN hc hi hkind hnames hcell hfr hnd hNf hNk hfl hg hti hte I E h (λD C s7 H6 acc Z'' m I7 hm h1 h2 h3 h4 h5 E7 p=>?_) hs) λ_ s' hq=>UH (UH hq))
 show wpAny _ X.A (assign (.Name y py) X.env (.ref D)) _ _ _;refine wpAny_assign_Name (vm (v:=.ref D) I7 hN hj hy rfl (λs8 I8 ⟨a,sb,ha⟩=>?_) hf)
 have hCa:C≠a:=by
  rcases ha with z|z
  . rw[z];exact h2
  . exact λq=>h4 y a z q.symm
 refine⟨m,hm.sameBut sb hCa,λh' hsb=>⟨_,H6,_,I8.turned (t':=s8.toks) (λb o hb e=>(hsb.2 b hb).trans e) h1 h2 (.inr h3) h4 h5,E7.store (by rw[I7.len];exact(UA.mp hj).1),p⟩⟩
end
section
variable{X:Cx}{e a b:Expr}{pos:Pos}{ta tb te:W L}{x y:Str}
def Nm(i j:Nat)(ta tb:W L):W Fl:=λZ so=>ta Z λr Z1=>Qv r λv=>tb Z1 λr2 Z2=>Qv r2 λw=>so .nx ((Z2.set i (.d v)).set j (.d w))
theorem Lg{i j:Nat}{px py pt:Pos} {kt k2 pt2} (hc:X.calm=true) (hN:X.N.Nodup) (hi:X.N[i]?=some x) (hj:X.N[j]?=some y) (hij:i≠j)
  (hx:X.env.scope.names.lookup x=some .local) (hy:X.env.scope.names.lookup y=some .local) (ha:PL X a ta) (hb:PL X b tb)
  (hw:swappedStores [.Tuple [.Name x px,.Name y py] kt pt] (.Tuple [a,b] k2 pt2) X.env=pure (some [x,y]))
  (hs:swapsWithSole [.Tuple [.Name x px,.Name y py] kt pt] (.Tuple [a,b] k2 pt2) pos.line X.env=pure false:=by rfl)
  (h1:starEach [a,b] X.env=(false,eval a X.env)::starEach [b] X.env:=by rfl) (h2:starEach [b] X.env=[(false,eval b X.env)]:=by rfl) :
  PM X (.Assign [.Tuple [.Name x px,.Name y py] kt pt] (.Tuple [a,b] k2 pt2) pos) (Nm i j ta tb):=by
 refine PM.of (KC hc hN hi hj hij hx hy (cW (aA ha).pe (cW (aA hb).pe ly h2) h1) hw hs) λσ H Pr Z so p4 E h=>?_
 refine⟨Pr,Z,λr Z1=>match r with
  |.d v=>tb Z1 λr2 Z2=>Qv r2 λw=>so .nx ((Z2.set i (.d v)).set j (.d w))
  |_=>False,E,h,λv H1 r Z1 E1 pp=>?_⟩
 cases r with
 | d dv =>
  refine⟨br H1 Z1,Z1,λr Z2=>match r with
   |.d w=>so .nx ((Z2.set i (.d dv)).set j (.d w))
   |_=>False,E1.tail.wide,pp,λw H2 r2 Z2 E2 pp=>?_⟩
  cases r2 with
  | d dw =>
   have E3:aB X.K Pr H2 (some w::some v::σ) (.d dw::.d dv::Z2):=aB.step (τ:=[some v]) (lam:=[.d dv]) (w:=[some w]) (μ:=[.d dw]) E1 rfl E2 rfl;have il:i<σ.length:=by rw[p4];exact(UA.mp hi).1
   have jl:j<σ.length:=by rw[p4];exact(UA.mp hj).1
   obtain⟨_,e1,r1⟩:=E3.head_d;cases e1;have E4:aB X.K Pr H2 (σ.set i (some v)) (Z2.set i (.d dv)):=E3.tail.store il;exact⟨v,w,rfl,_,(E4.cons_d r1).store (by simpa using jl),pp⟩
  |_=>exact pp.elim
 |_=>exact pp.elim
def Fc(is:List Nat)(te:W L):W Fl:=λZ so=>te Z λr Z1=>Qv r λv=>cn is v Z1 λZ2=>so .nx Z2
theorem Co{tg:Expr}{is:List Nat}(hg:QE X tg (cn is))(he:PL X e te)(hs:swapsWithSole [tg] e pos.line X.env=pure false:=by rfl)(hw:swappedStores [tg] e X.env=pure none:=by rfl)
  (h1:(assignEach [tg] X.env).map (·.2)=[assign tg X.env]:=by rfl):PM X (.Assign [tg] e pos) (Fc is te):=by
 intro gV s σ H Pr Z so I E h;obtain⟨gg,hg,hgg⟩:=hg;refine wpAny_Assign_stores (PP (he gV s σ H Pr Z _ I E h) λv s1 q=>?_) hs hw;obtain⟨w,H1,d,Z1,I1,r1,E1,q1⟩:=EL.frz (so:=λd Z1=>cn is d Z1 λZ2=>so .nx Z2) q;rw[h1];obtain⟨_,e1,p1⟩:=E1.head_d;cases e1;exact PP (hg gV s1 σ H1 w v _ I1 r1 (hgg w σ H1 Pr Z1 d _ I1.len E1.tail p1 q1)) λ_ s2 ⟨σ',H',I',e',_,Z',E',q⟩=>by subst e';exact⟨σ',_,Z',I',E',q⟩
noncomputable def pA:D->Bool
 |.non=>true | .bl _=>true | .int _=>true | .str _=>true
 |_=>false
noncomputable def QP:D->D->Bool
 |.non,.non=>true
 |.bl a,.bl b=>a == b
 |.bl a,.int b=>(if a then 1 else 0) == b
 |.int a,.bl b=>a == (if b then 1 else 0)
 |.int a,.int b=>a == b
 |.str a,.str b=>a == b
 |_,_=>false
theorem m4{K:PySem.W.Frag}{H:Hp}{v:V}{d:D}(r:Qs K H v d)(h:pA d=true):rY v=true:=by cases r<;>first|rfl|(exact absurd h (by simp[pA]))
theorem Lh{K:PySem.W.Frag}{H:Hp}{v w:V}{d f:D}(r:Qs K H v d)(q:Qs K H w f)(h:pA d=true)(h':pA f=true):Qi v w=QP d f:=by cases r<;>cases q<;>first|rfl|(exact absurd h (by simp[pA]))|(exact absurd h' (by simp[pA]))
noncomputable def Qp(x:D)(ys:List D):Bool:=ys.any λy=>QP y x
theorem vT{K:PySem.W.Frag}{H:Hp}{v:V}{x:D}(r:Qs K H v x)(h:pA x=true):∀{vs:List V}{ys:List D},bA K H vs ys->ys.all pA=true->Qk v vs=Qp x ys/\vs.all rY=true
 |_,_,.nil,_=>⟨rfl,rfl⟩
 | _,_,.cons r0 t,ha=>by rw[List.all_cons,Bool.and_eq_true]at ha;obtain⟨i1,i2⟩:=vT r h t ha.2;unfold Qk Qp at i1 ⊢;rw[List.any_cons,List.any_cons,List.all_cons,i1,Lh r0 r ha.1 h,m4 r0 ha.1,i2];exact⟨rfl,rfl⟩
def AW(neg:Bool):Qw:=λx y k=>pA x=true/\l9 y λys=>ys.all pA=true/\k (.d (.bl (if neg then !Qp x ys else Qp x ys)))
theorem Li:Qx X (compareOp .In) (AW false):=Qx.of B1 λσ H Pr Z x y dx dy so E px py ⟨hx,h⟩=>by
 cases py with
 | lst hz rs =>
  obtain⟨ha,h⟩:=h;obtain⟨i1,i2⟩:=vT px hx rs ha;exact⟨_,_,rfl,.inl hz.l,m4 px hx,i2,_,E.cons_d (.bl _),by rw[i1];exact h⟩
 | tup hz rs =>
  obtain⟨ha,h⟩:=h;obtain⟨i1,i2⟩:=vT px hx rs ha;exact⟨_,_,rfl,.inr hz,m4 px hx,i2,_,E.cons_d (.bl _),by rw[i1];exact h⟩
 |_=>exact h.elim
theorem Fd:Qx X (compareOp .NotIn) (AW true):=Qx.of vx λσ H Pr Z x y dx dy so E px py ⟨hx,h⟩=>by
 cases py with
 | lst hz rs =>
  obtain⟨ha,h⟩:=h;obtain⟨i1,i2⟩:=vT px hx rs ha;exact⟨_,_,rfl,.inl hz.l,m4 px hx,i2,_,E.cons_d (.bl _),by rw[i1];exact h⟩
 | tup hz rs =>
  obtain⟨ha,h⟩:=h;obtain⟨i1,i2⟩:=vT px hx rs ha;exact⟨_,_,rfl,.inr hz,m4 px hx,i2,_,E.cons_d (.bl _),by rw[i1];exact h⟩
 |_=>exact h.elim
def QQ(X:Cx)(lo:Option Expr)(t:Option (W L)):Prop:=match lo,t with
 |none,none=>True
 |some e,some t=>PL X e t
 |_,_=>False
theorem vU{K:PySem.W.Frag}{H:Hp}{vs:List V}{xs:List D}(r:bA K H vs xs)(l u:Option Int):bA K H (GX vs l u) (Cm xs l u):=by unfold GX Cm;rw[r.length];exact(r.drop _).take _
noncomputable def QR(K:PySem.W.Frag)(t:Option (W L)):TO:=λσ H Q=>∃Pr Z so,aB K Pr H σ Z/\AU t Z so/\∀i H' Z',aB K Pr H' σ Z'->so i Z'->Q i H'
theorem Lj{lo:Option Expr}{t:Option (W L)}(h:QQ X lo t):PO X lo (QR X.K t):=by
 cases lo with
 | none =>
  cases t with
  | none =>
   intro gV s σ H Q I ⟨Pr,Z,so,E,hw,q⟩;exact HV gV s σ H Q I (q none H Z E hw)
  |some t=>exact h.elim
 | some e =>
  cases t with
  |none=>exact h.elim
  | some t =>
   intro gV s σ H Q I ⟨Pr,Z,so,E,hw,q⟩;refine HW (PL.pe (show PL X e t from h)) gV s σ H Q I ⟨Pr,Z,_,E,hw,λv H' r Z' E' pp=>?_⟩;obtain⟨i,rfl,pp⟩:=dC pp;obtain⟨_,e1,p1⟩:=E'.head_d;cases e1;cases p1;exact⟨i,rfl,q (some i) H' Z' E'.tail pp⟩
end
def Lk{α:Type}(o:Option L)(t u:W α)(Z:Ev)(so:α->Ev->Prop):Prop:=match o with
 |some (.own _ _)=>t Z so
 |_=>u Z so
noncomputable def dD{α:Type}(i:Nat)(t u:W α):W α:=λZ so=>Lk Z[i]? t u Z so
theorem Fe{α:Type}(a:Addr)(xs:List D)(t u:W α)(Z:Ev)(so:α->Ev->Prop):Lk (some (.own a xs)) t u Z so=t Z so:=(rfl)
theorem Ll{α:Type}(x:D)(t u:W α)(Z:Ev)(so:α->Ev->Prop):Lk (some (.d x)) t u Z so=u Z so:=(rfl)
theorem IM{α:Type}(a:Option Addr)(ls:List L)(t u:W α)(Z:Ev)(so:α->Ev->Prop):Lk (some (.bx a ls)) t u Z so=u Z so:=(rfl)
theorem fE{X:Cx}{e:Expr}{i:Nat}{t u:W L}(h:PL X e t)(h':PL X e u):PL X e (dD i t u):=λgV s σ H Pr Z so I E q=>by
 unfold dD Lk at q;split at q
 . exact h gV s σ H Pr Z so I E q
 . exact h' gV s σ H Pr Z so I E q
theorem IP{K:PySem.W.Frag}{c:Str}{C:Addr}{T:String}(h:jL K c C=true)(hm:PySem.W.kitMeta T=true):PySem.W.kitOne K (.ref C) (.type T)=some ((["ValueError","Exception","BaseException","object"]:List String).contains T):=by obtain⟨L,cd,S⟩:=jM h;unfold PySem.W.kitOne PySem.W.kitCls;rw[if_neg (show ¬((Value.ref C == Value.type T)=true)from λz=>by cases z)];dsimp only;rw[if_pos hm];show PySem.W.mroIn K C (.type T)=_;rw[S.mroIn,pY]
theorem vV{T:String}(h0:∀K d,(∀c ns xs,d≠.exc c ns xs)->PySem.W.kitOne K (QK d) (.type T)=some (mY T d))(hm:PySem.W.kitMeta T=true):∀K d t,QL K d t->PySem.W.kitOne K t (.type T)=some (mY T d):=by
 intro K d t h
 cases d with
 | exc c ns xs =>
  obtain⟨C,e,h⟩:=h;rw[e];exact IP h hm
 |_=>cases h;exact h0 K _ (λ_ _ _ z=>nomatch z)
theorem IQ:∀ K d t,QL K d t->PySem.W.kitOne K t (.type "int")=some (mY "int" d):=vV (λK d hd=>by cases d <;> first | rfl | exact absurd rfl (hd _ _ _)) y_
theorem Ff:∀ K d t,QL K d t->PySem.W.kitOne K t (.type "bool")=some (mY "bool" d):=vV (λK d hd=>by cases d <;> first | rfl | exact absurd rfl (hd _ _ _)) y_
theorem IR:∀ K d t,QL K d t->PySem.W.kitOne K t (.type "str")=some (mY "str" d):=vV (λK d hd=>by cases d <;> first | rfl | exact absurd rfl (hd _ _ _)) y_
theorem zy:∀ K d t,QL K d t->PySem.W.kitOne K t (.type "list")=some (mY "list" d):=vV (λK d hd=>by cases d <;> first | rfl | exact absurd rfl (hd _ _ _)) y_
theorem p8:∀ K d t,QL K d t->PySem.W.kitOne K t (.type "tuple")=some (mY "tuple" d):=vV (λK d hd=>by cases d <;> first | rfl | exact absurd rfl (hd _ _ _)) y_
def xO(K:PySem.W.Frag)(mg:Str->Option Value)(x:Str)(d:D):Prop:=∃v u,mg x=some u/\b8 v u/\∀H,Qs K H v d
theorem jX{X:Cx}{x:Str}{d:D}{pos:Pos}(g:xO X.K X.mg x d)(hg:Gl X x) (hdb:(x == ("__debug__" : Str))=false:=by decide):PL X (.Name x pos) (wC d):=by obtain⟨v,u,h1,h2,h3⟩:=g;exact Ip hg h1 h2 h3 hdb
def Nn(o:Obj)(d:D):Prop:=∃ its n vs ds,d=.tup ds/\o.cls=.type "tuple"/\o.data=.seq its n/\its.size<=sizeLine/\bO vs its.toList/\∀ K H,bA K H vs ds
theorem zz{K:PySem.W.Frag}{mg:Str->Option Value}{x:Str}{d:D}{l:Addr}{o:Obj}(h1:mg x=some (.ref l))(h2:K.lookup l=some o)(h3:Nn o d):xO K mg x d:=by obtain⟨its,n,vs,ds,rfl,hc,hd,hz,hv,hr⟩:=h3;exact⟨.ref l,_,h1,rfl,λH=>.tup (.inr ⟨o,its,n,h2,hc,hd,hz,hv⟩) (hr K H)⟩
theorem zA{K:PySem.W.Frag}{mg:Str->Option Value}{x:Str}{s:Str}{t:Tok}(h1:mg x=some (.str s t)):xO K mg x (.str s):=⟨.str s,_,h1,⟨t,rfl⟩,λH=>.str s⟩
theorem m5{K:PySem.W.Frag}{H:Hp}:∀ns:List Int,bA K H (ns.map V.int) (ns.map D.int)
 |[]=>.nil
 |n::ns=>.cons (.int n) (m5 ns)
theorem Cp{K:PySem.W.Frag}{H:Hp}{a:Addr}{ns:List Int}{fs:FS}{n:Nat}(hl:ns.length<=n)(hO:MV H)(hS:PU K H a (ns.map V.int))(h:fs [.d (.lst (ns.map .int))] (λr _=>r=.d (.bl true))):spF K 1 fs [.ref a] H (λv _=>v=.bl true) λ_ _ _=>False:=by
 have hz:Qr K H a (ns.map V.int):=by
  rcases hS with(h|⟨o,h⟩)|h
  .
   rcases hO a with z|⟨o,xs,z⟩|⟨q,z⟩
   . rw[z]at h;cases h
   . rw[z]at h;cases h
   . rw[z]at h;cases h
  . exact .inl ⟨o,h⟩
  . exact .inr h
 refine⟨rfl,λ_=>none,[.d (.lst (ns.map .int))],_,⟨(λb o e=>nomatch e),(show([]:List Addr).Nodup from List.nodup_nil),(λa h=>absurd (show a∈([]:List Addr)from h) v6),.cons ⟨.ref a,rfl,.lst hz (m5 ns)⟩ .nil⟩,h,λv H' r ls' E p=>?_⟩;subst p;obtain⟨_,e,r⟩:=E.head_d;cases e;cases r;rfl
section
variable{X:Cx}
def Np:Qw:=λx y k=>match y with
 |.non=>k (.d (.bl (match x with | .non=>true|_=>false)))
 |_=>False
def sW:Qw:=λx y k=>match y with
 |.non=>k (.d (.bl (match x with | .non=>false|_=>true)))
 |_=>False
theorem zB:Qx X (compareOp .IsNot) sW:=IF.imp λx y k h=>by
 unfold sW at h;split at h
 . exact⟨rfl,h⟩
 . exact h.elim
end
end L2
namespace L2
open PySem
theorem zC(a b:Int):Int.gcd b (a.fmod b)=Int.gcd a b:=by rw[Int.fmod_def,Int.gcd_sub_mul_left_right,Int.gcd_comm]
theorem lB(a:Int){b:Int}(h:b≠0):(a.fmod b).natAbs<b.natAbs:=by
 rw[Int.fmod_eq_emod];have h1:=Int.emod_nonneg a h;have h2:a % b<(b.natAbs:Int):=Int.emod_lt a h;split
 . omega
 . rename_i q;have:a % b≠0:=λe=>q (.inr (Int.dvd_of_emod_eq_zero e));omega
noncomputable def QS(q:Rat):D:=.tup [.int q.num,.int (q.den:Int)]
theorem xP{t b:Int}(h:b≠0):0<Int.gcd t b:=Int.gcd_pos_of_ne_zero_right _ h
noncomputable def cJ(t b:Int):Int:=if b<0 then -(Int.gcd t b:Int)else(Int.gcd t b:Int)
theorem zE{t b:Int}(h:b≠0):cJ t b≠0:=by have:=xP (t:=t) h;unfold cJ;split<;>omega
theorem Cq(t b:Int):(cJ t b).natAbs=Int.gcd t b:=by unfold cJ;split<;>omega
theorem zF{t b:Int}(h:b≠0):(cJ t b).natAbs<=b.natAbs:=by rw[Cq];exact Nat.le_of_dvd xL (by have:=Int.gcd_dvd_right t b;exact Int.natAbs_dvd_natAbs.mpr this |> λq=>by simpa using q)
theorem p9{a g:Int}(hg:g≠0)(h:g∣a):a.fdiv (-g)=-(a / g):=by obtain⟨k,rfl⟩:=h;rw[Int.mul_ediv_cancel_left _ hg,show g*k=(-g)*(-k) by rw[Int.neg_mul_neg],Int.mul_fdiv_cancel_left _ xL]
theorem Cr{t b:Int}(h:b≠0):t.fdiv (cJ t b)=(Rat.divInt t b).num:=by
 have hg:=xP (t:=t) h;have hd:(Int.gcd t b:Int)∣t:=Int.gcd_dvd_left t b;rw[Rat.num_divInt,Int.gcd_comm b t];unfold cJ;split
 . rename_i hb;rw[p9 xL hd,Int.sign_eq_neg_one_of_neg hb,Int.neg_one_mul,Int.neg_ediv_of_dvd hd]
 . rename_i hb;rw[Int.sign_eq_one_of_pos xL,Int.one_mul,Int.fdiv_eq_ediv_of_nonneg _ xL]
theorem IS{t b:Int}(h:b≠0):b.fdiv (cJ t b)=((Rat.divInt t b).den:Int):=by
 have hg:=xP (t:=t) h;have hd:(Int.gcd t b:Int)∣b:=Int.gcd_dvd_right t b;rw[Rat.den_divInt,if_neg h,Int.gcd_comm b t,Int.natCast_ediv];unfold cJ;split
 .
  rename_i hb;rw[p9 xL hd,<- Int.neg_ediv_of_dvd hd]
  congr 1
  omega
 .
  rename_i hb;rw[Int.fdiv_eq_ediv_of_nonneg _ xL]
  congr 1
  omega
theorem Cs{t b:Int}(h:b≠0):(Rat.divInt t b).den<=b.natAbs:=by rw[Rat.den_divInt,if_neg h];exact Nat.div_le_self _ _
theorem G2{t b:Int}(h:b≠0):(Rat.divInt t b).num.natAbs<=t.natAbs:=by rw[<- Cr h];exact PySem.natAbs_fdiv_le _ _
theorem den_pos(q:Rat):0<q.den:=Nat.pos_of_ne_zero q.den_nz
theorem vW(p q:Rat):Rat.divInt (p.num*(q.den:Int)+q.num*(p.den:Int)) ((p.den:Int)*(q.den:Int))=p+q:=by have hp:=den_pos p;have hq:=den_pos q;have:=Rat.divInt_add_divInt p.num q.num (d₁:=(p.den:Int)) (d₂:=(q.den:Int)) xL xL;rw[Rat.num_divInt_den,Rat.num_divInt_den]at this;exact this.symm
theorem G3(p q:Rat):Rat.divInt (p.num*(q.den:Int)-q.num*(p.den:Int)) ((p.den:Int)*(q.den:Int))=p-q:=by have:=vW p (-q);rw[Rat.sub_eq_add_neg,<- this];simp only[Rat.neg_num,Rat.neg_den,Int.neg_mul,Int.sub_eq_add_neg]
def RB(n:Nat)(q:Rat):Prop:=q.num.natAbs<2^n/\q.den<2^n
theorem RB.mono{m n:Nat}{q:Rat}(h:RB m q)(hl:m<=n):RB n q:=⟨UB h.1 (Nat.pow_le_pow_right x_ hl),UB h.2 (Nat.pow_le_pow_right x_ hl)⟩
theorem RB.neg{n:Nat}{q:Rat}(h:RB n q):RB n (-q):=⟨by rw[Rat.neg_num,Int.natAbs_neg];exact h.1,by rw[Rat.neg_den];exact h.2⟩
theorem RB.bn{n:Nat}{q:Rat}(h:RB n q)(hl:n<=1000000):cQ q.num:=UB h.1 (Nat.pow_le_pow_right x_ hl)
theorem RB.bd{n:Nat}{q:Rat}(h:RB n q)(hl:n<=1000000):cQ (q.den:Int):=by unfold cQ;rw[Int.natAbs_natCast];exact UB h.2 (Nat.pow_le_pow_right x_ hl)
theorem bj{a b m n:Nat}(h1:a<2^m)(h2:b<2^n):a*b<2^(m+n):=by rw[Nat.pow_add];exact Nat.mul_lt_mul'' h1 h2
theorem RB.add{m n:Nat}{p q:Rat}(hp:RB m p)(hq:RB n q):RB (m+n+1) (p+q):=by
 have dp:=den_pos p;have dq:=den_pos q;have hne:((p.den:Int)*(q.den:Int))≠0:=Int.mul_ne_zero xL xL;rw[<- vW p q];have a1:=bj hp.1 hq.2;have a2:=bj hq.1 hp.2;have a3:=bj hp.2 hq.2;have e:(2:Nat)^(m+n+1)=2^(m+n)+2^(m+n):=by rw[Nat.pow_succ];omega
 rw[Nat.add_comm n m]at a2;constructor
 . refine UI (G2 hne) ?_;refine UI (Int.natAbs_add_le _ _) ?_;rw[Int.natAbs_mul,Int.natAbs_mul,Int.natAbs_natCast,Int.natAbs_natCast,e];omega
 . refine UI (Cs hne) ?_;rw[Int.natAbs_mul,Int.natAbs_natCast,Int.natAbs_natCast,e];omega
theorem AX(p q:Rat):(p+q).den<=p.den*q.den:=by have dp:=den_pos p;have dq:=den_pos q;have hne:((p.den:Int)*(q.den:Int))≠0:=Int.mul_ne_zero xL xL;rw[<- vW p q];have:=Cs (t:=p.num*(q.den:Int)+q.num*(p.den:Int)) hne;rw[Int.natAbs_mul,Int.natAbs_natCast,Int.natAbs_natCast]at this;exact this
@[simp] theorem qa(i j:Int):QI (.int i) (.int j)=decide (i=j):=by simp[QI,QH,PyData.eqv];by_cases h:i=j<;>simp[h]
@[simp] theorem Ct(i j:Str):QI (.str i) (.str j)=decide (i=j):=by simp[QI,QH,PyData.eqv];by_cases h:i=j<;>simp[h]
@[simp] theorem G4(i j:Bool):QI (.bl i) (.bl j)=decide (i=j):=by simp[QI,QH,PyData.eqv];cases i<;>cases j<;>rfl
@[simp] theorem AY(i:Int):cH (.int i):=rfl
@[simp] theorem Cu(i:Bool):cH (.bl i):=rfl
@[simp] theorem AZ:cH .non:=rfl
mutual
noncomputable def QT:Nat->D->Bool
 |_,.non=>true
 |_,.bl _=>true
 |_,.int _=>true
 |_,.str x=>PyData.strOk x
 |0,.tup _=>false
 |0,.lst _=>false
 |n+1,.tup xs=>Eh n xs
 |n+1,.lst xs=>Eh n xs
 |_,.dct _=>false
 |_,.exc _ _ _=>false
 |_,.fn _ _=>false
noncomputable def Eh:Nat->List D->Bool
 |_,[]=>true
 |n,x::xs=>QT n x && Eh n xs
end
mutual
theorem uh:∀(n:Nat)(d:D),QT n d=true->(QH d).canLay0=true/\(QH d).depth<=n
 |_,.non,_=>⟨rfl,Nat.zero_le _⟩
 |_,.bl _,_=>⟨rfl,Nat.zero_le _⟩
 |_,.int _,_=>⟨rfl,Nat.zero_le _⟩
 |_,.str x,h=>⟨by simpa[QT,QH,PyData.canLay0]using h,Nat.zero_le _⟩
 |0,.tup _,h=>by simp[QT]at h
 |0,.lst _,h=>by simp[QT]at h
 | n+1,.tup xs,h=>by
  obtain⟨h1,h2⟩:=ui n xs (by simpa[QT]using h)
  exact⟨h1,Nat.succ_le_succ h2⟩
 | n+1,.lst xs,h=>by
  obtain⟨h1,h2⟩:=ui n xs (by simpa[QT]using h)
  exact⟨h1,Nat.succ_le_succ h2⟩
 |_,.dct _,h=>by simp[QT]at h
 |_,.exc _ _ _,h=>by simp[QT]at h
 |_,.fn _ _,h=>by simp[QT]at h
theorem ui:∀(n:Nat)(ds:List D),Eh n ds=true->PyData.canLayAll0 (fQ ds)=true/\PyData.depthAll (fQ ds)<=n
 |_,[],_=>⟨rfl,Nat.zero_le _⟩
 | n,d::ds,h=>by
  have h':QT n d=true/\Eh n ds=true:=by simpa[Eh]using h
  obtain⟨a1,a2⟩:=uh n d h'.1
  obtain⟨b1,b2⟩:=ui n ds h'.2
  exact⟨by simp[fQ,PyData.canLayAll0,a1,b1],by simp only[fQ,PyData.depthAll];omega⟩
end
theorem eL{n:Nat}{d:D}(h:QT n d=true)(hn:n<=64):cH d:=by obtain⟨h1,h2⟩:=uh n d h;unfold cH SeqAt.shaped;rw[h1,decide_eq_true xL];rfl
theorem Cv(xs ys:List D):QI (.tup xs) (.tup ys)=PyData.eqvAll (fQ xs) (fQ ys):=by simp[QI,QH,PyData.eqv]
theorem Cw(xs ys:List D):QI (.lst xs) (.lst ys)=PyData.eqvAll (fQ xs) (fQ ys):=by simp[QI,QH,PyData.eqv]
theorem jY(x y:D)(xs ys:List D):PyData.eqvAll (fQ (x::xs)) (fQ (y::ys))=(QI x y && PyData.eqvAll (fQ xs) (fQ ys)):=by simp[fQ,PyData.eqvAll,QI]
theorem uj:PyData.eqvAll (fQ []) (fQ [])=true:=by simp[fQ,PyData.eqvAll]
theorem m6(q:Rat):cH (QS q):=eL (n:=1) (by simp[QS,QT,Eh]) x_
theorem zG(p q:Rat):QI (QS p) (QS q)=decide (p=q):=by
 unfold QS;rw[Cv,jY,jY,uj,qa,qa,Bool.and_true];by_cases h:p=q
 . subst h;simp
 .
  rw[decide_eq_false h];by_cases h1:p.num=q.num
  . have:¬((p.den:Int)=(q.den:Int)):=λe=>h (Rat.ext h1 xL);simp[this]
  . simp[h1]
end L2
namespace L2
open PySem PySem.Spec PyProof.Rows
section
variable{X:Cx}{a b c:Expr}{pos p:Pos}{ta tb tc:W L}
def zH(o o':Qw)(ta tb tc:W L):W L:=λZ so=>ta Z λr Z1=>mW r λi=>tb Z1 λr Z2=>mW r λj=>o (.int i) (.int j) λz=>AL z λk=>if k=true then tc Z2 λr Z3=>mW r λl=>o' (.int j) (.int l) λz=>so z Z3 else so (.d (.bl false)) Z2
def MY(X:Cx)(op:CmpOp)(o:Qw):Prop:=∃f:Int->Int->Bool,P4 X (compareOp op) (P7 λi j=>.bl (f i j))/\∀i j k,o (.int i) (.int j) k->k (.d (.bl (f i j)))
theorem Nq:MY X .Lt vi:=⟨_,KJ,λ_ _ _ h=>h⟩
theorem Nr:MY X .LtE Nl:=⟨_,Na,λ_ _ _ h=>h⟩
theorem Fg{op op':CmpOp}{o o':Qw}{f f':Int->Int->Bool}(h1:∀i j k,o (.int i) (.int j) k->k (.d (.bl (f i j))))(h2:∀i j k,o' (.int i) (.int j) k->k (.d (.bl (f' i j))))
  (σ:St) (H Pr:Hp) (Z:Ev) (so:L->Ev->Prop) (Q:VK) (hQ:∀v H' r Z',aB X.K Pr H' (some v::σ) (r::Z')->so r Z'->Q v H') (E:aB X.K Pr H σ Z) (h:zH o o' ta tb tc Z so) :
  GW (P7 λi j=>.bl (f i j)) (P7 λi j=>.bl (f' i j)) (tL X.K ta) (tL X.K tb) (tL X.K tc) σ H Q:=by
 refine⟨Pr,Z,_,E,h,λv H1 r Z1 E1 p=>?_⟩;obtain⟨i,rfl,p⟩:=dC p;obtain⟨_,e1,r1⟩:=E1.head_d;cases e1;cases r1;refine⟨Pr,Z1,_,E1.tail,p,λv H2 r Z2 E2 p=>?_⟩;obtain⟨j,rfl,p⟩:=dC p;obtain⟨_,e1,r1⟩:=E2.head_d;cases e1;cases r1;refine⟨i,j,rfl,rfl,f i j,rfl,?_⟩;have q:=h1 i j _ p
 cases hk:f i j with
 | false =>
  rw[hk]at q;exact hQ _ _ _ Z2 (E2.tail.cons_d (.bl false)) q
 | true =>
  rw[hk]at q;refine⟨Pr,Z2,_,E2.tail,q,λv H3 r Z3 E3 p=>?_⟩;obtain⟨l,rfl,p⟩:=dC p;obtain⟨_,e1,r1⟩:=E3.head_d;cases e1;cases r1;exact⟨j,l,rfl,rfl,hQ _ _ _ Z3 (E3.tail.cons_d (.bl _)) (h2 j l _ p)⟩
theorem Fh{op op':CmpOp}{o o':Qw}(ho:MY X op o)(ho':MY X op' o')(ha:PL X a ta)(hb:PL X b tb)(hc:PL X c tc)(hm:lastMarks [op,op'] [b,c]=false:=by with_unfolding_all rfl) :
  PL X (.Compare a [op,op'] [b,c] pos) (zH o o' ta tb tc):=by
 obtain⟨f,r1,h1⟩:=ho;obtain⟨f',r2,h2⟩:=ho';exact PL.of (Ep r1 r2 ha.pe hb.pe hc.pe hm) λσ H Pr Z so E h=>Fg (op:=op) (op':=op') h1 h2 σ H Pr Z so _ (λv H' r Z' E' p=>⟨r,Z',E',p⟩) E h
end
end L2
namespace L2
open PySem PySem.Spec PyProof.Rows PySem.Builtin.Str
section
variable{X:Cx}{a:Expr}{pos p2:Pos}{ta:W L}{x:Str}
theorem Ln:Qc X (λx lo hi H Q=>∃z,x=.str z/\z.length<=sizeLine/\Q (.str (Txt.slice z lo hi)) H):=by
 intro gV s σ H x v vl vu lo hi sl Q I rx hs pl pu h;obtain⟨z,rfl,hz,q⟩:=h;obtain⟨t,rfl⟩:=rx;refine⟨"str",_,F.slot_str_getitem.lookup,typeIs_str _ _ _,?_⟩
 obtain⟨l',rfl,rfl⟩:∃l':Option (Int×Tok),vl=partValue l'/\lo=l'.map (·.1):=by
  cases pl
  . exact⟨none,rfl,rfl⟩
  . exact⟨some (_,_),rfl,rfl⟩
 obtain⟨u',rfl,rfl⟩:∃l':Option (Int×Tok),vu=partValue l'/\hi=l'.map (·.1):=by
  cases pu
  . exact⟨none,rfl,rfl⟩
  . exact⟨some (_,_),rfl,rfl⟩
 exact wpAny_getItem_str_slice (l:=l') (u:=u') (st:=none) hs rfl (post_val_or_str ⟨Nat.le_trans (Txt.slice_le z _ _) hz,λt' k=>⟨.str _,H,I.tok k,⟨t',rfl⟩,q⟩⟩)
def Nu(ta:W L)(lo hi:Option (W L)):W L:=λZ so=>ta Z λr Z1=>Qv r λd=>AU lo Z1 λl Z2=>AU hi Z2 λu Z3=>match d with
 |.lst xs=>∀a,so (.own a (Cm xs l u)) Z3
 |.str z=>z.length<=sizeLine/\so (.d (.str (Txt.slice z l u))) Z3
 |.tup xs=>¬(HT.sIx xs.length 0 l=0/\HT.sIx xs.length xs.length u=xs.length)/\so (.d (.tup (Cm xs l u))) Z3
 |_=>False
theorem Cy{lo hi:Option Expr}{tl th:Option (W L)}(ha:PL X a ta)(hl:QQ X lo tl)(hh:QQ X hi th):PL X (.Subscript a (.Slice lo hi none p2) pos) (Nu ta tl th):=by
 refine PL.of (Eu (Qc.or HX (Qc.or Ln KN)) (aA ha).pe (Lj hl) (Lj hh)) λσ H Pr Z so E h=>?_
 refine⟨Pr,Z,λr Z1=>match r with
  | .d d=>AU tl Z1 λl Z2=>AU th Z2 λu Z3=>match d with
   |.lst xs=>∀a,so (.own a (Cm xs l u)) Z3
   |.str z=>z.length<=sizeLine/\so (.d (.str (Txt.slice z l u))) Z3
   |.tup xs=>¬(HT.sIx xs.length 0 l=0/\HT.sIx xs.length xs.length u=xs.length)/\so (.d (.tup (Cm xs l u))) Z3
   |_=>False
  |_=>False,E,h,λv H1 r Z1 E1 pp=>?_⟩
 cases r with
 | d d =>
  obtain⟨_,e1,p1⟩:=E1.head_d;cases e1;refine⟨br H1 Z1,Z1,_,E1.tail.wide,pp,λl H2 Z2 E2 pp=>?_⟩;have F2:aB X.K Pr H2 (some v::σ) (.d d::Z2):=aB.step (τ:=[some v]) (lam:=[.d d]) (w:=[]) (μ:=[]) E1 rfl E2 rfl;refine⟨br H2 Z2,Z2,_,F2.tail.wide,pp,λu H3 Z3 E3 pp=>?_⟩;have F3:aB X.K Pr H3 (some v::σ) (.d d::Z3):=aB.step (τ:=[some v]) (lam:=[.d d]) (w:=[]) (μ:=[]) F2 rfl E3 rfl;obtain⟨_,e1,p1⟩:=F3.head_d;cases e1
  cases p1 with
  |lst hz rs=>exact .inl ⟨_,_,rfl,hz.l,λq hq=>⟨_,_,F3.tail.cons_own hq (vU rs l u),pp q⟩⟩
  |str z=>exact .inr (.inl ⟨z,rfl,pp.1,_,_,F3.tail.cons_d (.str _),pp.2⟩)
  |tup hz rs=>exact .inr (.inr ⟨_,_,rfl,hz,by rw[rs.length];exact pp.1,λq hq=>⟨_,_,F3.tail.cons_tup hq (vU rs l u),pp.2⟩⟩)
  |_=>exact pp.elim
 |_=>exact pp.elim
end
section
variable{X:Cx}{e a b c:Expr}{es:List Expr}{pos p apos:Pos}{x y:Str}
theorem PJ.turnedL{gV:List (Addr×Obj)}{σ:St}{H:Hp}{s:Shared}{h':Heap}{t':Nat}{fp:List Addr}(I:PJ X gV σ H s)(k:∀b o,b∉fp->s.heap.get? b=some o->h'.get? b=some o)(hf:∀b∈fp,BM X gV H b):PJ X gV σ H {s with heap:=h',toks:=t' }:=by
 have nit:∀b u,H b=some u->b∉fp:=λb u e z=>by rw[(hf b z).1]at e;cases e
 refine I.step (g':=s.gens) (d':=s.drawn) (ch:=fp) (λb hb=>?_) (λb o _ _ hc e _=>k b o hc e) (λb o _ _ hc e _=>⟨o.slots,k b o hc e⟩) (λ_ _ _ _ n=>n)
  (λb o hc e=>⟨o,k b o hc e⟩) (λ_ _ e=>e) (λ_ _ _ e=>e) (λ_ _ e=>e) (λm hm=>?_) (λb u e=>?_) I.bare
 . obtain⟨f0,f1,f2,f3,f4,f5⟩:=hf b hb;exact⟨f3,f1,f4,f5⟩
 . obtain⟨o,es,ep,ho,r⟩:=hm;exact⟨o,es,ep,k _ o (λz=>(hf _ z).2.1 rfl) ho,r⟩
 .
  refine(I.hok b u e).stay (λc v hc q=>k c v ?_ q) (λ_ q=>q) (λ_ _ q=>q) λ_ _ _ _ q=>q;rcases hc with z|z
  . rw[z];exact nit b u e
  . exact nit c _ z
noncomputable def QU(K:PySem.W.Frag)(a:Addr):It :=
 ⟨λi H=>∃xs x,PU K H a xs/\xs[i]?=some x,λi H v H'=>∃p x,v=.ref p/\H p=none/\H'=Pv H p (.tup [.int i,x])/\∀xs,PU K H a xs->xs[i]?=some x,λi H=>∃xs,PU K H a xs/\xs.length<=i⟩
theorem Cz{P:Program}{w:World}{K:PySem.W.Frag}{k:Nat}(q it a:Addr)(hne:q≠it):HN P w K (.Tuple es k pos) (QU K a) [q,it] q (λi h=>(∃old,IsEnum h q it i old)/\h.IsListIter it a i) where
 mem:=by simp
 obj:=λi h st b hb=>by
  obtain⟨⟨old,he⟩,o,e,c,d⟩:=st;rcases UK.mp hb with rfl|hb
  .
   exact⟨_,he,λv z=>by
    have z':Data.fields _=Data.cell v:=z
    cases z'⟩
  .
   have e':b=it:=by simpa using hb
   subst e';exact⟨o,e,λv z=>by rw[d]at z;cases z⟩
 keep:=λi h h' st kk=>⟨let ⟨old,he⟩:=st.1;⟨old,kk q v6 _ he⟩,st.2.at λo e=>kk it v6 o e⟩
 item:=by
  intro X hP hw hK hc i gV s σ H E I hf st hg;subst hP hw hK;obtain⟨xs,x,hq,hx⟩:=hg;obtain⟨its,rv,p,hz⟩:=I.list hq;obtain⟨u,hu,ru⟩:=rv.get hx;obtain⟨⟨old,he⟩,hit⟩:=st;have hai:a≠it:=λz=>by subst z;obtain⟨o,e,c,d⟩:=hit;obtain⟨o',e',c',_⟩:=p.isList;rw[e]at e';cases e';rw[c]at c';exact absurd c' v6
  have hqa:q≠a:=λz=>by subst z;obtain⟨o',e',c',_⟩:=p.isList;rw[he]at e';cases e';exact absurd c' v6
  have D:=Draws.list (prog:=X.prog) (w:=X.w) (A:=X.A.in1) (I.ok.hd hc) it a hai its.toArray;have hlt:i<its.toArray.size:=by rw[List.size_toArray];exact(UA.mp hu).1
  refine wpAny_pyNext_enum_itemD D he ⟨hit,p.isList⟩ hlt hne (by simp[hne,hqa]) λx' h' tk hPx hout hst' htup hsz hk=>?_
  have hx':x'=u:=by
   have:its.toArray[i]?=some u:=by simpa using hu
   rw[this]at hPx;exact(Option.some.inj hPx).symm
  subst hx';refine⟨.ref s.heap.objs.size,rfl,wpAny_letOwnedTupleGo_enum (s:={s with heap:=h',toks:=tk+1}) hout λh'' he'' hs''=>?_⟩;have qlt:q<s.heap.objs.size:=UF he;have ilt:it<s.heap.objs.size:=by obtain⟨o,e,_⟩:=hit;exact UF e
  have I1:PJ X gV σ (Pv H s.heap.objs.size (.tup [.int i,x])) {s with heap:=s.heap.push {cls:=.type "tuple",data:=.seq #[.int i tk,x'] },toks:=tk} :=
   I.laid (λb ob q=>Uy _ q) (UJ _) ⟨by show 2<=sizeLine;decide,[.int i tk,x'],.cons ⟨tk,rfl⟩ (.cons ru .nil),⟨_,Heap.get?_push_size _ rfl,rfl,_,rfl⟩⟩
  have hf1:∀b∈[q,it],BM X gV (Pv H s.heap.objs.size (.tup [.int i,x])) b:=λb hb=>by
   refine⟨?_,(hf b hb).2⟩;rw[ay ?_]
   . exact(hf b hb).1
   .
    rcases UK.mp hb with rfl|hb
    . exact Nat.ne_of_lt qlt
    . rw[List.mem_singleton.mp hb];exact Nat.ne_of_lt ilt
  have I2:=I1.turnedL (h':=h'') (t':=tk+1) (fp:=[q,it]) (λb o hb e=>by
   have hbq:b≠q:=λz=>hb (by simp[z]);have hbi:b≠it:=λz=>hb (by simp[z]);refine(hs''.2 b hbq).trans ?_;rcases Heap.get?_push_cases e with⟨rfl,rfl⟩|e
   . exact htup
   .
    exact hk b o hbq hbi e) hf1
  refine⟨.ref s.heap.objs.size,_,I2,rfl,⟨_,x,rfl,I.fresh,rfl,λys hy=>by rw[I.list_inj hy hq];exact hx⟩,⟨⟨_,by simpa using he''⟩,hst'.1.extBut hs''.extBut (Ne.symm hne)⟩,λb hb=>(hf1 b hb).1⟩
 done:=by
  intro X hP hw hK hc i gV s σ H E I hf st hg;subst hP hw hK;obtain⟨xs,hq,hx⟩:=hg;obtain⟨its,rv,p,hz⟩:=I.list hq;obtain⟨⟨old,he⟩,hit⟩:=st;have hai:a≠it:=λz=>by subst z;obtain⟨o,e,c,d⟩:=hit;obtain⟨o',e',c',_⟩:=p.isList;rw[e]at e';cases e';rw[c]at c';exact absurd c' v6
  have hl:=rv.length;have hT:s.TypeIs (.ref q) "enumerate":=⟨_,he,rfl⟩;unfold pyNext
  refine Uw (wpAny_attempt (wpAny_callSpecial?_slot (name:=Str.ofString "__next__") hT F.slot_enumerate_next
   (wpAny_call_entry F.slot_enumerate_next hT F.entry_enumerate_next ?_ (F.args_enumerate_next_1 _))))
  show wpAny _ _ (field (.ref q) 2 >>= _) _ _ _;refine Uw (wpAny_field he rfl (x:=.ref it) rfl ?_);refine Uw (wpAny_nextOf_list_end (I.ok.hd hc) hit p.isList (by simp;omega) λh' x he' hx'=>?_);obtain⟨o,ho,hcc⟩:=hx';refine Uw (wpAny_isInstance (T:="StopIteration") (b:=true) ⟨o,ho,hcc⟩ isSubtype_stop ?_);refine UH ⟨rfl,?_⟩;exact I.turnedL (t':=s.toks) (fp:=[q,it]) (λb o hb e=>he' b o (λz=>hb (by simp[z])) e) hf
 self:=λ_ _ _ _ _ st h=>let ⟨_,he⟩:=st.1;wpAny_pyIter_enum he h
noncomputable def fm(xs:List D):List D:=xs.zipIdx.map λp=>.tup [.int (p.2:Int),p.1]
theorem A0{K:PySem.W.Frag}{H:Hp}{a:Addr}{vs:List V}{xs:List D}(h:Qr K H a vs)(r:bA K H vs xs):AM K H (QU K a) (fm xs):=λH' p=>by
 have h':=(h.pres p).l;have p4:(fm xs).length=vs.length:=by rw[r.length];simp[fm]
 refine⟨λi x e=>?_,⟨vs,h',by rw[p4];exact UJ _⟩⟩;have hi:i<vs.length:=by rw[<- p4];exact(UA.mp e).1
 have hi2:i<xs.length:=by rw[<- r.length];exact hi
 have ex:x=.tup [.int (i:Int),xs[i]]:=by
  have:(fm xs)[i]?=some (.tup [.int (i:Int),xs[i]]):=by simp[fm,hi2]
  rw[this]at e;exact(Option.some.inj e).symm
 obtain⟨v,ev,rv⟩:=r.get (i:=i) (Ux hi2);refine⟨⟨vs,v,h',ev⟩,λw H2 ⟨q,y,e1,e2,e3,e4⟩=>?_⟩;have e5:=e4 vs h';rw[ev]at e5;cases e5;subst e1 e3 ex;refine⟨.inr ⟨_,_,e2,rfl⟩,.tup (.inl (.inl (aX ..))) (.cons (.int _) (.cons ((rv.pres p).new e2) .nil))⟩
def xQ(t:W L):W (List D):=λZ so=>t Z λr Z1=>Qv r λd=>match d with
 |.lst xs=>so (fm xs) Z1
 |_=>False
theorem m7{k:Nat}{t:W L} (hg:Gl X "enumerate") (hm:X.mg "enumerate"=none) (ha:PL X a t) (hs:starEach [a] X.env=[(false,eval a X.env)]:=by rfl):QG X (.Tuple es k apos) (.Call (.Name "enumerate" p) [a] [] pos) (xQ t):=by
 intro gV s σ H Pr Z so I E h
 refine Call_ (jn I hg hm boot_enumerate (PyProof.Rows.callWith_type1 (PP (aa (aA ha) af hs pos gV s σ H Pr Z (λls Z1=>match ls with
  |[.d (.lst xs)]=>so (fm xs) Z1
  |_=>False) I E ?_) λus s1 ⟨vs,H1,ls,Z1,I1,r1,hl,hb,E1,_,q1⟩=>?_) hs rfl))
 .
  show t Z _
  have e:(λr Z1=>Qv r λd=>match d with | .lst xs=>so (fm xs) Z1|_=>False)=(λr Z1=>Qv r λx=>aI Z1 λxs Z2=>match L.d x::xs with | [.d (.lst xs)]=>so (fm xs) Z2|_=>False):=by
   funext r Z1
   cases r with
   |un=>rfl
   |d d=>cases d<;>rfl
   |own=>rfl
   | bx b ls =>
    show d4 (bE (.bx b ls)) _=d4 (bE (.bx b ls)) _
    cases bE (.bx b ls)with
    |none=>rfl
    |some d=>cases d<;>rfl
   |dic b ls=>rfl
  rw[<- e];exact h
 .
  dsimp only at q1;split at q1
  .
   rename_i xs
   cases vs with
   |nil=>exact absurd hl v6
   | cons v vs =>
    have:vs=[]:=by
     have:vs.length=0:=by simpa using hl
     exact List.length_eq_zero_iff.mp this
    subst this;obtain⟨_,e1,p1⟩:=aB.head_d (σ:=σ) (Z:=Z1) E1;cases e1
    cases p1 with
    | lst hz rs =>
     obtain⟨u,rfl,ru⟩:=r1.one;cases ru;obtain⟨its,rv,pl,hz'⟩:=I1.list hz.l;refine call_enumerate_list pl.isList λh' hE hI hsz hk=>?_;refine wpAny_pyIter_enum (s:={s1 with heap:=h' }) hE ?_;have E2:aB X.K Pr H1 σ Z1:=aB.tail (σ:=σ) (Z:=Z1) E1;refine⟨s1.heap.objs.size+1,[s1.heap.objs.size+1,s1.heap.objs.size],_,_,H1,_,Z1,rfl,I1.kept (t':=s1.toks) hk,Cz _ _ _ (Nat.succ_ne_self _),⟨⟨_,hE⟩,hI⟩,λb hb=>?_,E2,A0 hz rs,q1⟩
     have hb':s1.heap.objs.size<=b:=by
      rcases UK.mp hb with rfl|hb
      . exact Nat.le_succ _
      . rw[List.mem_singleton.mp hb];exact UJ _
     exact I1.fpOk hb' (I1.hok.fresh hb')
  . exact q1.elim
end
section
variable{X:Cx}{e a b:Expr}{es:List Expr}{pos p p2 apos:Pos}{x y:Str}
noncomputable def QV(K:PySem.W.Frag)(a b:Addr):It :=
 ⟨λi H=>∃xs ys x y,PU K H a xs/\PU K H b ys/\xs[i]?=some x/\ys[i]?=some y,λi H v H'=>∃p x y,v=.ref p/\H p=none/\H'=Pv H p (.tup [x,y])/\(∀xs,PU K H a xs->xs[i]?=some x)/\∀ys,PU K H b ys->ys[i]?=some y,
  λi H=>∃xs ys,PU K H a xs/\PU K H b ys/\(xs.length<=i∨ys.length<=i)⟩
theorem cK{h:Heap}{l a:Addr}{its:Array Value}{o:Obj}(hl:h.IsList l its)(ho:h.get? a=some o) (hc:o.cls≠.type "list"):l≠a:=λz=>by subst z;obtain⟨o',e',c',_⟩:=hl;rw[ho]at e';cases e';exact hc c'
theorem Fi{P:Program}{w:World}{K:PySem.W.Frag}{k:Nat}(z TI TO i1 i2 l1 l2:Addr)(hnd:[z,TI,TO,i1,i2].Nodup):HN P w K (.Tuple es k pos) (QV K l1 l2) [z,TI,TO,i1,i2] z
  (λi h=>IsZip h z TI TO .none/\IsPair h TI (.ref i1) (.ref i2)/\(∃a b,IsPair h TO a b)/\h.IsListIter i1 l1 i/\h.IsListIter i2 l2 i) where
 mem:=by simp
 obj:=λi h st b hb=>by
  obtain⟨hz,hTI,⟨p,q,hTO⟩,⟨o1,e1,c1,d1⟩,⟨o2,e2,c2,d2⟩⟩:=st;simp only[UK,List.not_mem_nil,or_false]at hb;rcases hb with rfl|rfl|rfl|rfl|rfl
  .
   exact⟨_,hz,λv z=>by
    have z':Data.fields _=Data.cell v:=z
    cases z'⟩
  .
   exact⟨_,hTI,λv z=>by
    have z':Data.seq _ _=Data.cell v:=z
    cases z'⟩
  .
   exact⟨_,hTO,λv z=>by
    have z':Data.seq _ _=Data.cell v:=z
    cases z'⟩
  . exact⟨o1,e1,λv z=>by rw[d1]at z;cases z⟩
  . exact⟨o2,e2,λv z=>by rw[d2]at z;cases z⟩
 keep:=λi h h' st kk=>by obtain⟨hz,hTI,⟨p,q,hTO⟩,h1,h2⟩:=st;exact⟨kk z v6 _ hz,kk TI v6 _ hTI,⟨p,q,kk TO v6 _ hTO⟩,h1.at λo e=>kk i1 v6 o e,h2.at λo e=>kk i2 v6 o e⟩
 item:=by
  intro X hP hw hK hc i gV s σ H E I hf st hg;subst hP hw hK;obtain⟨xs,ys,x,y,hq1,hq2,hx,hy⟩:=hg;obtain⟨its,rv,pl,_⟩:=I.list hq1;obtain⟨its2,rv2,pl2,_⟩:=I.list hq2;obtain⟨u,hu,ru⟩:=rv.get hx;obtain⟨u2,hu2,ru2⟩:=rv2.get hy;obtain⟨hz,hTI,⟨p,q,hTO⟩,h1,h2⟩:=st;obtain⟨o1,e1,c1,d1⟩:=id h1;obtain⟨o2,e2,c2,d2⟩:=id h2;have n1:o1.cls≠.type "list":=by rw[c1]; simp
  have n2:o2.cls≠.type "list":=by rw[c2]; simp
  simp only[List.nodup_cons,UK,List.not_mem_nil,or_false,not_or,List.nodup_nil,and_true,not_false_eq_true]at hnd;obtain⟨⟨a1,a2,a3,a4⟩,⟨b1,b2,b3⟩,⟨c1',c2'⟩,d1'⟩:=hnd
  have D:ZipApart z TI TO i1 i2 l1 l2:=⟨Ne.symm a1,Ne.symm a2,Ne.symm a3,Ne.symm a4,b1,b2,b3,c1',c2',d1',cK pl.isList hz v6,cK pl.isList hTO v6,cK pl.isList e1 n1,cK pl.isList e2 n2,
   cK pl2.isList hz v6,cK pl2.isList hTO v6,cK pl2.isList e1 n1,cK pl2.isList e2 n2⟩
  refine wpAny_pyNext_zip_item D hz hTI hTO h1 h2 pl.isList pl2.isList (x:=u) (y:=u2) (by simpa using hu) (by simpa using hu2) λh' hz' hTO' h1' h2' hT' hsz hk=>?_;refine⟨.ref s.heap.objs.size,rfl,wpAny_letOwnedTupleGo_zip (s:={s with heap:=h' }) hz' λh'' hz'' hs''=>?_⟩
  have lt:∀b∈[z,TI,TO,i1,i2],b<s.heap.objs.size:=λb hb=>by
   simp only[UK,List.not_mem_nil,or_false]at hb;rcases hb with rfl|rfl|rfl|rfl|rfl
   . exact UF hz
   . exact UF hTI
   . exact UF hTO
   . exact UF e1
   . exact UF e2
  have I1:PJ X gV σ (Pv H s.heap.objs.size (.tup [x,y])) {s with heap:=s.heap.push {cls:=.type "tuple",data:=.seq #[u,u2] },toks:=s.toks} :=
   I.laid (λb ob q=>Uy _ q) (UJ _) ⟨by show 2<=sizeLine;decide,[u,u2],.cons ru (.cons ru2 .nil),⟨_,Heap.get?_push_size _ rfl,rfl,_,rfl⟩⟩
  have hf1:∀b∈[z,TI,TO,i1,i2],BM X gV (Pv H s.heap.objs.size (.tup [x,y])) b:=λb hb=>by refine⟨?_,(hf b hb).2⟩;rw[ay (Nat.ne_of_lt (lt b hb))];exact(hf b hb).1
  have I2:=I1.turnedL (h':=h'') (t':=s.toks) (fp:=[z,TI,TO,i1,i2]) (λb o hb e=>by
   simp only[UK,List.not_mem_nil,or_false,not_or]at hb;obtain⟨hbz,hbTI,hbTO,hb1,hb2⟩:=hb;refine(hs''.2 b hbz).trans ?_;rcases Heap.get?_push_cases e with⟨rfl,rfl⟩|e
   . exact hT'
   .
    exact hk b o hbz hbTO hb1 hb2 e) hf1
  exact⟨.ref s.heap.objs.size,_,I2,rfl,⟨_,x,y,rfl,I.fresh,rfl,λzs hy'=>by rw[I.list_inj hy' hq1];exact hx,λzs hy'=>by rw[I.list_inj hy' hq2];exact hy⟩,
   ⟨hz'',hs''.extBut _ _ D.TIz (hk _ _ D.TIz D.TITO D.TIi1 D.TIi2 hTI),⟨_,_,hs''.extBut _ _ D.TOz hTO'⟩,h1'.extBut hs''.extBut D.i1z,h2'.extBut hs''.extBut D.i2z⟩,λb hb=>(hf1 b hb).1⟩
 done:=by
  intro X hP hw hK hc i gV s σ H E I hf st hg;subst hP hw hK;obtain⟨xs,ys,hq1,hq2,hend⟩:=hg;obtain⟨its,rv,pl,_⟩:=I.list hq1;obtain⟨its2,rv2,pl2,_⟩:=I.list hq2;obtain⟨hz,hTI,⟨p,q,hTO⟩,h1,h2⟩:=st;obtain⟨o1,e1,c1,d1⟩:=id h1;obtain⟨o2,e2,c2,d2⟩:=id h2;have n1:o1.cls≠.type "list":=by rw[c1]; simp
  have n2:o2.cls≠.type "list":=by rw[c2]; simp
  simp only[List.nodup_cons,UK,List.not_mem_nil,or_false,not_or,List.nodup_nil,and_true,not_false_eq_true]at hnd;obtain⟨⟨a1,a2,a3,a4⟩,⟨b1,b2,b3⟩,⟨c1',c2'⟩,d1'⟩:=hnd
  have D:ZipApart z TI TO i1 i2 l1 l2:=⟨Ne.symm a1,Ne.symm a2,Ne.symm a3,Ne.symm a4,b1,b2,b3,c1',c2',d1',cK pl.isList hz v6,cK pl.isList hTO v6,cK pl.isList e1 n1,cK pl.isList e2 n2,
   cK pl2.isList hz v6,cK pl2.isList hTO v6,cK pl2.isList e1 n1,cK pl2.isList e2 n2⟩
  have hl:=rv.length;have hl2:=rv2.length
  have hend':its.toArray[i]?=none∨its2.toArray[i]?=none:=by
   rcases hend with h|h
   . exact .inl (by simp;omega)
   . exact .inr (by simp;omega)
  refine wpAny_pyNext_zip_end (I.ok.hd hc) D hz hTI hTO h1 h2 pl.isList pl2.isList hend' λh' hk=>⟨rfl,?_⟩;exact I.turnedL (t':=s.toks) (fp:=[z,TI,TO,i1,i2]) (λb o hb e=>hk b o (λz=>hb (by simp[z])) (λz=>hb (by simp[z])) (λz=>hb (by simp[z])) (λz=>hb (by simp[z])) e) hf
 self:=λ_ _ _ _ _ st h=>wpAny_pyIter_zip st.1 h
noncomputable def BB(xs ys:List D):List D:=(xs.zip ys).map λp=>.tup [p.1,p.2]
theorem CA{K:PySem.W.Frag}{H:Hp}{a b:Addr}{vs ws:List V}{xs ys:List D}(h:Qr K H a vs)(r:bA K H vs xs)(h2:Qr K H b ws)(r2:bA K H ws ys):AM K H (QV K a b) (BB xs ys):=λH' p=>by
 have h':=(h.pres p).l;have h2':=(h2.pres p).l;have p4:(BB xs ys).length=min vs.length ws.length:=by rw[r.length,r2.length];simp[BB]
 refine⟨λi x e=>?_,⟨vs,ws,h',h2',by rw[p4];omega⟩⟩;have hi:i<min vs.length ws.length:=by rw[<- p4];exact(UA.mp e).1
 have hi2:i<xs.length:=by rw[<- r.length];omega
 have hi3:i<ys.length:=by rw[<- r2.length];omega
 have ex:x=.tup [xs[i],ys[i]]:=by
  have:(BB xs ys)[i]?=some (.tup [xs[i],ys[i]]):=by simp[BB,hi2,hi3,List.getElem?_zip_eq_some]
  rw[this]at e;exact(Option.some.inj e).symm
 obtain⟨v,ev,rv⟩:=r.get (i:=i) (Ux hi2);obtain⟨v2,ev2,rv2⟩:=r2.get (i:=i) (Ux hi3);refine⟨⟨vs,ws,v,v2,h',h2',ev,ev2⟩,λw H2 ⟨q,y,y2,e1,e2,e3,e4,e5⟩=>?_⟩;have e6:=e4 vs h';have e7:=e5 ws h2';rw[ev]at e6;rw[ev2]at e7;cases e6;cases e7;subst e1 e3 ex;refine⟨.inr ⟨_,_,e2,rfl⟩,.tup (.inl (.inl (aX ..))) (.cons ((rv.pres p).new e2) (.cons ((rv2.pres p).new e2) .nil))⟩
def Kr(d d2:D)(k:List D->Prop):Prop:=match d,d2 with
 |.lst xs,.lst ys=>k (BB xs ys)
 |_,_=>False
def Lo(t u:W L):W (List D):=λZ so=>t Z λr Z1=>Qv r λd=>u Z1 λr2 Z2=>Qv r2 λd2=>Kr d d2 λzs=>so zs Z2
theorem xR{k:Nat}{t u:W L} (hg:Gl X "zip") (hm:X.mg "zip"=none) (ha:PL X a t) (hb:PL X b u) (hs:starEach [a,b] X.env=[(false,eval a X.env),(false,eval b X.env)]:=by rfl) (hs2:starEach [b] X.env=[(false,eval b X.env)]:=by rfl) :
  QG X (.Tuple es k apos) (.Call (.Name "zip" p) [a,b] [] pos) (Lo t u):=by
 intro gV s σ H Pr Z so I E h
 refine Call_ (jn I hg hm boot_zip (PyProof.Rows.callWith_type1 (PP (aa (aA ha) (aa (aA hb) af hs2) (by rw[hs,hs2]) pos gV s σ H Pr Z (λls Z1=>match ls with
  |[.d d,.d d2]=>Kr d d2 λzs=>so zs Z1
  |_=>False) I E ?_) λus s1 ⟨vs,H1,ls,Z1,I1,r1,hl,hb,E1,_,q1⟩=>?_) (by rw[hs,hs2]) (by rw[hs2];rfl)))
 .
  show t Z _
  have e:(λr Z1=>Qv r λd=>u Z1 λr2 Z2=>Qv r2 λd2=>Kr d d2 λzs=>so zs Z2)
    = (λr Z1=>Qv r λx=>aq (bI u) aI Z1 λxs Z2=>match L.d x::xs with | [.d d,.d d2]=>Kr d d2 λzs=>so zs Z2|_=>False):=by
   funext r Z1
   cases r with
   |un=>rfl
   |d d=>rfl
   |own a xs=>rfl
   | bx b ls =>
    show d4 (bE (.bx b ls)) _=d4 (bE (.bx b ls)) _;cases bE (.bx b ls)<;>rfl
   |dic b ls=>rfl
  rw[<- e];exact h
 .
  dsimp only at q1;split at q1
  .
   rename_i d d2;unfold Kr at q1;split at q1
   rotate_left
   . exact q1.elim
   rename_i xs ys
   match vs,hl with
   | [v,v2],_ =>
    obtain⟨_,e1,p1⟩:=aB.head_d (σ:=some v2::σ) (Z:=.d (.lst ys)::Z1) E1;cases e1;obtain⟨_,e1,p2⟩:=aB.head_d (σ:=σ) (Z:=Z1) (aB.tail (σ:=some v2::σ) (Z:=.d (.lst ys)::Z1) E1);cases e1
    cases p1 with
    | lst hz rs =>
     cases p2 with
     | lst hz2 rs2 =>
      obtain⟨u1,u2,rfl,ru,ru2⟩:=r1.two;cases ru;cases ru2;obtain⟨its,rv,pl,_⟩:=I1.list hz.l;obtain⟨its2,rv2,pl2,_⟩:=I1.list hz2.l;refine call_zip_2 pl.isList pl2.isList λh' hZ hTI hTO hI1 hI2 hsz hk=>?_;refine wpAny_pyIter_zip (s:={s1 with heap:=h' }) hZ ?_;have E1':aB X.K Pr H1 (some _::some _::σ) (.d _::.d _::Z1):=E1;have E2:aB X.K Pr H1 σ Z1:=E1'.tail.tail;refine⟨s1.heap.objs.size+4,[s1.heap.objs.size+4,s1.heap.objs.size+2,s1.heap.objs.size+3,s1.heap.objs.size,s1.heap.objs.size+1],_,_,H1,_,Z1,rfl,I1.kept (t':=s1.toks) hk,Fi _ _ _ _ _ _ _ v6,⟨hZ,hTI,⟨_,_,hTO⟩,hI1,hI2⟩,λb hb=>?_,E2,CA hz rs hz2 rs2,q1⟩
      have hb':s1.heap.objs.size<=b:=by
       simp only[UK,List.not_mem_nil,or_false]at hb;rcases hb with rfl|rfl|rfl|rfl|rfl
       . exact Nat.le_add_right _ _
       . exact Nat.le_add_right _ _
       . exact Nat.le_add_right _ _
       . exact UJ _
       . exact Nat.le_add_right _ _
      exact I1.fpOk hb' (I1.hok.fresh hb')
  . exact q1.elim
end
section
variable{X:Cx}{es:List Expr}{pos:Pos}{x:Str}
def MZ(X:Cx)(es:List Expr)(n:Nat)(is:List Nat):Prop:=∃gg:PX,PY X es gg/\es.length=is.length/\∀vs σ H Pr Z xs k,σ.length=X.N.length->aB X.K Pr H σ Z->bA X.K H vs xs->iS is xs Z k->gg vs σ H λσ' H'=>H'=H/\σ'.drop n=σ.drop n/\∃Z',aB X.K Pr H σ' Z'/\k Z'
theorem qc{n:Nat}:MZ X [] n []:=⟨_,BL,rfl,λvs σ H Pr Z xs k hl E r h=>by
 cases r with
 |nil=>exact⟨rfl,rfl,rfl,Z,E,h⟩
 |cons _ _=>exact h.elim⟩
theorem cR{i n:Nat}{is:List Nat}{x:Str}(hn:i<n)(hN:X.N.Nodup)(hi:X.N[i]?=some x)(hx:PH X.env.scope x)(hr:MZ X es n is)(hf:X.fn x=true∨X.env.scope.names.lookup x=some .local:=by first|exact .inl rfl|exact .inr rfl|assumption)
  (hs:(assignEach (.Name x pos::es) X.env).map (·.2)=assign (.Name x pos) X.env::(assignEach es X.env).map (·.2):=by rfl):MZ X (.Name x pos::es) n (i::is):=by
 obtain⟨gg,hg,p4,q⟩:=hr;refine⟨_,zg (tY hN hi hx hf) hg hs,by simp[p4],λvs σ H Pr Z xs k hl E r h=>?_⟩
 cases r with
 |nil=>exact h.elim
 | cons r0 t =>
  refine⟨_,_,rfl,?_⟩;have:=q _ (σ.set i (some _)) H Pr _ _ k (by simpa using hl) ((E.cons_d r0).store (by rw[hl];exact(UA.mp hi).1)) t h;rw[List.drop_set_of_lt hn]at this;exact this
theorem vX{is:List Nat}{k n:Nat}(hc:X.calm=true)(h:MZ X es n is)(hn:(assignEach es X.env).length=is.length:=by rfl)(hst:(assignEach es X.env).findIdx? (·.1)=none:=by rfl):QM X (.Tuple es k pos) n (cn is):=by
 obtain⟨gg,hg,p4,q⟩:=h;refine⟨_,GU hc hg hn hst,λv σ H Pr Z x k hl E r h=>?_⟩
 cases r with
 |tup hs rs=>exact⟨_,_,rfl,hs,by rw[rs.length];exact l8 h,q _ σ H Pr Z _ k hl E rs h⟩
 |_=>exact h.elim
end
end L2
namespace L2
open PySem PySem.Spec PyProof.Rows
mutual
noncomputable def QW:D->Bool
 |.lst _=>false
 |.dct _=>false
 |.exc _ _ _=>false
 |.fn _ _=>false
 |.tup xs=>rX xs
 |_=>true
noncomputable def rX:List D->Bool
 |[]=>true
 |x::xs=>QW x && rX xs
end
mutual
noncomputable def lC:L->Bool
 |.un=>true
 |.d x=>QW x
 |.own _ xs=>rX xs
 |.bx _ ls=>qd ls
 |.dic _ kvs=>kvs.all λp=>QW p.2
noncomputable def qd:List L->Bool
 |[]=>true
 |l::ls=>lC l && qd ls
end
theorem xS:lC .un=true:=by simp[lC]
theorem Lp(x:D):lC (.d x)=QW x:=by simp[lC]
theorem zJ(a:Addr)(xs:List D):lC (.own a xs)=rX xs:=by simp[lC]
theorem IT(a:Option Addr)(ls:List L):lC (.bx a ls)=qd ls:=by simp[lC]
theorem Fj(a:Addr)(kvs:List (Pu×D)):lC (.dic a kvs)=kvs.all λp=>QW p.2:=by simp[lC]
theorem CB:qd []=true:=by simp[qd]
theorem A1(l:L)(ls:List L):qd (l::ls)=(lC l && qd ls):=by simp[qd]
section
variable{X:Cx}{gV:List (Addr×Obj)}{σ:St}{H:Hp}{s:Shared}
theorem PJ.thaw{a:Addr}{o:Obj}{xs:List V}(I:PJ X gV σ H s)(h:H a=some (.frz o (.lst xs)))(h0:∀o u,X.H₀ a≠some (.frz o u)):PJ X gV σ (Pv H a (.lst xs)) s:=by
 have ne:∀b,H b=none->b≠a:=λb n e=>by subst e;rw[h]at n;cases n
 have nt:∀b xs,H b=some (.tup xs)->b≠a:=λb xs n e=>by subst e;rw[h]at n;cases n
 have no:∀b z,H b=some (.own z)->b≠a:=λb z n e=>by subst e;rw[h]at n;cases n
 have nf:∀b o,H b=some (.frz o (.own b))->b≠a:=λb o n e=>by subst e;rw[h]at n;cases n
 have nw:=(I.hok a _ h).2;refine⟨I.ok,I.os,I.bare,⟨I.base.keep,I.base.slot,λb ob e n hx=>?_,I.base.there,λb xs e=>?_,λb ob z e=>?_,λb ps e=>?_⟩,I.loc,I.cell,?_,λx c e=>?_,λp hp=>?_,λb z e=>?_,I.len⟩
 . have q:=I.base.free b ob e n hx;rw[ay (ne b q)];exact q
 . have q:=I.base.tups b xs e;rw[ay (nt b xs q)];exact q
 . have q:=I.base.frzs b ob z e;rw[ay (λy=>by subst y;exact h0 _ _ e)];exact q
 . have q:=I.base.tbls b ps e;rw[ay (λz=>by subst z;rw[h]at q;cases q)];exact q
 . rw[ay (ne _ I.free)];exact I.free
 .
  rcases I.freeC x c e with z|⟨hf,o,z⟩
  . exact .inl (by rw[ay (ne _ z)];exact z)
  . exact .inr ⟨hf,o,by rw[ay (nf _ _ z)];exact z⟩
 . obtain⟨e,n,r⟩:=I.pin p hp;exact⟨e,by rw[ay (ne _ n)];exact n,r⟩
 .
  by_cases hb:b=a
  . subst hb;rw[aX]at e;cases e;exact nw.stay (λc v _ q=>q) (λc q=>by rw[ay (no c _ q)];exact q) (λc xs q=>by rw[ay (nt c xs q)];exact q) λc ob _ _ q=>by rw[ay (nf c ob q)];exact q
  . rw[ay hb]at e;exact(I.hok b z e).stay (λc v _ q=>q) (λc q=>by rw[ay (no c _ q)];exact q) (λc xs q=>by rw[ay (nt c xs q)];exact q) λc ob _ _ q=>by rw[ay (nf c ob q)];exact q
end
def lD(H' H2:Hp)(S:List Addr):Prop:=(∀b,b∉S->H2 b=H' b)/\(∀a∈S,∃o vs,H' a=some (.frz o (.lst vs))/\H2 a=some (.lst vs))
theorem CC{X:Cx}{gV:List (Addr×Obj)}{σ:St}{s:Shared}:∀(S:List Addr){H:Hp},S.Nodup->PJ X gV σ H s->(∀a∈S,∃o vs,H a=some (.frz o (.lst vs)))->(∀a∈S,∀o u,X.H₀ a≠some (.frz o u))->∃H2,PJ X gV σ H2 s/\lD H H2 S
 |[],H,_,I,_,_=>⟨H,I,λ_ _=>rfl,λ_ h=>by simp at h⟩
 | a::S,H,nd,I,h,h0=>by
  obtain⟨na,nd⟩:=List.nodup_cons.mp nd;obtain⟨o,vs,ea⟩:=h a Uz;have I1:=I.thaw ea (h0 a Uz)
  obtain⟨H2,I2,T1,T2⟩:=CC S nd I1 (λb hb=>by
   obtain⟨o,us,e⟩:=h b (tu _ hb)
   exact⟨o,us,by rw[ay (λz:b=a=>na (by rw[<- z];exact hb))];exact e⟩) λb hb=>h0 b (tu _ hb)
  refine⟨H2,I2,λb hb=>?_,λb hb=>?_⟩
  . rw[T1 b (λz=>hb (tu _ z)),ay (λz:b=a=>hb (by rw[z];exact Uz))]
  .
   rcases UK.mp hb with rfl|hb
   . exact⟨o,vs,ea,by rw[T1 b na,aX]⟩
   . obtain⟨o',us,e1,e2⟩:=T2 b hb;rw[ay (λz:b=a=>na (by rw[<- z];exact hb))]at e1;exact⟨o',us,e1,e2⟩
section
variable{K:PySem.W.Frag}{H' H2:Hp}{S:List Addr}
mutual
theorem Qs.thaw(T:lD H' H2 S):∀{v:V}{d:D},QW d=true->Qs K H' v d->Qs K H2 v d
 |_,_,_,.non=>.non
 |_,_,_,.bl b=>.bl b
 |_,_,_,.int i=>.int i
 |_,_,_,.str x=>.str x
 | _,_,h,.tup hs r=>by
  refine .tup ?_ (bA.thaw T (by simpa[QW]using h) r)
  rcases hs with(e|⟨u,e⟩)|e
  .
   exact .inl (.inl (by rw[T.1 _ λz=>by obtain⟨o,vs,e1,_⟩:=T.2 _ z;rw[e1]at e;cases e];exact e))
  .
   exact .inl (.inr ⟨u,by rw[T.1 _ λz=>by obtain⟨o,vs,e1,_⟩:=T.2 _ z;rw[e1]at e;cases e];exact e⟩)
  .
   exact .inr e
 |_,_,h,.lst hs r=>by simp[QW]at h
 |_,_,h,.dct e=>by simp[QW]at h
 |_,_,h,.exc _ _ _ _ _ _ _ _=>by simp[QW]at h
 |_,_,h,.fn _ _ _ _ _ _ _ _ _=>by simp[QW]at h
theorem bA.thaw(T:lD H' H2 S):∀{vs:List V}{ds:List D},rX ds=true->bA K H' vs ds->bA K H2 vs ds
 |_,_,_,.nil=>.nil
 | _,_,h,.cons r t=>by
  simp only[rX,Bool.and_eq_true]at h
  exact .cons (Qs.thaw T h.1 r) (bA.thaw T h.2 t)
end
theorem lD.lst(T:lD H' H2 S){a:Addr}{vs:List V}(h:H' a=some (.lst vs)):a∉S/\H2 a=some (.lst vs):=by
 have n:a∉S:=λz=>by obtain⟨o,us,e,_⟩:=T.2 a z;rw[h]at e;cases e
 exact⟨n,(T.1 a n).trans h⟩
theorem lD.tup(T:lD H' H2 S){a:Addr}{vs:List V}(h:PV K H' a vs):PV K H2 a vs:=by
 rcases h with(e|⟨u,e⟩)|e
 . exact .inl (.inl (by rw[T.1 _ λz=>by obtain⟨o,vs,e1,_⟩:=T.2 _ z;rw[e1]at e;cases e];exact e))
 . exact .inl (.inr ⟨u,by rw[T.1 _ λz=>by obtain⟨o,vs,e1,_⟩:=T.2 _ z;rw[e1]at e;cases e];exact e⟩)
 . exact .inr e
mutual
theorem a6.thaw(T:lD H' H2 S):∀{s:Option V}(l:L),lC l=true->a6 K H' s l->a6 K H2 s l
 |_,.un,_,_=>by unfold a6;exact True.intro
 | _,.d x,h,q=>by
  unfold a6 at q ⊢
  obtain⟨v,e,r⟩:=q
  exact⟨v,e,r.thaw T (by simpa[lC]using h)⟩
 | _,.own a xs,h,q=>by
  unfold a6 at q ⊢
  obtain⟨e,vs,ha,r⟩:=q
  exact⟨e,vs,(T.lst ha).2,r.thaw T (by simpa[lC]using h)⟩
 | _,.bx none ls,h,q=>by
  unfold a6 at q ⊢
  obtain⟨a,vs,e,ha,r⟩:=q
  exact⟨a,vs,e,T.tup ha,bY.thaw T ls (by simpa[lC]using h) r⟩
 | _,.bx (some a) ls,h,q=>by
  unfold a6 at q ⊢
  obtain⟨e,vs,ha,r⟩:=q
  exact⟨e,vs,(T.lst ha).2,bY.thaw T ls (by simpa[lC]using h) r⟩
 | _,.dic a kvs,h,q=>by
  unfold a6 at q ⊢
  obtain⟨e,vs,ha,r⟩:=q
  have h':∀p∈kvs,QW p.2=true:=by simpa[lC]using h
  refine⟨e,vs,?_,Paired.impMem r λp hp q z=>⟨z.1,z.2.thaw T (h' p hp)⟩⟩
  rw[T.1 a λz=>by obtain⟨o,us,e1,_⟩:=T.2 _ z;rw[e1]at ha;cases ha]
  exact ha
theorem bY.thaw(T:lD H' H2 S):∀{vs:List V}(ls:List L),qd ls=true->bY K H' vs ls->bY K H2 vs ls
 |_,[],_,q=>by unfold bY at q ⊢;exact q
 | _,l::ls,h,q=>by
  unfold bY at q ⊢
  simp only[qd,Bool.and_eq_true]at h
  obtain⟨v,us,e,h1,h2⟩:=q
  exact⟨v,us,e,a6.thaw T l h.1 h1,bY.thaw T ls h.2 h2⟩
end
end
noncomputable def eX:L->Bool
 |.d _=>true
 |l=>lC l
theorem Fk:eX .un=true:=by simp[eX,lC]
theorem qe(x:D):eX (.d x)=true:=rfl
theorem CD(a:Addr)(xs:List D):eX (.own a xs)=rX xs:=by simp[eX,lC]
theorem CF(a:Addr)(kvs:List (Pu×D)):eX (.dic a kvs)=kvs.all λp=>QW p.2:=by simp[eX,lC]
theorem Fm(a:Option Addr)(ls:List L):eX (.bx a ls)=qd ls:=by simp[eX,lC]
noncomputable def d7(i:Nat)(Z:Ev):Bool:=(Z.set i .un).all eX
theorem sX{K:PySem.W.Frag}{H0 H' H2:Hp}{S:List Addr}(T:lD H' H2 S)(p:vh H0 H2):∀{σ:St}{Z Z0:Ev},Z.length=Z0.length ->
  (∀(j:Nat)(l:L),Z[j]?=some l->lC l=true∨∃x,l=.d x/\Z0[j]?=some (.d x))->Paired (a6 K H0) σ Z0->Paired (a6 K H') σ Z->Paired (a6 K H2) σ Z
 |[],[],_,_,_,_,_=>.nil
 | s::σ,l::Z,l0::Z0,hl,h,.cons q0 t0,.cons q t=>by
  refine .cons ?_ (sX T p (by simpa using hl) (λj l e=>h (j+1) l e) t0 t);rcases h 0 l rfl with hh|⟨x,rfl,e⟩
  . exact q.thaw T l hh
  .
   have e:l0=.d x:=by simpa using e
   subst e;exact q0.pres p (.d x) λa ha=>by simp[a8]at ha
 |[],_::_,_,_,_,_,t=>nomatch t
 |_::_,[],_,_,_,_,t=>nomatch t
mutual
theorem a6.lsts{K:PySem.W.Frag}{H:Hp}:∀{s:Option V}(l:L){x:D},a6 K H s l->bE l=some x->∀a∈a8 l,∃vs,H a=some (.lst vs)
 |_,.un,_,_,_,a,ha=>by simp[a8]at ha
 |_,.d x,_,_,_,a,ha=>by simp[a8]at ha
 |_,.dic _ _,_,_,h,_,_=>by simp[bE]at h
 | _,.own b xs,_,h,_,a,ha=>by
  simp only[a6]at h
  have e:a=b:=by simpa[a8]using ha
  subst e
  obtain⟨_,vs,q,_⟩:=h
  exact⟨_,q⟩
 | _,.bx none ls,_,h,hx,a,ha=>by
  simp only[a6]at h
  simp only[bE,Option.map_eq_some_iff]at hx
  obtain⟨xs,hx,_⟩:=hx
  obtain⟨b,vs,e,_,r⟩:=h
  exact bY.lsts ls r hx a (by simpa[a8]using ha)
 | _,.bx (some b) ls,_,h,hx,a,ha=>by
  simp only[a6]at h
  simp only[bE,Option.map_eq_some_iff]at hx
  obtain⟨xs,hx,_⟩:=hx
  obtain⟨e,vs,q,r⟩:=h
  rcases(by simpa[a8]using ha:a=b∨a∈eV ls)with z|z
  .
   subst z;exact⟨_,q⟩
  .
   exact bY.lsts ls r hx a z
theorem bY.lsts{K:PySem.W.Frag}{H:Hp}:∀{vs:List V}(ls:List L){xs:List D},bY K H vs ls->ck ls=some xs->∀a∈eV ls,∃vs,H a=some (.lst vs)
 |_,[],_,_,_,a,ha=>by simp[eV]at ha
 | _,l::ls,_,h,hx,a,ha=>by
  simp only[bY]at h
  obtain⟨v,us,e,h1,h2⟩:=h
  simp only[ck]at hx
  split at hx
  .
   rename_i x1 xs1 e1 e2
   rcases(by simpa[eV]using ha:a∈a8 l∨a∈eV ls)with z|z
   .
    exact a6.lsts l h1 e1 a z
   .
    exact bY.lsts ls h2 e2 a z
  .
   cases hx
end
theorem CG{X:Cx}{gV:List (Addr×Obj)}{σ0:St}{s s1:Shared}{Pr H H1 H':Hp}{σ τ:St}{Z lam:Ev}{i:Nat}{k:L}{x:D}{v:Option V}(I:PJ X gV σ0 H s)(E:aB X.K Pr H σ Z)(hi:Z[i]?=some k)(hSa:∀a∈a8 k,∃vs,H a=some (.lst vs))(F:oS H H1 (a8 k))(hfl:d7 i Z=true)
  (I':PJ X gV σ0 H' s1) (E1:aB X.K Pr H1 σ (Z.set i (.d x))) (E':aB X.K (br H1 (Z.set i (.d x))) H' (τ++σ) (lam++Z.set i (.d x))) (p4:τ.length=lam.length) (hr:lam.all lC=true):∃H2,PJ X gV σ0 H2 s1/\aB X.K Pr H2 (τ++σ) (lam++Z):=by
 have hil:i<Z.length:=(UA.mp hi).1;have prm:=iq hi (l:=.d x) rfl;have hnd:(a8 k++owns (Z.set i (.d x))).Nodup:=prm.nodup_iff.mp E.nd;obtain⟨nd1,nd2,nd3⟩:=List.nodup_append.mp hnd;have hna:∀a∈a8 k,a∉owns (Z.set i (.d x)):=λa ha z=>nd3 a ha a z rfl;have hb:∀b u,H1 b=some u->b∉owns (Z.set i (.d x))->H' b=some u:=λb u e hno=>by refine E'.sub b u ?_;unfold br;rw[if_neg hno];exact e
 have hS:∀a∈a8 k,∃o vs,H' a=some (.frz o (.lst vs)):=λa ha=>by obtain⟨vs,e⟩:=hSa a ha;obtain⟨o,eo⟩:=F.2.2 a ha vs e;exact⟨o,vs,hb a _ eo (hna a ha)⟩
 obtain⟨H2,I2,T⟩:=CC (a8 k) nd1 I' hS λa ha o u e=>by have z:=I.base.frzs a o u e;obtain⟨vs,q⟩:=hSa a ha;rw[q]at z;cases z
 have back:∀a∈a8 k,H2 a=H a:=λa ha=>by obtain⟨vs,e⟩:=hSa a ha;obtain⟨o,eo⟩:=F.2.2 a ha vs e;obtain⟨o',vs',e1,e2⟩:=T.2 a ha;rw[hb a _ eo (hna a ha)]at e1;cases e1;rw[e2,e]
 have P:vh H H2:=λb u hp e=>by
  have hno:b∉owns Z:=λz=>by obtain⟨ws,hz,mu⟩:=E.at_own z;rw[hz]at e;cases e;exact mu.no hp
  have hnk:b∉a8 k:=λz=>hno (prm.mem_iff.mpr (List.mem_append_left _ z));rw[T.1 b hnk];exact hb b u (F.1 b u hp e) λz=>hno (prm.mem_iff.mpr (List.mem_append_right _ z))
 obtain⟨sl1,sl2⟩:=Paired.unapp p4 E'.sl;have ndE:=E'.nd;rw[aE]at ndE;obtain⟨ne1,ne2,ne3⟩:=List.nodup_append.mp ndE
 have lamS:∀a∈owns lam,a∉a8 k/\Pr a=none/\a∉owns (Z.set i (.d x)):=λa ha=>by
  obtain⟨vs,e,mu⟩:=E'.at_own (a:=a) (by rw[aE];exact List.mem_append_left _ ha);have h1:a∉a8 k:=λz=>by obtain⟨o,us,e1,_⟩:=T.2 _ z;rw[e1]at e;cases e;exact mu
  have h3:a∉owns (Z.set i (.d x)):=λz=>ne3 a ha a z rfl;refine⟨h1,?_,h3⟩;have hoff:=E'.off a (by rw[aE];exact List.mem_append_left _ ha);unfold br at hoff;rw[if_neg h3]at hoff
  cases ep:Pr a with
  |none=>rfl
  |some w=>rw[E1.sub a w ep]at hoff;cases hoff
 have slt:Paired (a6 X.K H2) σ (Z.set i .un):=by
  have q:Paired (a6 X.K H') σ (Z.set i .un):=by have:=(Paired.set_r (b:=L.un) i sl2 λ_ _=>by unfold a6;exact True.intro);rwa [List.set_set]at this
  refine sX T P (Z0:=Z) v6 (λj l e=>?_) E.sl q;by_cases hj:j=i
  . subst hj;rw[List.getElem?_set_self hil]at e;cases e;exact .inl xS
  .
   have h1:=List.all_eq_true.mp hfl l (List.mem_of_getElem? (i:=j) e);rw[List.getElem?_set_ne (Ne.symm hj)]at e
   cases l with
   |un=>exact .inl xS
   |d y=>exact .inr ⟨y,rfl,e⟩
   |own b ys=>exact .inl h1
   |bx b ls=>exact .inl h1
   |dic b ls=>exact .inl h1
 have slr:Paired (a6 X.K H2) τ lam:=Paired.impMem sl1 λl hl s q=>q.thaw T l (List.all_eq_true.mp hr l hl);refine⟨H2,I2,λb u e=>?_,?_,λb hbm=>?_,Paired.app slr ?_⟩
 .
  have hno:b∉owns Z:=λz=>by have:=E.off b z;rw[e]at this;cases this
  have hnk:b∉a8 k:=λz=>hno (prm.mem_iff.mpr (List.mem_append_left _ z));rw[T.1 b hnk];refine hb b u ?_ λz=>hno (prm.mem_iff.mpr (List.mem_append_right _ z));rw[F.2.1 b hnk];exact E.sub b u e
 .
  rw[aE,List.nodup_append];refine⟨ne1,E.nd,λc hc d hd z=>?_⟩;subst z;obtain⟨h1,h2,h3⟩:=lamS c hc;rcases List.mem_append.mp (prm.mem_iff.mp hd)with z|z
  . exact h1 z
  . exact h3 z
 .
  rw[aE]at hbm;rcases List.mem_append.mp hbm with z|z
  . exact(lamS b z).2.1
  . exact E.off b z
 .
  obtain⟨sv,hs,q⟩:=E.slot hi;have:=Paired.set_r (b:=k) i slt λs es=>by rw[hs]at es;cases es;exact q.pres P k back
  rw[List.set_set]at this
  have e2:Z.set i k=Z:=by
   refine List.ext_getElem? λj=>?_;by_cases hj:j=i
   . subst hj;rw[List.getElem?_set_self hil,hi]
   . rw[List.getElem?_set_ne (Ne.symm hj)]
  rwa [e2]at this
def QX(o:Option L)(i:Nat)(t:W L)(Z:Ev)(so:L->Ev->Prop):Prop:=match o with
 |some (.own _ xs)=>d7 i Z=true/\t (Z.set i (.d (.lst xs))) λr Z'=>lC r=true/\Z'=Z.set i (.d (.lst xs))/\so r Z
 |some (.bx b ls)=>d7 i Z=true/\Bz b ls λx=>t (Z.set i (.d x)) λr Z'=>lC r=true/\Z'=Z.set i (.d x)/\so r Z
 |_=>t Z so
def vY(i:Nat)(t:W L):W L:=λZ so=>QX Z[i]? i t Z so
theorem IU(a:Addr)(xs:List D)(i:Nat)(t:W L)(Z:Ev)(so:L->Ev->Prop):QX (some (.own a xs)) i t Z so=(d7 i Z=true/\t (Z.set i (.d (.lst xs))) λr Z'=>lC r=true/\Z'=Z.set i (.d (.lst xs))/\so r Z):=(rfl)
theorem Lq(b:Option Addr)(ls:List L)(i:Nat)(t:W L)(Z:Ev)(so:L->Ev->Prop):QX (some (.bx b ls)) i t Z so=(d7 i Z=true/\Bz b ls λx=>t (Z.set i (.d x)) λr Z'=>lC r=true/\Z'=Z.set i (.d x)/\so r Z):=(rfl)
theorem Nv(x:D)(i:Nat)(t:W L)(Z:Ev)(so:L->Ev->Prop):QX (some (.d x)) i t Z so=t Z so:=(rfl)
theorem IV{X:Cx}{gV:List (Addr×Obj)}{s:Shared}{σ:St}{H Pr:Hp}{Z:Ev}{i:Nat}{k:L}{x:D}(I:PJ X gV σ H s)(E:aB X.K Pr H σ Z)(hi:Z[i]?=some k)(hx:bE k=some x):∃H1,PJ X gV σ H1 s/\aB X.K Pr H1 σ (Z.set i (.d x))/\oS H H1 (a8 k)/\∀a∈a8 k,∃vs,H a=some (.lst vs):=by obtain⟨sv,hs,sl⟩:=E.slot hi;obtain⟨H1,I1,E1,F⟩:=K0 k I (E.outL hi hs) hx;have hil:i<Z.length:=(UA.mp hi).1;have E2:=E1.back (i:=i) (by rw[List.getElem?_set_self hil]) hs;rw[List.set_set]at E2;exact⟨H1,I1,E2,F,sl.lsts k hx⟩
theorem qf{X:Cx}{e:Expr}(i:Nat){t:W L}(h:PL X e t):PL X e (vY i t):=by
 intro gV s σ H Pr Z so I E hw;have go:∀(k:L)(x:D),Z[i]?=some k->bE k=some x->d7 i Z=true->(t (Z.set i (.d x)) λr Z'=>lC r=true/\Z'=Z.set i (.d x)/\so r Z)->wpAny (model X.prog X.w) X.A (eval e X.env) (EL X gV σ Pr so) X.xe s:=by intro k x hi hx hfl hw;obtain⟨H1,I1,E1,F,Sa⟩:=IV I E hi hx;refine PP (h gV s σ _ _ _ _ I1 E1.wide hw) λu s1 ⟨v,H',r,Z',I',rv,E',hr,eρ,hp⟩=>?_;subst eρ;obtain⟨H2,I2,E2⟩:=CG (τ:=[some v]) (lam:=[r]) (v:=some v) I E hi Sa F hfl I' E1 E' rfl (by simpa using hr);exact⟨v,H2,r,Z,I2,rv,E2,hp⟩
 unfold vY QX at hw;split at hw
 . rename_i a xs hi;exact go _ _ hi rfl hw.1 hw.2
 . rename_i b ls hi;obtain⟨x,hx,hw'⟩:=xH hw.2;exact go _ _ hi hx hw.1 hw'
 . exact h gV s σ H Pr Z so I E hw
def QY(o:Option L)(i:Nat)(t:W Bool)(Z:Ev)(so:Bool->Ev->Prop):Prop:=match o with
 |some (.own _ xs)=>d7 i Z=true/\t (Z.set i (.d (.lst xs))) λr Z'=>Z'=Z.set i (.d (.lst xs))/\so r Z
 |some (.bx b ls)=>d7 i Z=true/\Bz b ls λx=>t (Z.set i (.d x)) λr Z'=>Z'=Z.set i (.d x)/\so r Z
 |_=>t Z so
theorem IW(a:Addr)(xs:List D)(i:Nat)(t:W Bool)(Z:Ev)(so:Bool->Ev->Prop):QY (some (.own a xs)) i t Z so=(d7 i Z=true/\t (Z.set i (.d (.lst xs))) λr Z'=>Z'=Z.set i (.d (.lst xs))/\so r Z):=(rfl)
theorem Lr(b:Option Addr)(ls:List L)(i:Nat)(t:W Bool)(Z:Ev)(so:Bool->Ev->Prop):QY (some (.bx b ls)) i t Z so=(d7 i Z=true/\Bz b ls λx=>t (Z.set i (.d x)) λr Z'=>Z'=Z.set i (.d x)/\so r Z):=(rfl)
theorem Nw(x:D)(i:Nat)(t:W Bool)(Z:Ev)(so:Bool->Ev->Prop):QY (some (.d x)) i t Z so=t Z so:=(rfl)
variable{X:Cx}
def Ls(neg:Bool):Qw:=λx y k=>cH x/\(QH x).depth<=62/\l9 y λys=>(∀z∈ys,cH z)/\k (.d (.bl (if neg then !AQ x ys else AQ x ys)))
open Classical in
noncomputable def eS(h:Heap)(dx:PyData)(u:Value):Bool:=decide (∃d as,Reads h u d as/\d.canLay0=true/\PyData.eqv d dx=true)
open Classical in
theorem Nx{h:Heap}{dx d:PyData}{u:Value}{as:List Addr}(r:Reads h u d as)(hc:d.canLay0=true):eS h dx u=PyData.eqv d dx:=by
 unfold eS;cases e:PyData.eqv d dx
 . refine decide_eq_false ?_;rintro⟨d',as',r',hc',e'⟩;have:=SeqAt.Reads.unique _ _ _ _ _ hc r r';subst this;rw[e]at e';cases e'
 . exact decide_eq_true ⟨d,as,r,hc,e⟩
theorem xT{A:Around}{s:Shared}{v:Value}{dx:D}{as:List Addr}(rx:Reads s.heap v (QH dx) as)(hx:cH dx)(hd:(QH dx).depth<=62)(hu:A.units+64<cLine):∀{ds:List D}{us:List Value}{bs:List Addr},ReadsAll s.heap us (fQ ds) bs->(∀z∈ds,cH z)->(∀u∈us,SeqAt.EqAt A.in1 s u v (eS s.heap (QH dx) u))/\us.any (eS s.heap (QH dx))=AQ dx ds
 |[],_,_,r,_=>by cases r;exact⟨λu hm=>by simp at hm,rfl⟩
 | d::ds,_,_,r,hs=>by
  cases r with
  | cons r0 rs =>
   obtain⟨i1,i2⟩:=xT (A:=A) rx hx hd hu rs λz hz=>hs z (tu _ hz);have h0:=hs d Uz;have e0:=Nx (dx:=QH dx) r0 (SeqAt.canLay_of_shaped h0);refine⟨λu hu'=>?_,?_⟩
   .
    rcases UK.mp hu' with rfl|hu'
    . rw[e0];refine SeqAt.eqAt_reads _ _ _ _ _ _ _ _ r0 rx (SeqAt.canLay_of_shaped h0) (SeqAt.canLay_of_shaped hx) ?_;have:min (QH d).depth (QH dx).depth<=(QH dx).depth:=Nat.min_le_right _ _;simp only[Around.in1_units];omega
    . exact i1 u hu'
   . rw[List.any_cons,e0,i2];rfl
theorem nT:∀{ds:List D},(∀z∈ds,cH z)->PyData.canLayAll0 (fQ ds)=true
 |[],_=>rfl
 | d::ds,h=>by show((QH d).canLay0 && PyData.canLayAll0 (fQ ds))=true;rw[SeqAt.canLay_of_shaped (h d Uz),nT λz hz=>h z (tu _ hz)];rfl
theorem Lu(hu:X.A.units+64<cLine):Qx X (compareOp .In) (Ls false):=by
 intro gV s σ H Pr Z x y v u dx dy so I rx ry E px py ⟨h1,h2,h⟩;obtain⟨as,ra⟩:=kN I dx x v rx px (SeqAt.canLay_of_shaped h1)
 cases py with
 | lst hz rs =>
  obtain⟨hs,ho⟩:=h;cases ry;obtain⟨its,r,pl,hz'⟩:=I.list hz.l;obtain⟨bs,rb⟩:=fX I _ _ _ r rs (nT hs);obtain⟨i1,i2⟩:=xT (A:=X.A) ra h1 h2 hu rb hs;refine SeqAt.in_listAt (eS s.heap (QH dx)) pl.isList (λw hw=>i1 w (by simpa using hw)) ⟨.bl _,H,_,I,rfl,E.cons_d (.bl _),?_⟩;rw[show its.toArray.any (eS s.heap (QH dx))=its.any (eS s.heap (QH dx)) by simp,i2];exact ho
 | tup hz rs =>
  obtain⟨hs,ho⟩:=h;cases ry;obtain⟨its,r,pl,hz'⟩:=I.tuple hz;obtain⟨bs,rb⟩:=fX I _ _ _ r rs (nT hs);obtain⟨i1,i2⟩:=xT (A:=X.A) ra h1 h2 hu rb hs;refine SeqAt.in_tupleAt (eS s.heap (QH dx)) pl (λw hw=>i1 w (by simpa using hw)) ⟨.bl _,H,_,I,rfl,E.cons_d (.bl _),?_⟩;rw[show its.toArray.any (eS s.heap (QH dx))=its.any (eS s.heap (QH dx)) by simp,i2];exact ho
 |_=>exact h.elim
variable{X:Cx}
theorem zK:∀{ns:List Int}{us:List Value},bO (ns.map V.int) us->IntsAre us ns
 |[],_,r=>by cases r;exact .nil
 | n::ns,_,r=>by
  cases r with
  | cons r0 rs =>
   obtain⟨t,rfl⟩:=r0;exact .cons n t (zK rs)
theorem oV{K:PySem.W.Frag}{H:Hp}:∀{vs:List V}{ns:List Int},bA K H vs (ns.map D.int)->vs=ns.map V.int
 |_,[],r=>by cases r;rfl
 | _,n::ns,r=>by
  cases r with
  | cons r0 rs =>
   cases r0;rw[oV rs];rfl
variable{X:Cx}
section
variable{X:Cx}{e a b c:Expr}{es:List Expr}{pos p p2:Pos}{ta:W L}{x y:Str}
def oW:List (Qw×W L)->D->W L
 |[],_=>λ_ _=>False
 |[(o,t)],dx=>λZ so=>t Z λy Z1=>Qv y λdy=>o dx dy λr=>AL r λk=>so (.d (.bl k)) Z1
 |(o,t)::q::r,dx=>λZ so=>t Z λy Z1=>Qv y λdy=>o dx dy λz=>AL z λk=>if k=true then oW (q::r) dy Z1 so else so (.d (.bl false)) Z1
def uk(ta:W L)(ls:List (Qw×W L)):W L:=λZ so=>ta Z λx Z1=>Qv x λdx=>oW ls dx Z1 so
inductive qg (X:Cx):List CmpOp->List Expr->List (Qw×W L)->Prop where
 |one {op:CmpOp} {e:Expr} {o:Qw} {t:W L} (ho:Qx X (compareOp op) o) (h:PL X e t):qg X [op] [e] [(o,t)]
 |cons {op:CmpOp} {e:Expr} {o:Qw} {t:W L} {ops:List CmpOp} {es:List Expr} {ls:List (Qw×W L)} (ho:Qx X (compareOp op) o) (h:PL X e t) (r:qg X ops es ls):qg X (op::ops) (e::es) ((o,t)::ls)
theorem um{op:CmpOp}{o:Qw}{gV:List (Addr×Obj)}{s:Shared}{σ:St}{H Pr:Hp}{Z:Ev}{v:V}{u:Value}{dx:D}{R:Bool->D->Ev->Prop}{t:W L}{Q:Value->Value->Shared->Prop}(ho:Qx X (compareOp op) o)(h:PL X e t)
  (I:PJ X gV σ H s) (rv:b8 v u) (E:aB X.K Pr H (some v::σ) (.d dx::Z)) (ht:t Z λy Z1=>Qv y λdy=>o dx dy λr=>AL r λk=>R k dy Z1)
  (hQ:∀u2 s3 w2 dy H3 Z1 k,PJ X gV σ H3 s3->b8 w2 u2->aB X.K Pr H3 (some w2::σ) (.d dy::Z1)->R k dy Z1->Q u2 (.bool k) s3) :
  wpAny (model X.prog X.w) X.A (eval e X.env) (λb s₁=>wpAny (model X.prog X.w) X.A (compareOp op u b) (λc s₂=>Q b c s₂) X.xe s₁) X.xe s:=by
 refine PP (h gV s σ H _ Z _ I E.tail.wide ht) λu2 s2 q=>?_;obtain⟨y,H2,dy,Z2,I2,r2,E2,q2⟩:=EL.frz (so:=λdy Z1=>o dx dy λr=>AL r λk=>R k dy Z1) q;have E3:aB X.K Pr H2 (some y::some v::σ) (.d dy::.d dx::Z2):=aB.step (τ:=[some v]) (lam:=[.d dx]) (w:=[some y]) (μ:=[.d dy]) E rfl E2 rfl;obtain⟨_,e1,p1⟩:=E3.head_d;obtain⟨_,e2,p2⟩:=E3.tail.head_d;cases e1;cases e2;have E4:aB X.K Pr H2 σ Z2:=E3.tail.tail;have E5:aB X.K Pr H2 (some y::σ) (.d dy::Z2):=E4.cons_d p1;have E5w:=E5;refine PP (ho gV s2 σ H2 (br H2 Z2) Z2 v y u u2 dx dy _ I2 rv r2 E4.wide p2 p1 q2) λw s3 ⟨z,H3,r,I3,rz,E6,pp⟩=>?_;obtain⟨k,rfl,pp⟩:=t8 pp;obtain⟨_,e3,p3⟩:=E6.head_d;cases e3;cases p3;cases rz;have P3:vh H2 H3:=t7 E4 E6.sub;have E7:aB X.K Pr H3 σ Z2:=E4.narrow E6.tail;exact hQ u2 s3 y dy H3 Z2 k I3 r2 (E7.cons_d (p1.pres P3)) pp
theorem Fn{ops:List CmpOp}{es:List Expr}{ls:List (Qw×W L)}(h:qg X ops es ls):∀(gV:List (Addr×Obj))(s:Shared)(σ:St)(H Pr:Hp)(Z:Ev)(so:L->Ev->Prop)(v:V)(u:Value)(dx:D)(pos:Pos),PJ X gV σ H s->b8 v u->aB X.K Pr H (some v::σ) (.d dx::Z)->oW ls dx Z so ->
  wpAny (model X.prog X.w) X.A (compareChain pos u ops (evalEach es X.env)) (EL X gV σ Pr so) X.xe s:=by
 induction h with
 | one ho h =>
  intro gV s σ H Pr Z so v u dx pos I rv E hl;refine chain_last ?_;exact um (R:=λk _ Z1=>so (.d (.bl k)) Z1) (Q:=λ_ c s=>EL X gV σ Pr so c s) ho h I rv E hl λu2 s3 w2 dy H3 Z1 k I3 r3 E3 q=>⟨.bl k,H3,_,Z1,I3,rfl,E3.tail.cons_d (.bl k),q⟩
 | @cons op e o t ops es ls ho h r ih =>
  intro gV s σ H Pr Z so v u dx pos I rv E hl
  cases r with
  | one ho2 h2 =>
   refine chain_link (um (R:=λk dy Z1=>if k=true then oW [_] dy Z1 so else so (.d (.bl false)) Z1) (Q:=λb c s=>wpAny (model X.prog X.w) X.A (truthy c) (λt s₃=>if t then _ else EL X gV σ Pr so c s₃) X.xe s) ho h I rv E hl λu2 s3 w2 dy H3 Z1 k I3 r3 E3 q=>?_)
   refine wpAny_truthy_bool ?_
   cases k with
   |false=>exact ite_ff ⟨.bl false,H3,_,Z1,I3,rfl,E3.tail.cons_d (.bl false),q⟩
   |true=>exact ite_tt (ih gV s3 σ H3 Pr Z1 so w2 u2 dy pos I3 r3 E3 q)
  | cons ho2 h2 r2 =>
   cases r2 with
   | one ho3 h3 =>
    refine chain_link (um (R:=λk dy Z1=>if k=true then oW (_::_::_) dy Z1 so else so (.d (.bl false)) Z1) (Q:=λb c s=>wpAny (model X.prog X.w) X.A (truthy c) (λt s₃=>if t then _ else EL X gV σ Pr so c s₃) X.xe s) ho h I rv E hl λu2 s3 w2 dy H3 Z1 k I3 r3 E3 q=>?_)
    refine wpAny_truthy_bool ?_
    cases k with
    |false=>exact ite_ff ⟨.bl false,H3,_,Z1,I3,rfl,E3.tail.cons_d (.bl false),q⟩
    |true=>exact ite_tt (ih gV s3 σ H3 Pr Z1 so w2 u2 dy pos I3 r3 E3 q)
   | cons ho3 h3 r3 =>
    refine chain_link (um (R:=λk dy Z1=>if k=true then oW (_::_::_) dy Z1 so else so (.d (.bl false)) Z1) (Q:=λb c s=>wpAny (model X.prog X.w) X.A (truthy c) (λt s₃=>if t then _ else EL X gV σ Pr so c s₃) X.xe s) ho h I rv E hl λu2 s3 w2 dy H3 Z1 k I3 r3 E3 q=>?_)
    refine wpAny_truthy_bool ?_
    cases k with
    |false=>exact ite_ff ⟨.bl false,H3,_,Z1,I3,rfl,E3.tail.cons_d (.bl false),q⟩
    |true=>exact ite_tt (ih gV s3 σ H3 Pr Z1 so w2 u2 dy pos I3 r3 E3 q)
theorem vZ{op op':CmpOp}{ops:List CmpOp}{r1 r2:Expr}{rs:List Expr}{ls:List (Qw×W L)}(ha:PL X a ta)(h:qg X (op::op'::ops) (r1::r2::rs) ls)(hm:lastMarks (op::op'::ops) (r1::r2::rs)=false:=by with_unfolding_all rfl):PL X (.Compare a (op::op'::ops) (r1::r2::rs) pos) (uk ta ls):=by intro gV s σ H Pr Z so I E ht;refine Compare_chain (PP (ha gV s σ H Pr Z _ I E ht) λu s1 q=>?_) hm;obtain⟨v,H1,dx,Z1,I1,rv,E1,q1⟩:=EL.frz (so:=λdx Z1=>oW ls dx Z1 so) q;exact Fn h gV s1 σ H1 Pr Z1 so v u dx pos I1 rv E1 q1
theorem qh{prog:Program}{w:World}{A:Around}{ks:List Bool}{us:List Value}(h:us=ks.map Value.bool):TruthOf prog w A (λi v=>us.toArray[i]?=some v) (λi=>ks.getD i true):=λi v s Q E hv hQ=>by
 subst h;rw[List.getElem?_toArray,List.getElem?_map]at hv
 cases q:ks[i]? with
 |none=>rw[q]at hv;cases hv
 | some k =>
  rw[q]at hv;cases hv;refine wpAny_truthy_bool ?_;have:ks.getD i true=k:=by rw[UE,q];rfl
  have hQ':Q (ks.getD i true) s:=hQ;rw[this]at hQ';exact hQ'
theorem CH(ks:List Bool):(List.range ks.length).all (λi=>ks.getD i true)=ks.all id:=by
 apply Bool.eq_iff_iff.mpr;simp only[List.all_eq_true,List.mem_range,id];constructor
 . intro h x hx;obtain⟨i,hi,e⟩:=List.getElem_of_mem hx;have:=h i hi;rw[UE,Ux hi]at this;simpa[e]using this
 . intro h i hi;rw[UE,Ux hi];exact h _ (UD hi)
theorem CI(ks:List Bool):(List.range ks.length).any (λi=>ks.getD i true)=ks.any id:=by
 apply Bool.eq_iff_iff.mpr;simp only[List.any_eq_true,List.mem_range,id];constructor
 . rintro⟨i,hi,e⟩;rw[UE,Ux hi]at e;exact⟨_,UD hi,e⟩
 . rintro⟨x,hx,e⟩;obtain⟨i,hi,e2⟩:=List.getElem_of_mem hx;refine⟨i,hi,?_⟩;rw[UE,Ux hi];simpa[e2]using e
theorem nU:∀{ks:List Bool}{us:List Value},bO (ks.map V.bl) us->us=ks.map Value.bool
 |[],_,.nil=>rfl
 | k::ks,_,.cons r t=>by have e:=nU t;subst e;cases r;rfl
theorem v5(hc:X.calm=true):jI X (.builtin "all") (λxs H Q=>∃(p:Addr)(ks:List Bool),xs=[.ref p]/\PU X.K H p (ks.map V.bl)/\Q (.bl (ks.all id)) H):=by
 intro gV s σ H xs us Q I r ⟨p,ks,e,hq,q⟩;subst e;obtain⟨u,rfl,r1⟩:=tZ r;cases r1;obtain⟨its,rv,pl,hz⟩:=I.list hq;have e:=nU rv;refine call_all_walk (wpAny_pyIter_list pl.isList ?_);have hne:p≠s.heap.objs.size:=λz=>by obtain⟨o,n,eo,_⟩:=pl;have:=UF eo;rw[z]at this;exact absurd this (Nat.lt_irrefl _)
 refine⟨s.heap.objs.size,_,_,_,_,_,(λi=>ks.getD i true),rfl,Walks.list (A:=X.A.in1) (I.ok.hd hc) _ p hne its.toArray,⟨⟨_,Heap.get?_push_size _ rfl,rfl,rfl⟩,pl.isList.at λo eo=>Uy _ eo⟩,qh e,λh' tk hk=>?_⟩;have hl:its.toArray.size=ks.length:=by rw[e];simp
 rw[hl,CH];refine⟨.bl _,H,I.kept (h':=h') (t':=tk) λb o eb=>hk b o (λhm=>?_) (Uy _ eb),rfl,q⟩;have e2:b=s.heap.objs.size:=by simpa using hm
 have:=UF eb;rw[e2]at this;exact absurd this (Nat.lt_irrefl _)
theorem v7(hc:X.calm=true):jI X (.builtin "any") (λxs H Q=>∃(p:Addr)(ks:List Bool),xs=[.ref p]/\PU X.K H p (ks.map V.bl)/\Q (.bl (ks.any id)) H):=by
 intro gV s σ H xs us Q I r ⟨p,ks,e,hq,q⟩;subst e;obtain⟨u,rfl,r1⟩:=tZ r;cases r1;obtain⟨its,rv,pl,hz⟩:=I.list hq;have e:=nU rv;refine call_any_walk (wpAny_pyIter_list pl.isList ?_);have hne:p≠s.heap.objs.size:=λz=>by obtain⟨o,n,eo,_⟩:=pl;have:=UF eo;rw[z]at this;exact absurd this (Nat.lt_irrefl _)
 refine⟨s.heap.objs.size,_,_,_,_,_,(λi=>ks.getD i true),rfl,Walks.list (A:=X.A.in1) (I.ok.hd hc) _ p hne its.toArray,⟨⟨_,Heap.get?_push_size _ rfl,rfl,rfl⟩,pl.isList.at λo eo=>Uy _ eo⟩,qh e,λh' tk hk=>?_⟩;have hl:its.toArray.size=ks.length:=by rw[e];simp
 rw[hl,CI];refine⟨.bl _,H,I.kept (h':=h') (t':=tk) λb o eb=>hk b o (λhm=>?_) (Uy _ eb),rfl,q⟩;have e2:b=s.heap.objs.size:=by simpa using hm
 have:=UF eb;rw[e2]at this;exact absurd this (Nat.lt_irrefl _)
theorem iU{K:PySem.W.Frag}{H:Hp}:∀{vs:List V}{ks:List Bool},bA K H vs (ks.map D.bl)->vs=ks.map V.bl
 |[],[],_=>rfl
 | _::_,k::ks,.cons r t=>by cases r;rw[iU t];rfl
 |[],_::_,r=>nomatch r
 |_::_,[],r=>nomatch r
def Lv:QJ:=λds k=>∃ks:List Bool,ds=[.lst (ks.map D.bl)]/\k (.d (.bl (ks.all id)))
def Lw:QJ:=λds k=>∃ks:List Bool,ds=[.lst (ks.map D.bl)]/\k (.d (.bl (ks.any id)))
theorem Lx(hc:X.calm=true):gF X (.builtin "all") Lv:=gF.of (v5 hc) λσ H Pr Z vs ds so E ps ⟨ks,e,h⟩=>by
 subst e;obtain⟨v,rfl,r⟩:=p7 ps
 cases r with
 | lst hz rs =>
  have e:=iU rs;subst e;exact⟨_,ks,rfl,hz.l,_,E.cons_d (.bl _),h⟩
theorem Ly(hc:X.calm=true):gF X (.builtin "any") Lw:=gF.of (v7 hc) λσ H Pr Z vs ds so E ps ⟨ks,e,h⟩=>by
 subst e;obtain⟨v,rfl,r⟩:=p7 ps
 cases r with
 | lst hz rs =>
  have e:=iU rs;subst e;exact⟨_,ks,rfl,hz.l,_,E.cons_d (.bl _),h⟩
end
end L2
set_option exponentiation.threshold 2000
namespace L2
open PySem PySem.Spec PyProof.Rows
section
variable{X:Cx}{e a b c:Expr}{pos p:Pos}{ta tb:W L}{x y:Str}
def pB(j:Int):Prop:=-1000000<=j/\j<1000000
theorem A2{lo hi c:Int}(h1:pB lo)(h2:pB hi)(h3:0<c)(h4:c<1000):0<=Builtin.Range.rangeSize lo hi c/\Builtin.Range.rangeSize lo hi c<=2000000:=by
 unfold Builtin.Range.rangeSize;rw[if_pos h3];unfold pB at h1 h2;split
 . have h5:0<=(hi-lo-1) / c:=Int.ediv_nonneg xL xL;have h6:(hi-lo-1) / c<=hi-lo-1:=Int.ediv_le_self _ xL;omega
 . omega
theorem A3{lo hi c:Int}(h1:pB lo)(h2:pB hi)(h3:0<c)(h4:c<1000):Builtin.Range.small lo hi c=true:=by have hz:=A2 h1 h2 h3 h4;unfold pB at h1 h2;unfold Builtin.Range.small;rw[if_pos h3];generalize Builtin.Range.rangeSize lo hi c=z at hz;simp only[Builtin.Range.rangeFitsLong,Bool.and_eq_true,Bool.or_eq_true,UG,beq_iff_eq];omega
mutual
noncomputable def jq:D->Bool
 |.int i=>decide (i.natAbs<2^1900)
 |.tup xs=>me xs
 |.lst xs=>me xs
 |_=>true
noncomputable def me:List D->Bool
 |[]=>true
 |x::xs=>jq x && me xs
end
theorem IX:(2:Nat)^1900<10^600:=by decide +kernel
theorem CJ{i:Int}(h:i.natAbs<2^1900):(PyData.shown (.int i)).length<=601:=by have e:=PySem.int_text_length_le10 (k:=600) x_ (Nat.lt_trans h IX);show(Str.ofString (toString i)).length<=601;rw[PySem.ofString_length];exact e
mutual
theorem pN:∀d:D,jq d=true->(QH d).intsShort 601=true/\(QH d).showable=true
 |.non,_=>⟨rfl,rfl⟩
 |.bl _,_=>⟨rfl,rfl⟩
 |.str _,_=>⟨rfl,rfl⟩
 |.dct _,_=>⟨rfl,rfl⟩
 |.exc _ _ _,_=>⟨rfl,rfl⟩
 |.fn _ _,_=>⟨rfl,rfl⟩
 | .int i,h=>by
  have h':i.natAbs<2^1900:=by simpa only[jq,UG]using h
  refine⟨by simp only[QH,PyData.intsShort,UG];exact CJ h',?_⟩
  simp only[QH,PyData.showable,UG]
  by_cases h0:i.natAbs=0
  .
   rw[h0];decide
  .
   exact(Nat.log2_lt h0).mpr (UB h' (Nat.pow_le_pow_right x_ x_))
 | .tup xs,h=>by
  obtain⟨h1,h2⟩:=qj xs (by simpa only[jq]using h)
  exact⟨by simpa only[QH,PyData.intsShort]using h1,by simpa only[QH,PyData.showable]using h2⟩
 | .lst xs,h=>by
  obtain⟨h1,h2⟩:=qj xs (by simpa only[jq]using h)
  exact⟨by simpa only[QH,PyData.intsShort]using h1,by simpa only[QH,PyData.showable]using h2⟩
theorem qj:∀ds:List D,me ds=true->PyData.intsShortAll 601 (fQ ds)=true/\PyData.showableAll (fQ ds)=true
 |[],_=>⟨rfl,rfl⟩
 | d::ds,h=>by
  simp only[me,Bool.and_eq_true]at h
  obtain⟨h1,h2⟩:=pN d h.1
  obtain⟨h3,h4⟩:=qj ds h.2
  exact⟨by simp only[fQ,PyData.intsShortAll,h1,h3,Bool.and_self],by simp only[fQ,PyData.showableAll,h2,h4,Bool.and_self]⟩
end
structure zL (d:D):Prop where
 ok:QT 40 d=true
 sh:jq d=true
 wt:(QH d).weight<=20000
theorem zL.len{d:D}(h:zL d):(QH d).shown.length<=sizeLine:=by
 have h1:=PyData.shown_le 601 x_ (QH d) (PyData.leavesShort_of_canLay0 601 _ (uh 40 d h.ok).1 (pN d h.sh).1);have h2:=h.wt;have e:sizeLine=16777216:=by decide
 rw[e];omega
def Ny(ta tb:W L):W L:=λZ so=>ta Z λr Z1=>match r with
 |.own _ xs=>tb Z1 λr2 Z2=>mW r2 λj=>(0<=j/\j<=100000)/\xs.length*j.toNat<=sizeLine/\∀p,so (.own p (List.replicate j.toNat xs).flatten) Z2
 |_=>False
theorem bA.rep{K:PySem.W.Frag}{H:Hp}{vs:List V}{ds:List D}(r:bA K H vs ds):∀k:Nat,bA K H (List.replicate k vs).flatten (List.replicate k ds).flatten
 |0=>.nil
 | k+1=>by rw[List.replicate_succ,List.replicate_succ,List.flatten_cons,List.flatten_cons];exact r.append (bA.rep r k)
theorem Lz(ha:PL X a ta)(hb:PL X b tb):PL X (.BinOp a .Mult b pos) (Ny ta tb):=by
 intro gV s σ H Pr Z so I E h;refine wpAny_BinOp (PP (ha gV s σ H Pr Z _ I E h) λu s1 ⟨v,H1,r,Z1,I1,r1,E1,q1⟩=>?_);dsimp only at q1;split at q1
 rotate_left
 . exact q1.elim
 rename_i l xs;refine PP (hb gV s1 σ H1 _ Z1 _ I1 E1.tail.wide q1) λu2 s2 ⟨y,H2,r2,Z2,I2,ry,E2,q2⟩=>?_;obtain⟨j,rfl,⟨h1,h2⟩,hz,q2⟩:=dC q2;have E3:aB X.K Pr H2 (some y::some v::σ) (.d (.int j)::.own l xs::Z2):=aB.step (τ:=[some v]) (lam:=[.own l xs]) (w:=[some y]) (μ:=[.d (.int j)]) E1 rfl E2 rfl;obtain⟨_,e1,p1⟩:=E3.head_d;cases e1;cases p1;obtain⟨hs,vs,hl,rs⟩:=E3.ownAt (i:=1) rfl;have ev:v=.ref l:=by simpa using hs
 subst ev;have E4:aB X.K Pr H2 σ Z2:=E3.tail.tail;refine PP (KW gV s2 σ H2 _ _ u u2 (λz H'=>∃p,H2 p=none/\z=.ref p/\H'=Pv H2 p (.lst (List.replicate j.toNat vs).flatten)) I2 r1 ry ⟨l,j,vs,rfl,rfl,hl,xL,xL,by rw[rs.length];exact hz,λp hp=>⟨p,hp,rfl,rfl⟩⟩) λw s3 ⟨z,H3,I3,rz,p,hp,e1,e2⟩=>?_;subst e1 e2;exact⟨.ref p,_,_,Z2,I3,rz,E4.cons_own hp (rs.rep _),q2 p⟩
def QZ(f:Fl)(o:Option L)(j:Nat)(Z1:Ev)(so:Fl->Ev->Prop):Prop:=match f with
 | .nx=>(match o with
  |some (.own _ xs)=>so .nx (Z1.set j (.d (.lst xs)))
  |_=>so .nx Z1)
 |f=>so f Z1
theorem IY(a:Addr)(xs:List D)(j:Nat)(Z1:Ev)(so:Fl->Ev->Prop):QZ .nx (some (.own a xs)) j Z1 so=so .nx (Z1.set j (.d (.lst xs))):=(rfl)
theorem Nz(x:D)(j:Nat)(Z1:Ev)(so:Fl->Ev->Prop):QZ .nx (some (.d x)) j Z1 so=so .nx Z1:=(rfl)
end
theorem aB.closeT{K:PySem.W.Frag}{Pr H:Hp}{σ:St}{Z:Ev}{a:Addr}{vs:List V}{ls:List L}(hl:vs.length=ls.length)(h:PV K H a vs)(E:aB K Pr H (vs.map some++σ) (ls++Z)):aB K Pr H (some (.ref a)::σ) (.bx none ls::Z):=by
 obtain⟨s1,s2⟩:=Paired.unapp (by simp[hl]) E.sl;have ow:owns (.bx none ls::Z)=owns (ls++Z):=by rw[aJ,aE];simp only[a8,Option.toList,List.nil_append,eW]
 refine⟨E.sub,by rw[ow];exact E.nd,λb hb=>E.off b (by rw[<- ow];exact hb),.cons ?_ s2⟩;unfold a6;exact⟨a,vs,rfl,h,dg.mpr s1⟩
structure FX (K:PySem.W.Frag) (mg:Str->Option Value) (g:Str) (st:Stmt) (a:Addr) (fd:FuncData) (P:List Str):Prop where
 f:Qq K g g st a fd
 b:nN K fd P []
 m:mg g=some (.ref a)
noncomputable abbrev Q0(g:Str)(st:Stmt)(md:Value)(c:Nat):FuncData:=PySem.W.fnOf g g (jK st) (cX st) (ak st) .none .none .none md none (.ref c) .none
theorem FX.mk'{K:PySem.W.Frag}{mg:Str->Option Value}{h:Heap}(X:K.In h)(G:h.Ns mainGlobals mg){g:Str}{st:Stmt}{a:Addr}{c:Nat}{md:Value}{P:List Str}(e1:PySem.W.nsIn K mainGlobals g=some (some (.ref a)))
  (e2:K.lookup a=some ⟨.type "function",none,.func (Q0 g st md c),#[]⟩) (e3:PySem.W.codeIn K (.ref c) g=true) (e4:PySem.W.keepIn K (.ref a)=true)
  (e5:∀(kV doc pm:Value)(an:Option Addr)(cdv ct:Value)(us:List Value),us.length=P.length->bindArgs (PySem.W.fnOf g g (jK st) (cX st) (ak st) .none kV doc pm an cdv ct) ⟨us,[]⟩=pure (P.zip us)):FX K mg g st a (Q0 g st md c) P :=
 ⟨sS e2 e3 e4,(sS e2 e3 e4).binds e5,PySem.W.mg_of X G e1⟩
section
variable{X:Cx}{k k' n:Nat}{f:Addr}{fd:FuncData}{ps:List Str}{fs:FS}{g:Str}{st:Stmt}{e:Expr}{es:List Expr}{bs:List (Option Nat)}{t:W (List L)}{p pos:Pos}
theorem aG(F:FnOk X.prog X.w X.K X.mg X.base CX0 k f fd ps (spF X.K n fs))(T:FX X.K X.mg g st f fd ps)(hr:gI k' X.A)(ha:Qt X (e::es) bs t)(hk:k<=k':=by decide)(hg:Gl X g:=by rfl)(hn:bs.length=n:=by rfl) (hdb:(g == ("__debug__" : Str))=false:=by decide) (he:starEach (e::es) X.env=(false,eval e X.env)::starEach es X.env:=by rfl) (hpl:(backTo pos (starEach es X.env)).any (·.1)=false:=by rfl) :
  PL X (.Call (.Name g p) (e::es) [] pos) (aD fs t):=Iq F (hr.mono hk) hg T.m T.f.kp T.b Ic ha hn hdb he hpl
theorem jr(F:FnOk X.prog X.w X.K X.mg X.base CX0 k f fd ps (spF X.K n fs))(T:FX X.K X.mg g st f fd ps)(hr:gI k' X.A)(j i:Nat)(ha:Qt X (e::es) bs t)(hk:k<=k':=by decide)(hg:Gl X g:=by rfl)(hj:bs[j]?=some (some i):=by rfl)(hn:bs.length=n:=by rfl) (hdb:(g == ("__debug__" : Str))=false:=by decide) (he:starEach (e::es) X.env=(false,eval e X.env)::starEach es X.env:=by rfl) (hpl:(backTo pos (starEach es X.env)).any (·.1)=false:=by rfl) :
  PL X (.Call (.Name g p) (e::es) [] pos) (fV fs j i t):=EV F (hr.mono hk) hg T.m T.f.kp T.b Ic j i ha hj hn hdb he hpl
end
section
variable{X:Cx}
theorem Fo:P4 X (binaryOp .Add) (λx y H Q=>∃l b xs zs,x=.ref l/\y=.ref b/\PV X.K H l xs/\PV X.K H b zs/\xs≠[]/\zs≠[]/\xs.length+zs.length<=sizeLine/\∀p,H p=none->Q (.ref p) (Pv H p (.tup (xs++zs)))):=by
 intro gV s σ H x y v u Q I rx ry h;obtain⟨l,b,xs,zs,rfl,rfl,hH,hB,n1,n2,hz,q⟩:=h;cases rx;cases ry;obtain⟨its,r,⟨o,e,c,n,f⟩,z⟩:=I.tuple hH;obtain⟨its2,r2,⟨o2,e2,c2,m,f2⟩,z2⟩:=I.tuple hB;obtain⟨cl,dd,dt,sl⟩:=o;obtain⟨cl2,dd2,dt2,sl2⟩:=o2;simp only at c f c2 f2;subst c f c2 f2;have hl:=r.length;have hl2:=r2.length;have k1:its≠[]:=λe=>n1 (List.length_eq_zero_iff.mp (by rw[hl,e];rfl));have k2:its2≠[]:=λe=>n2 (List.length_eq_zero_iff.mp (by rw[hl2,e];rfl));refine concat_meets ⟨_,e,rfl⟩ ⟨_,e2,rfl⟩ noFill_tuple_add seq_tuple_add PySem.F.slot_tuple_add PySem.F.entry_tuple_add (PySem.F.args_tuple_add_2 _ _) (tuple_addW2 l b its.toArray its2.toArray n m dd dd2 sl sl2 (by simpa using k1) (by simpa using k2) (by rw[List.size_toArray,List.size_toArray];omega)) ⟨e,e2,?_⟩;have ea:its.toArray++its2.toArray=(its++its2).toArray:=by simp
 rw[ea];exact⟨.ref _,Pv H s.heap.objs.size (.tup (xs++zs)),I.laid (o:=.tup (xs++zs)) (λ_ _ q=>Uy _ q) (UJ _) ⟨by rw[List.length_append];omega,its++its2,r.append r2,⟨_,Heap.get?_push_size _ rfl,rfl,_,rfl⟩⟩,rfl,q _ I.fresh⟩
def zM:Qw:=λx y k=>match x,y with
 |.tup xs,.tup ys=>xs≠[]/\ys≠[]/\xs.length+ys.length<=sizeLine/\k (.d (.tup (xs++ys)))
 |_,_=>False
theorem I0:Qx X (binaryOp .Add) zM:=(Qx.of Fo (op:=λx y k=>∃xs ys,x=.tup xs/\y=.tup ys/\xs≠[]/\ys≠[]/\xs.length+ys.length<=sizeLine/\k (.d (.tup (xs++ys)))) (λσ H Pr Z x y dx dy so E px py ⟨xs,ys,e1,e2,m1,m2,z,h⟩=>by
  subst e1 e2
  cases px with
  | tup h1 r1 =>
   cases py with
   | tup h2 r2 =>
    refine⟨_,_,_,_,rfl,rfl,h1,h2,λe=>m1 ?_,λe=>m2 ?_,by rw[r1.length,r2.length];exact z,λp hp=>⟨_,E.cons_tup hp (r1.append r2),h⟩⟩
    . exact List.length_eq_zero_iff.mp (by rw[<- r1.length,e];rfl)
    .
     exact List.length_eq_zero_iff.mp (by rw[<- r2.length,e];rfl))).imp λx y k h=>by
 unfold zM at h;split at h
 . exact⟨_,_,rfl,rfl,h⟩
 . exact h.elim
end
mutual
noncomputable def zN:D->Nat
 |.tup xs=>xU xs+1
 |.lst xs=>xU xs+1
 |_=>0
noncomputable def xU:List D->Nat
 |[]=>0
 |x::xs=>max (zN x) (xU xs)
end
theorem zO{n:Nat}:∀{xs:List D},(∀x∈xs,zN x<=n)->xU xs<=n
 |[],_=>Nat.zero_le _
 | y::ys,h=>by simp only[xU];have:=h y Uz;have:=zO (xs:=ys) λx hx=>h x (tu _ hx);omega
end L2
namespace L2
open PySem PySem.Spec PyProof.Rows PySem.Builtin.Str
inductive Sk where
 |l|t
noncomputable abbrev Zi:=Sk×Addr×Addr
noncomputable def Zi.ofs(js:List Zi):List Addr:=js.map (·.2.1)
def LA(z O:Addr)(js:List Zi)(h h':Heap):Prop:=∀c o,c∉z::O::Zi.ofs js->h.get? c=some o->h'.get? c=some o
noncomputable def Sk.nm:Sk->String
 |.l=>"list_iterator"
 |.t=>"tuple_iterator"
section
variable{z O:Addr}{js:List Zi}
theorem LA.mono{h h':Heap}(k:LA z O js h h'){c:Addr}{o:Obj}(hc:c∉z::O::Zi.ofs js)(e:h.get? c=some o):h'.get? c=some o:=k c o hc e
end
end L2
namespace L2
open PySem PySem.Spec PyProof.Rows
end L2
namespace L2
open PySem PySem.Spec PyProof.Rows PySem.W
noncomputable def Ja(K:Frag)(C fI:Addr):Bool:=(match K.lookup C with
 | some ⟨.type "type",_,.cls cd,sl⟩=>(match cd.mro,sl.toList with
  |.ref C'::bm,[_,_,_,_,some (.builtin n),_]=>C' == C && n == "ValueError.__new__" && !cd.hasDel && bm.contains (.type "ValueError") && !(bm.contains (.type "AttributeError")) && !(bm.contains (.type "NameError"))
  |_,_=>false)
 |_=>false) && findIn K (.ref C) "__init__" == some (some (.ref fI)) && typeIn K (.ref fI) == some (.type "function")
structure Q1 (K:Frag) (C fI:Addr):Prop where
 ex:∃ nm q N bs bm hdct sn sub ab col dd k0 k1 k2 k3 k5,K.lookup C=some (excClassObj nm q C N bs bm hdct sn sub ab col dd k0 k1 k2 k3 k5 "ValueError.__new__")/\bm.contains (.type "ValueError")=true/\bm.contains (.type "AttributeError")=false/\bm.contains (.type "NameError")=false
 init:findIn K (.ref C) "__init__"=some (some (.ref fI))
 fn:typeIn K (.ref fI)=some (.type "function")
theorem LC{K:Frag}{C fI:Addr}(h:Ja K C fI=true):Q1 K C fI:=by
 unfold Ja at h;simp only[Bool.and_eq_true,beq_iff_eq]at h;obtain⟨⟨h,h1⟩,h2⟩:=h;refine⟨?_,h1,h2⟩;split at h
 .
  rename_i dd cd sl ho;split at h
  . rename_i C' bm k0 k1 k2 k3 n k5 hm hs;simp only[Bool.and_eq_true,beq_iff_eq,Bool.not_eq_true']at h;obtain⟨⟨⟨⟨⟨rfl,rfl⟩,hdel⟩,e1⟩,e2⟩,e3⟩:=h;obtain⟨nm,bs,mro,ns,qn,hd,sn,sub,ab,col,Q2⟩:=cd;dsimp only at hm hdel;subst hm hdel;obtain⟨l⟩:=sl;simp only at hs;subst hs;exact⟨nm,qn,ns,bs,bm,hd,sn,sub,ab,col,dd,k0,k1,k2,k3,k5,ho,e1,e2,e3⟩
  . cases h
 . cases h
section
variable{prog:Program}{w:World}{A:Around}{E:Value->Shared->Prop}{h:Heap}{g:Array GenState}{d:Drawn}{t:Nat}{os:OsState}
variable{nm q:Str}{C N:Addr}{bs bm:List Value}{hdct:Bool}{sn:List Str}{sub:List Value}{ab:Bool}{col:Option Bool}{dd:Option Addr}{k0 k1 k2 k3 k5:Option Value}
theorem A4{M:Model}{rest:List Value}{Q:Unit->Shared->Prop} (hC:h.get? C=some (excClassObj nm q C N bs bm hdct sn sub ab col dd k0 k1 k2 k3 k5 "ValueError.__new__")) (hv:bm.contains (.type "ValueError")=true)
  (hq:Q () ⟨h,g,d,t,os⟩):wpAny M A (checkBuiltinCall "ValueError.__new__" ⟨.ref C::rest,[]⟩) Q E ⟨h,g,d,t,os⟩:=by
 have FB:=F.excBase_ValueError;have hb:(Value.ref C::bm).contains (.type "ValueError")=true:=by rw[List.contains_cons,hv,Bool.or_true]
 have hst:=FB.noStar;simp only[checkBuiltinCall,FB.newKind,FB.newSplit,FB.newRow]
 repeat (first|refine wpAny_loadPart_at hC ?_|(refine wpAny_isSubtype_exc hC ?_;rw[hb])|refine wpAny_staticBase_exc hC ?_|refine wpAny_madeBy_exc hC ?_|simp only[bne_self_eq_false,Bool.false_eq_true,if_false] | wp_step)
 exact hq
theorem Fp{rest:List Value}{R:Result->Shared->Prop} (hC:h.get? C=some (excClassObj nm q C N bs bm hdct sn sub ab col dd k0 k1 k2 k3 k5 "ValueError.__new__")) (hv:bm.contains (.type "ValueError")=true) (ha:bm.contains (.type "AttributeError")=false) (hn:bm.contains (.type "NameError")=false)
  (hz:rest.length<=sizeLine) (hq:R (.ok (.ret (.ref (h.objs.size+1)))) ⟨(h.push {cls:=.type "tuple",data:=.seq rest.toArray}).push {cls:=.ref C,data:=.fields #[.ref h.objs.size,.none,.none,.none,.bool false,.none] },g,d,t,os⟩) :
  codeAny (model prog w) A (.builtin "ValueError.__new__" ⟨.ref C::rest,[]⟩) R ⟨h,g,d,t,os⟩:=by
 have FB:=F.excBase_ValueError;have hends:=FB.ends;have c1:(Value.ref C::bm).contains (.type "ValueError")=true:=by rw[List.contains_cons,hv,Bool.or_true]
 have c2:(Value.ref C::bm).contains (.type "AttributeError")=false:=by rw[List.contains_cons,ha]; rfl
 have c3:(Value.ref C::bm).contains (.type "NameError")=false:=by rw[List.contains_cons,hn]; rfl
 refine codeAny_builtinAt FB.entry ?_;unfold Builtin.«BaseException.__new__»;refine PySem.wpAt_bind ?_;show PySem.wpAt _ _ _ (stack >>= _) _ _ _;refine PySem.wpAt_bind (PySem.wpAt_stack λp below=>PySem.wpAt_of_wpAny ?_)
 wp_walk
 refine PySem.wpAt_of_wpAny ?_;rw[FB.owner]
 repeat (first|with_reducible refine wpAny_madeHere_exc FB.canon hC ?_|with_reducible refine wpAny_loadPart_at hC ?_|(with_reducible refine wpAny_isSubtype_exc hC ?_;first|rw[c1] | rw[c2] | rw[c3])|wp_step)
 show R _ _;rw[Heap.size_push];exact hq
theorem NA{K:Frag}{fI:Addr}{rest:List Value}{Q:Value->Shared->Prop}(X:K.In h)(M:Q1 K C fI)(hz:rest.length<=sizeLine)
  (hq:∀ h' e,Heap.MadeExcOf h h' e (.ref C) rest->h.objs.size<=e->wpAny (model prog w) (A.under (.builtin "type.__call__" ⟨.ref C::rest,[]⟩)) (call (.ref fI) (.ref e::rest)) (λr s'=>r=.none/\Q (.ref e) s') E ⟨h',g,d,t,os⟩) :
  wpAny (model prog w) A (call (.ref C) rest) Q E ⟨h,g,d,t,os⟩:=by
 obtain⟨nm,q,N,bs,bm,hdct,sn,sub,ab,col,dd,k0,k1,k2,k3,k5,hK,b1,b2,b3⟩:=M.ex;have hC:=X _ _ hK;have FB:=F.excBase_ValueError;have f1:=tc_lookup;have f2:=tc_bind (.ref C);have hT:(⟨h,g,d,t,os⟩:Shared).TypeIs (.ref C) "type":=⟨_,hC,rfl⟩;refine wpAny_call (codeAny_of_tree ?_);show wpAny _ _ (callAny (.ref C) _) _ _ _
 repeat (any_goals (first|assumption|with_reducible refine wpAny_loadPart_at hC ?_|wp_step))
 refine⟨rfl,?_⟩;refine codeAny_call_builtin_at (Code.quiet_builtin _ y_) entry_typeCall (wpAny_check_type_call_sub hC ?_)
 repeat (first|with_reducible refine wpAny_loadPart_at hC ?_|with_reducible refine wpAny_madeBy_exc hC ?_|wp_step)
 refine codeAny_call_builtin_code (Code.quiet_builtin _ FB.quiet) (A4 hC b1 ?_);refine Fp hC b1 b2 b3 hz ?_;have kp:∀ b o,h.get? b=some o->((h.push {cls:=.type "tuple",data:=.seq rest.toArray}).push {cls:=.ref C,data:=.fields #[.ref h.objs.size,.none,.none,.none,.bool false,.none] }).get? b=some o:=λb o e=>Uy _ (Uy _ e);have hC1:=kp _ _ hC;have X1:K.In _:=X.keeps kp;have hg:((h.push {cls:=.type "tuple",data:=.seq rest.toArray}).push {cls:=.ref C,data:=.fields #[.ref h.objs.size,.none,.none,.none,.bool false,.none] }).get? (h.objs.size+1)=some {cls:=.ref C,data:=.fields #[.ref h.objs.size,.none,.none,.none,.bool false,.none] }:=by heap_get
 have cC:(Value.ref C::bm).contains (.ref C)=true:=by simp
 show wpAny _ _ _ _ _ ⟨(h.push {cls:=.type "tuple",data:=.seq rest.toArray}).push {cls:=.ref C,data:=.fields #[.ref h.objs.size,.none,.none,.none,.bool false,.none] },g,d,t,os⟩;unfold isInstance
 repeat (first|with_reducible refine wpAny_loadPart_at hg ?_|(with_reducible refine wpAny_isSubtype_exc hC1 ?_;rw[cC])|wp_step)
 have L1:=looks_findIn (M:=model prog w) X1 M.init;have L2:=bind_fn (M:=model prog w) X1 (.ref (h.objs.size+1)) M.fn;show wpAny _ _ (typeLookup (.ref C) _) _ _ _;refine L1.at (wpAny_holding (Uw (L2.at ?_)));refine Uw (wpAny_mono (hq _ (h.objs.size+1) ⟨kp,Heap.get?_none_of_le (Nat.le_succ _),h.objs.size,hg,Heap.get?_none_of_le (UJ _),Uy _ (Heap.get?_push_at rfl rfl)⟩ (Nat.le_succ _)) (λr s' hr=>?_) λ_ _ x=>x);obtain⟨rfl,hQ⟩:=hr
 wp_walk
 exact hQ
end
section
variable{prog:Program}{w:World}{A:Around}{E:Value->Shared->Prop}{s:Shared}{K:Frag}{c:Str}{C L:Addr}{cd:ClassData}{env:Env}
structure Q3 (h:Heap) (e:Addr) (cls:Value) (dx T:Option Addr):Prop where
 ex:∃vs sl,h.get? e=some ⟨cls,dx,.fields vs,sl⟩/\1<vs.size/\(match T with
  |none=>vs[1]?=some .none
  |some t=>vs[1]?=some (.ref t)/\t≠e/\∃ot ts,h.get? t=some ot/\ot.data=.fields ts/\ts[3]?=some .none)
theorem LD{x:Sem Value}{Q:Flow->Shared->Prop}(S:rV K c C L cd)(hh:A.handled=none)
  (h:wpAny (model prog w) A x (λv s1=>∃e dx,v=.ref e/\K.In s1.heap/\Q3 s1.heap e (.ref C) dx none/\E (.ref e) s1) E s):wpAny (model prog w) A (raiseStmt env (some x) none) Q E s:=by
 unfold raiseStmt;refine Uw (wpAny_mono h (λv s1 h1=>?_) λ_ _ z=>z);obtain⟨e,dx,rfl,X,⟨vs,sl,he,hz,h1⟩,hE⟩:=h1;obtain⟨hp,g,d,tk,os⟩:=s1;have h1:vs[1]?=some .none:=h1;have he:hp.get? e=some ⟨.ref C,dx,.fields vs,sl⟩:=he;obtain⟨oc,odc,slc,hK⟩:=pZ S.cls;have hC:hp.get? C=some ⟨oc,odc,.cls cd,slc⟩:=X _ _ hK;have hoc:oc=.type "type":=by have z:(K.lookup C).map (·.cls)=some (.type "type"):=S.ty;rw[hK]at z;exact Option.some.inj z
 subst hoc;have Lb:=S.isT (M:=model prog w) X "BaseException";have eb:(["ValueError","Exception","BaseException","object"]:List String).contains "BaseException"=true:=by decide
 rw[eb]at Lb
 repeat (first|with_reducible refine wpAny_loadPart_at he ?_|with_reducible refine wpAny_loadPart_at hC ?_|with_reducible refine Lb.at ?_|with_reducible refine wpAny_field he rfl h1 ?_|wp_step)
 exact wpAny_raiseNew_none hh hE
theorem LF{base:Heap}{outer:List Env}{F e:Addr}{cls:Value}{dx T:Option Addr}{Q:Unit->Shared->Prop}
  (hfr:A.frames=some (env::outer)) (hl:s.heap.FunFrames base (env::outer)) (hf:env.frame=some F) (fl:Q3 s.heap e cls dx T)
  (hq:∀h' T',Q3 h' e cls dx (some T')->s.heap.objs.size<=T'->(∀b o,b≠e->some b≠T->b∉PD (env::outer)->s.heap.get? b=some o->h'.get? b=some o) ->
   (∀b o,b≠e->some b≠T->s.heap.get? b=some o->∃sl,h'.get? b=some {o with slots:=sl})->Q () {s with heap:=h' }) :
  wpAny (model prog w) A (noteFrame (.ref e) env) (λ_ s2=>wpAny (model prog w) A (setFlight (.ref e) none) Q E s2) E s:=by
 obtain⟨vs,sl,he,hz,hT⟩:=fl;have nof:∀b o vs',s.heap.get? b=some o->o.data=.fields vs'->b∉PD (env::outer):=λb o vs' hb hd hm=>by obtain⟨_,o',ho',hn'⟩:=hl.mem hm;rw[hb]at ho';cases ho';exact hn' _ hd
 have entry:∀(s1:Shared)(vs1:Array Value)(head:Value)(hn:Bool),s1.heap.get? e=some ⟨cls,dx,.fields vs1,sl⟩->1<vs1.size->s1.heap.FunFrames base (env::outer) ->
   (∀b o,b≠e->some b≠T->s.heap.get? b=some o->s1.heap.get? b=some o)->s1.heap.objs.size=s.heap.objs.size->s1={s with heap:=s1.heap} ->
   wpAny (model prog w) A (do let a <- frameOf env;let pl <- entryPlaceOf F hn;let b <- EntryCells.newEntry head a .none (rawInt F) .none pl;setField (.ref e) 1 b) (λ_ s2=>wpAny (model prog w) A (setFlight (.ref e) none) Q E s2) E s1:=by
  intro s1 vs1 head hn he1 hz1 hl1 kp sz es;have nof1:∀b o vs',s1.heap.get? b=some o->o.data=.fields vs'->b∉PD (env::outer):=λb o vs' hb hd hm=>by obtain⟨_,o',ho',hn'⟩:=hl1.mem hm;rw[hb]at ho';cases ho';exact hn' _ hd
  refine Uw (wpAny_frameOf_fun hfr hl1 hf λh1 hs1=>?_);refine Uw (wpAny_entryPlaceOf λpl hpl=>?_);unfold EntryCells.newEntry newFields;refine Uw (wpAny_newObj_type ?_ (hpl.sizeOk5 _ _ _ _ _))
  generalize hob:({cls:=.type "traceback",dict:=none,data:=.fields ([head,Value.ref F,.none,rawInt F,.none]++(if pl.isEmpty then List.replicate 6 Value.none else pl)).toArray}:Obj)=ob
  have hod:∃ts,ob.data=.fields ts/\3<ts.size:=by subst hob;exact⟨_,rfl,by simp only[List.size_toArray,List.length_append,List.length_cons,List.length_nil];omega⟩
  obtain⟨ts,hod,hts⟩:=hod;have he2:h1.get? e=some ⟨cls,dx,.fields vs1,sl⟩:=(hs1.2.1 e (nof1 _ _ _ he1 rfl)).trans he1;have he3:=Uy (h:=h1) ob he2;have ne:h1.objs.size≠e:=Nat.ne_of_gt (UF he2);refine wpAny_setField he3 rfl hz1 ?_;have he4:=Heap.get?_update_self (Obj.mapFields (·.setIfInBounds 1 (Value.ref h1.objs.size))) he3 rfl;have hT4:=(Heap.get?_update_other (h1.push ob) (Obj.mapFields (·.setIfInBounds 1 (Value.ref h1.objs.size))) (Ne.symm ne)).trans (Heap.get?_push_size h1 (by obtain⟨_,_,dt,_⟩:=ob;cases hod;rfl));unfold setFlight;refine Uw (wpAny_field he4 rfl (x:=.ref h1.objs.size) (by simp[hz1]) ?_);rw[if_pos (show(Value.ref h1.objs.size != Value.none)=true from by simp)];refine wpAny_setField hT4 hod hts ?_;rw[es];have keep:∀b o,b≠e->h1.get? b=some o->(((h1.push ob).update e (Obj.mapFields (·.setIfInBounds 1 (Value.ref h1.objs.size)))).update h1.objs.size (Obj.mapFields (·.setIfInBounds 3 ((none:Option Addr).elim Value.none λf=>rawInt f)))).get? b=some o:=λb o hb e1=>by rw[Heap.get?_update_other _ _ (Nat.ne_of_gt (UF e1)),Heap.get?_update_other _ _ (Ne.symm hb)];exact Uy _ e1
  refine hq _ h1.objs.size ⟨vs1.setIfInBounds 1 (.ref h1.objs.size),sl,?_,by simpa using hz1,by simp[hz1],ne,_,_,Heap.get?_update_self _ hT4 (Obj.isFreed_of_fields (Obj.data_mapFields hod _)),Obj.data_mapFields hod _,by simp[hts]⟩ ?_ (λb o hb hbT hbf e1=>?_) λb o hb hbT e1=>?_
  . rw[Heap.get?_update_other _ _ ne];exact he4
  . rw[hs1.1,sz];exact UJ _
  . exact keep b o hb ((hs1.2.1 b hbf).trans (kp b o hb hbT e1))
  . obtain⟨sl',e2⟩:=hs1.2.2 b o (kp b o hb hbT e1);exact⟨sl',keep b _ hb e2⟩
 unfold noteFrame;simp only[hf]
 cases T with
 | none =>
  refine Uw (wpAny_field he rfl hT ?_);rw[if_neg (by decide)];exact entry s vs .none _ he hz hl (λ_ _ _ _ e1=>e1) rfl rfl
 | some t =>
  obtain⟨h1,hte,ot,ts,ht,hdt,h3⟩:=hT;refine Uw (wpAny_field he rfl h1 ?_);rw[if_pos (show(Value.ref t != Value.none)=true from by simp)];refine Uw (wpAny_field ht hdt h3 ?_);rw[if_neg (show ¬((Value.none == rawInt F)=true)from by simp[rawInt])];refine Uw (wpAny_setField ht hdt (Array.getElem?_eq_some_iff.mp h3).1 ?_);have oth:∀b,b≠t->(s.heap.update t (Obj.mapFields (·.setIfInBounds 3 Value.none))).get? b=s.heap.get? b:=λb hb=>Heap.get?_update_other _ _ (Ne.symm hb);refine entry _ vs (.ref t) _ ((oth e (Ne.symm hte)).trans he) hz (hl.of_keeps λb o hb hnf=>⟨o,(oth b λq=>?_).trans hb,rfl⟩) (λb o hb hbT e1=>(oth b λq=>hbT (by rw[q])).trans e1) v6 rfl;rw[q,ht]at hb;cases hb;exact hnf ts hdt
theorem NB{e T:Addr}{cls:Value}{dx:Option Addr}{Q:Unit->Shared->Prop}(fl:Q3 s.heap e cls dx (some T))
  (hq:∀h',Q3 h' e cls dx (some T)->(∀b o,b≠T->s.heap.get? b=some o->h'.get? b=some o)->Q () {s with heap:=h' }):wpAny (model prog w) A (setFlight (.ref e) none) Q E s:=by
 obtain⟨vs,sl,he,hz,h1,hte,ot,ts,ht,hdt,h3⟩:=fl;have hts:=(Array.getElem?_eq_some_iff.mp h3).1;unfold setFlight;refine Uw (wpAny_field he rfl h1 ?_);rw[if_pos (show(Value.ref T != Value.none)=true from by simp)];refine wpAny_setField ht hdt hts (hq _ ⟨vs,sl,?_,hz,h1,hte,_,_,Heap.get?_update_self _ ht (Obj.isFreed_of_fields (Obj.data_mapFields hdt _)),Obj.data_mapFields hdt _,by simp[hts]⟩ λb o hb e1=>?_)
 . rw[Heap.get?_update_other _ _ hte];exact he
 . rw[Heap.get?_update_other _ _ (Ne.symm hb)];exact e1
end
noncomputable def Q2(H:Hp)(e:Addr):Hp:=λb=>if b=e then none else H b
theorem dY{H:Hp}{e b:Addr}(h:b≠e):Q2 H e b=H b:=by unfold Q2;rw[if_neg h]
theorem m8{H:Hp}{e:Addr}:Q2 H e e=none:=by unfold Q2;rw[if_pos rfl]
theorem pO{H:Hp}{e b:Addr}(h:H b=none):Q2 H e b=none:=by unfold Q2;split;rfl;exact h
section
variable{X:Cx}{gV:List (Addr×Obj)}{σ:St}{H:Hp}{s:Shared}
theorem PJ.forget{e:Addr}{φ:Heap->Prop}(I:PJ X gV σ H s)(h:H e=some (.ext φ)):PJ X gV σ (Q2 H e) s:=by
 have ne:∀b o,H b=some o->(∀ψ,o≠.ext ψ)->b≠e:=λb o q n z=>by subst z;rw[h]at q;cases q;exact n _ rfl
 refine⟨I.ok,I.os,I.bare,⟨I.base.keep,I.base.slot,λb o e1 n hx=>pO (I.base.free b o e1 n hx),I.base.there,λb xs q=>?_,λb o u q=>?_,λb ps q=>?_⟩,I.loc,I.cell,pO I.free,λx c q=>(I.freeC x c q).imp pO fun⟨hf,o,z⟩=>⟨hf,o,by rw[dY (ne c _ z λ_ q=>nomatch q)];exact z⟩,λp hp=>?_,λb u q=>?_,I.len⟩
 . have z:=I.base.tups b xs q;rw[dY (ne b _ z λ_ q=>nomatch q)];exact z
 . have z:=I.base.frzs b o u q;rw[dY (ne b _ z λ_ q=>nomatch q)];exact z
 . have z:=I.base.tbls b ps q;rw[dY (ne b _ z λ_ q=>nomatch q)];exact z
 . obtain⟨a1,a2,a3⟩:=I.pin p hp;exact⟨a1,pO a2,a3⟩
 .
  have hb:b≠e:=λz=>by subst z;rw[m8]at q;cases q
  rw[dY hb]at q;exact(I.hok b u q).stay (λc v _ z=>z) (λc z=>by rw[dY (ne c _ z λ_ q=>nomatch q)];exact z) (λc xs z=>by rw[dY (ne c _ z λ_ q=>nomatch q)];exact z) λc ob _ _ z=>by rw[dY (ne c _ z λ_ q=>nomatch q)];exact z
theorem PJ.track{e:Addr}{o:HO}(I:PJ X gV σ H s)(hn:H e=none)(h0:X.s₀.heap.objs.size<=e)(hL:e≠X.env.locals)(hc:∀x c,X.env.cells.lookup x=some c->c≠e)(hp:∀p∈X.pn++gV,p.1≠e)
  (new:d3 X.prog X.w (Pv H e o) s.heap e o):PJ X gV σ (Pv H e o) s:=by
 have ne:∀b u,H b=some u->b≠e:=λb u q z=>by subst z;rw[hn]at q;cases q
 refine⟨I.ok,I.os,I.bare,⟨I.base.keep,I.base.slot,λb u e1 n hx=>?_,I.base.there,λb xs q=>?_,λb u z q=>?_,λb ps q=>?_⟩,I.loc,I.cell,?_,λx c q=>?_,λp hq=>?_,λb u q=>?_,I.len⟩
 . rw[ay (λz=>by subst z;exact absurd (UF e1) (Nat.not_lt.mpr h0))];exact I.base.free b u e1 n hx
 . have z:=I.base.tups b xs q;rw[ay (ne b _ z)];exact z
 . have z:=I.base.frzs b _ _ q;rw[ay (ne b _ z)];exact z
 . have z:=I.base.tbls b ps q;rw[ay (ne b _ z)];exact z
 . rw[ay (Ne.symm hL)];exact I.free
 . rw[ay (hc x c q)];exact I.freeC x c q
 . obtain⟨a1,a2,a3⟩:=I.pin p hq;exact⟨a1,by rw[ay (hp p hq)];exact a2,a3⟩
 .
  by_cases hb:b=e
  . subst hb;rw[aX]at q;cases q;exact new
  . rw[ay hb]at q;exact(I.hok b u q).stay (λc v _ z=>z) (λc z=>by rw[ay (ne c _ z)];exact z) (λc xs z=>by rw[ay (ne c _ z)];exact z) λc ob _ _ z=>by rw[ay (ne c _ z)];exact z
end
def Q4(o:HO):Prop:=MW o/\EE o
open Classical in
noncomputable def vj(H:Hp):Hp:=λb=>match H b with
 |some o=>if Q4 o then some o else none
 |none=>none
theorem jZ{H:Hp}{b:Addr}(h:H b=none):vj H b=none:=by unfold vj;rw[h]
theorem bT{H:Hp}{b:Addr}{o:HO}(h:H b=some o)(v:Q4 o):vj H b=some o:=by unfold vj;rw[h];exact if_pos v
theorem Jb{H:Hp}{b:Addr}{o:HO}(h:vj H b=some o):H b=some o/\Q4 o:=by
 unfold vj at h;split at h
 .
  rename_i u e;split at h
  . rename_i v;cases h;exact⟨e,v⟩
  . cases h
 . cases h
theorem Jc{H:Hp}{b:Addr}{o:HO}(h:H b=some o)(v:¬Q4 o):vj H b=none:=by unfold vj;rw[h];exact if_neg v
theorem d3.stayN{P:Program}{w:World}{H H':Hp}{h h':Heap}{a:Addr}:∀{o:HO},EE o->d3 P w H h a o->(∀u,h.get? a=some u->h'.get? a=some u)->(∀b xs,H b=some (.tup xs)->H' b=some (.tup xs))->(∀b o q,oP o q->H b=some (.frz o (.own b))->H' b=some (.frz o (.own b)))->d3 P w H' h' a o
 |.lst xs,_,x,k,_,_=>by obtain⟨z,its,n,r,e⟩:=x;exact⟨z,its,n,r,k _ e⟩
 |.tup xs,_,x,k,_,_=>by obtain⟨z,its,r,ob,e,c⟩:=x;exact⟨z,its,r,ob,k _ e,c⟩
 |.dK kvs,_,x,k,_,_=>by obtain⟨z,y,vs,r,ob,es,ep,e,c⟩:=x;exact⟨z,y,vs,r,ob,es,ep,k _ e,c⟩
 | .dT kvs,_,x,k,ht,_=>by obtain⟨z,y,xs,r,ob,es,ep,e,c⟩:=x;exact⟨z,y,xs,Paired.mapP r λp q z=>⟨z.1,ht _ _ z.2.1,z.2.2⟩,ob,es,ep,k _ e,c⟩
 |.set S n,_,x,k,_,_=>by obtain⟨ob,es,ep,t,e,c⟩:=x;exact⟨ob,es,ep,t,k _ e,c⟩
 |.ins C dx fs,n,_,_,_,_=>n.elim
 |.own y,_,x,k,_,_=>by obtain⟨ob,e⟩:=x;exact⟨ob,k _ e⟩
 |.xd fs,_,x,k,_,_=>by obtain⟨mA,⟨od,es,ep,e,c⟩,r⟩:=x;exact⟨mA,⟨od,es,ep,k _ e,c⟩,r⟩
 |.rng lo hi,_,x,k,_,_=>by obtain⟨t,u,v,e⟩:=x;exact⟨t,u,v,k _ e⟩
 |.frz ob u,n,x,k,ht,hf=>by obtain⟨e,q⟩:=x;exact⟨k _ e,d3.stayN (o:=u) n q k ht hf⟩
 | .tbl t,_,x,k,_,hf=>by
  obtain⟨ps,e,tr,m⟩:=x
  exact⟨ps,k _ e,tr,λpos cv z=>let ⟨c',oc,a1,a2,a3⟩:=m pos cv z;⟨c',oc,a1,hf _ _ _ a3 a2,a3⟩⟩
 | .met f y,_,x,k,_,_=>by have e:h.get? a=some (PySem.W.methodObj (.ref f) (.ref y)):=x;exact(k _ e:h'.get? a=some (PySem.W.methodObj (.ref f) (.ref y)))
 |.ext φ,_,x,k,_,_=>by obtain⟨p,⟨o,e⟩,st⟩:=x;exact⟨st _ _ p k,⟨o,k _ e⟩,st⟩
theorem xV(xs:List V):Q4 (.tup xs):=⟨True.intro,True.intro⟩
theorem CK(q:Str):Q4 (.tbl q):=⟨True.intro,True.intro⟩
theorem pP(o:Obj)(y:Addr):Q4 (.frz o (.own y)):=⟨True.intro,True.intro⟩
section
variable{X:Cx}{gV:List (Addr×Obj)}{σ:St}{H H':Hp}{s s':Shared}
theorem PJ.hide(I:PJ X gV σ H s):AC X.prog X.w X.K X.mg X.base X.A X.stack s (vj H):=by have e0:=I.env0;refine⟨e0.frames,e0.mod,λb o e=>⟨(e0.bs b o e).1,jZ (e0.bs b o e).2⟩,e0.bsz,e0.funs,λb hb=>jZ (e0.frf b hb),λb o e=>?_,e0.bare,λx hx c P e=>bT (e0.tbs x hx c P e) (CK _)⟩;obtain⟨e1,v⟩:=Jb e;exact d3.stayN v.2 (e0.hok b o e1) (λ_ z=>z) (λc xs z=>bT z (xV xs)) λc ob _ _ z=>bT z (pP ob c)
open Classical in
noncomputable def Q5(H H':Hp):Hp:=λb=>match H' b with
 |some o=>some o
 |none=>H b
theorem fR{b:Addr}{o:HO}(h:H' b=some o):Q5 H H' b=some o:=by unfold Q5;rw[h]
theorem pQ{b:Addr}(h:H' b=none):Q5 H H' b=H b:=by unfold Q5;rw[h]
theorem PJ.unhide(I:PJ X gV σ H s)(ho:s'.os=s.os)(hg:AllBare s'.gens)(u:Un (PD X.stack) [] (vj H) H' s.heap s'.heap)(hok:Pw X.prog X.w H' s'.heap) :
  PJ X gV σ (Q5 H H') s'/\(∀b o,H b=some o->Q5 H H' b=some o)/\(∀b o,H' b=some o->vj H b=none->H b=none):=by
 have gone:∀b o,H b=some o->¬Q4 o->vj H b=none/\H' b=none:=λb o e v=>by
  have z:=Jc e v
  obtain⟨ob,hb⟩:∃ob,s.heap.get? b=some ob:=by
   cases q:s.heap.get? b with
   |some ob=>exact⟨ob,rfl⟩
   | none =>
    exfalso
    cases o with
    |lst xs=>obtain⟨_,_,_,_,e⟩:=I.hok b _ e;rw[q]at e;cases e
    |tup xs=>exact v (xV xs)
    |dK kvs=>obtain⟨_,_,_,_,o,_,_,e,_⟩:=I.hok b _ e;rw[q]at e;cases e
    |dT kvs=>obtain⟨_,_,_,_,o,_,_,e,_⟩:=I.hok b _ e;rw[q]at e;cases e
    |set S n=>obtain⟨o,_,_,_,e,_⟩:=I.hok b _ e;rw[q]at e;cases e
    |ins C dx fs=>obtain⟨_,_,_,e,_⟩:=I.hok b _ e;rw[q]at e;cases e
    |own y=>obtain⟨_,e⟩:=I.hok b _ e;rw[q]at e;cases e
    |xd fs=>obtain⟨_,⟨_,_,_,e,_⟩,_⟩:=I.hok b _ e;rw[q]at e;cases e
    |rng lo hi=>obtain⟨_,_,_,e⟩:=I.hok b _ e;rw[q]at e;cases e
    |frz ob u=>obtain⟨e,_⟩:=I.hok b _ e;rw[q]at e;cases e
    |tbl t=>exact v (CK t)
    |met f y=>have e:=(show s.heap.get? b=some _ from I.hok b _ e);rw[q]at e;cases e
    |ext φ=>obtain⟨_,⟨_,e⟩,_⟩:=I.hok b _ e;rw[q]at e;cases e
  exact⟨z,u.free b ob hb z v6⟩
 have ext:∀b o,H b=some o->Q5 H H' b=some o:=λb o e=>by
  by_cases v:Q4 o
  .
   have z:=bT e v
   cases o with
   |tup xs=>exact fR (u.tups b xs z)
   |frz ob w=>exact fR (u.frzs b ob w z)
   |tbl t=>exact fR (u.tbls b t z)
   |_=>exact v.1.elim
  . rw[pQ (gone b o e v).2];exact e
 have back:∀b o,H' b=some o->vj H b=none->H b=none:=λb o e z=>by
  cases q:H b with
  |none=>rfl
  | some o' =>
   by_cases v:Q4 o'
   . rw[bT q v]at z;cases z
   . rw[(gone b o' q v).2]at e;cases e
 have hok2:Pw X.prog X.w (Q5 H H') s'.heap:=λb o e=>by
  unfold Q5 at e;split at e
  . rename_i o' q;cases e;exact(hok b _ q).stay (λc w _ z=>z) (λc z=>fR z) (λc xs z=>fR z) λc ob _ _ z=>fR z
  .
   rename_i q
   have nv:¬Q4 o:=λv=>by
    have z:=bT e v
    cases o with
    |tup xs=>rw[u.tups b xs z]at q;cases q
    |frz ob w=>rw[u.frzs b ob w z]at q;cases q
    |tbl t=>rw[u.tbls b t z]at q;cases q
    |_=>exact v.1.elim
   have keepT:∀c o',H c=some o'->¬Q4 o'->∀w,s.heap.get? c=some w->s'.heap.get? c=some w:=λc o' e' v' w hw=>by refine u.keep c w hw (gone c o' e' v').1 (λhm=>?_) v6;have:=I.stkFree c hm;rw[e']at this;cases this
   refine(I.hok b o e).stay (λc w hc z=>?_) (λc z=>ext c _ z) (λc xs z=>ext c _ z) λc ob _ _ z=>ext c _ z;rcases hc with rfl|hc
   . exact keepT c o e nv w z
   . exact keepT c _ hc (λv=>v.1) w z
 refine⟨I.call' (ch:=[]) ho ⟨λb o e n hf hx=>u.keep b o e (jZ n) hf hx,λb o e n hf hx=>u.slot b o e (jZ n) hf hx,λb o e n hx=>?_,u.there,λb xs e=>ext b _ e,λb o w e=>ext b _ e,λb ps e=>ext b _ e⟩ hok2 hg (λb z=>absurd z v6),ext,back⟩;rw[pQ (u.free b o e (jZ n) hx)];exact n
end
section
variable{K:Frag}{Pr H H':Hp}{σ:St}{Z:Ev}
theorem aB.exten(E:aB K Pr H σ Z)(h:∀b o,H b=some o->H' b=some o):aB K Pr H' σ Z :=
 ⟨λb o e=>h b o (E.sub b o e),E.nd,E.off,Paired.impMem E.sl λl hl s q=>q.pres (λb u _ e=>h b u e) l λa e=>by
  obtain⟨vs,e,_⟩:=E.at_own (iQ.mpr ⟨l,hl,e⟩)
  rw[h _ _ e,e]⟩
end
mutual
theorem Qs.hid{K:Frag}{H:Hp}:∀{v:V}{d:D},Qs K H v d->Qs K (vj H) v d
 |_,_,.non=>.non
 |_,_,.bl b=>.bl b
 |_,_,.int i=>.int i
 |_,_,.str x=>.str x
 | _,_,.tup h r=>.tup (by
   rcases h with(h|⟨o,h⟩)|h
   .
    exact .inl (.inl (bT h (xV _)))
   .
    exact .inl (.inr ⟨o,bT h ⟨True.intro,True.intro⟩⟩)
   .
    exact .inr h) (bA.hid r)
 | _,_,.lst h r=>.lst (by
   rcases h with⟨o,h⟩|h
   .
    exact .inl ⟨o,bT h ⟨True.intro,True.intro⟩⟩
   .
    exact .inr h) (bA.hid r)
 |_,_,.dct h=>.dct (bT h ⟨True.intro,True.intro⟩)
 | _,_,.exc h hv hc hn hs hq hf r=>.exc (bT h ⟨True.intro,hv⟩) hv hc hn hs hq (by
   rcases hf with hf|⟨d,od,e,h,l⟩
   .
    exact .inl hf
   .
    exact .inr ⟨d,od,e,bT h ⟨True.intro,True.intro⟩,l⟩) (bA.hid r)
 |_,_,.fn hl hf hq hc hz hd hv hm r=>.fn hl (bT hf (pP _ _)) (bT hq (pP _ _)) hc (bT hz (pP _ _)) hd hv hm (Qs.hid r)
theorem bA.hid{K:Frag}{H:Hp}:∀{vs:List V}{ds:List D},bA K H vs ds->bA K (vj H) vs ds
 |_,_,.nil=>.nil
 |_,_,.cons h t=>.cons (Qs.hid h) (bA.hid t)
end
theorem NC:typeOf (.type "ValueError")=pure (.type "type"):=kitMeta_of y_
theorem ND:Manifest.isStub "ValueError"=false:=by decide +kernel
theorem NF:handedIn (.builtin "ValueError.__init__")=true:=by decide +kernel
theorem CL(K:Frag):findCls K (.type "ValueError") (.type "type") "__init__"=some (.val (.builtin "ValueError.__init__")):=by kernel_rfl
theorem Q3.at{h h':Heap}{e:Addr}{cls:Value}{dx:Option Addr}(f:Q3 h e cls dx none)(k:∀o,h.get? e=some o->h'.get? e=some o):Q3 h' e cls dx none:=by obtain⟨vs,sl,he,hz,h1⟩:=f;exact⟨vs,sl,k _ he,hz,h1⟩
noncomputable def XO(e:Addr)(cls:Value)(dx:Option Addr):HO:=.ext λh=>Q3 h e cls dx none
noncomputable def XD(d:Addr)(fs:List (Str×V)):HO:=.ext λh=>∃mA,h.Ns1 d mA/\(∀f,GS (fs.lookup f) (mA f))/\PySem.Within mA (fs.map (·.1))
theorem XO.ok{P:Program}{w:World}{H:Hp}{h:Heap}{e:Addr}{cls:Value}{dx:Option Addr}(f:Q3 h e cls dx none):d3 P w H h e (XO e cls dx):=by obtain⟨vs,sl,he,hz,h1⟩:=f;exact⟨⟨vs,sl,he,hz,h1⟩,⟨_,he⟩,λh1 h2 p k=>p.at k⟩
theorem XD.ok{P:Program}{w:World}{H:Hp}{h:Heap}{d:Addr}{fs:List (Str×V)}{mA:Str->Option Value}(n:h.Ns1 d mA)(r:∀f,GS (fs.lookup f) (mA f))(wi:PySem.Within mA (fs.map (·.1))):d3 P w H h d (XD d fs) :=
 ⟨⟨mA,n,r,wi⟩,let ⟨o,_,_,e,_⟩:=n;⟨o,e⟩,λh1 h2 ⟨mA,n,r⟩ k=>⟨mA,n.at k,r⟩⟩
theorem LG{H:Hp}{a:Addr}{o:HO}(h:H a=some o):Pv H a o=H:=by
 funext b;unfold Pv;split
 . rename_i e;rw[e,h]
 . rfl
section
variable{X:Cx}{gV:List (Addr×Obj)}{σ:St}{H:Hp}{s:Shared}
theorem PJ.xo{e:Addr}{cls:Value}{dx:Option Addr}(I:PJ X gV σ H s)(h:H e=some (XO e cls dx)):Q3 s.heap e cls dx none:=(I.hok e _ h).1
theorem PJ.xd{d:Addr}{fs:List (Str×V)}(I:PJ X gV σ H s)(h:H d=some (XD d fs)):∃mA,s.heap.Ns1 d mA/\(∀f,GS (fs.lookup f) (mA f))/\PySem.Within mA (fs.map (·.1)):=(I.hok d _ h).1
theorem Q3.inst{h:Heap}{e C:Addr}{dx T:Option Addr}(f:Q3 h e (.ref C) dx T)(hd:∀d,dx=some d->∃o,h.get? d=some o):∃vs sl od,InstAt h e ⟨.ref C,dx,.fields vs,sl⟩ C od/\1<vs.size:=by
 obtain⟨vs,sl,he,hz,_⟩:=f
 cases dx with
 |none=>exact⟨vs,sl,none,⟨he,rfl,rfl,trivial⟩,hz⟩
 | some d =>
  obtain⟨o,ho⟩:=hd d rfl;exact⟨vs,sl,some o,⟨he,rfl,rfl,ho⟩,hz⟩
end
section
variable{X:Cx}{a b:Expr}{p1 p2 pos:Pos}{t:TA}
def zQ(K:Frag)(t:TA):TE:=λσ H Q=>t σ H λvs H1=>∃e tx c C L cd,vs=[.ref e,tx]/\H1 e=some (XO e (.ref C) none)/\rV K c C L cd/\Q .non H1
theorem Fq{pl:Sem Bool} (hg:Gl X "ValueError") (hm:X.mg "ValueError"=none) (ha:PA X [a,b] t) (hs:starEach [a,b] X.env=(false,eval a X.env)::starEach [b] X.env:=by rfl) (hpl:(backTo pos (starEach [b] X.env)).any (·.1)=false:=by rfl)
  (ht:eval (.Call (.Attribute (.Name "ValueError" p1) "__init__" p2) [a,b] [] pos) X.env=(do
   let ov <- eval (.Name "ValueError" p1) X.env
   standAt p2.atName
   let (f,first) <- holding [ov] (getMethod ov "__init__" pl)
   callWith pos f first (backTo pos (starEach [a,b] X.env)) (backToKw pos (keywordEach [] X.env))):=by rfl) :
  PE X (.Call (.Attribute (.Name "ValueError" p1) "__init__" p2) [a,b] [] pos) (zQ X.K t):=by
 intro gV s σ H Q I h;refine methodCall_KW (jn I hg hm (show bootBuiltins "ValueError"=some (.type "ValueError") by decide +kernel) ?_) ht;obtain⟨m,F⟩:=I.fr;have k4:=CL X.K;refine @method_type _ _ _ _ _ X.K _ _ _ _ _ _ _ _ F I.ok.mod.kin NC ND k4 NF ?_;have I1:=I.tok (s.toks+1);have hA:=ha pos gV _ σ H _ I1 h;rw[hs]at hA ⊢;refine Calls.callWith_builtin (by show(false ||(backTo pos (starEach [b] X.env)).any (·.1))=false;rw[hpl]<;>rfl) (Calls.evalArgs_plain (PP hA λus s2 ⟨vs,H2,I2,r,e,tx,c,C,L,cd,ev,he,S,q⟩=>?_));subst ev;obtain⟨u1,u2,rfl,r1,r2⟩:=Er r;cases r1;obtain⟨vs,sl,od,Ia,hz⟩:=(I2.xo he).inst (λd z=>nomatch z);refine Nk S I2.kIn Ia rfl xL λt'=>⟨.non,H2,?_,rfl,q⟩;have hx1:=Uy (h:=s2.heap) {cls:=.type "tuple",data:=.seq #[u2] } Ia.at_;have z:=I2.write (x:=e) (e:=e) (o:=XO e (.ref C) none) (h':=(s2.heap.push {cls:=.type "tuple",data:=.seq #[u2] }).update e (Obj.mapFields (·.setIfInBounds 0 (.ref s2.heap.objs.size)))) (t':=t') (by rw[he]; exact True.intro) (.inl rfl) (λb u hb e1=>(Heap.get?_update_other _ _ (Ne.symm hb)).trans (Uy _ e1)) ⟨_,Heap.get?_update_self _ hx1 rfl⟩ (XO.ok ?_)
 . rw[LG he]at z;exact z
 . obtain⟨vs',sl',he',hz',h1'⟩:=I2.xo he;have e2:=Ia.at_.symm.trans he';cases e2;refine⟨vs.setIfInBounds 0 (.ref s2.heap.objs.size),sl,Heap.get?_update_self _ hx1 rfl,by simpa using hz',?_⟩;show(vs.setIfInBounds 0 _)[1]?=some .none;rw[Array.getElem?_setIfInBounds_ne x_];exact h1'
noncomputable def M0(K:Frag):Sp:=λvs H Q _=>∃e tx c C L cd,vs=[.ref e,tx]/\H e=some (XO e (.ref C) none)/\rV K c C L cd/\Q .non H
structure CM (K:Frag) (mg:Str->Option Value) (L fL:Addr) (fd:FuncData) (st:Stmt):Prop where
 m:mg "LoadError"=some (.ref L)
 rd:readsIn K L (.type "type")=true
 sg:specialIn K (.ref L) "__getattribute__"=some (some (.builtin "type.__getattribute__"))
 fc:findCls K (.ref L) (.type "type") "__init__"=some (.val (.ref fL))
 f:Qq K "__init__" "LoadError.__init__" st fL fd
 b:nN K fd ["self","text"] []
theorem Fs{pl:Sem Bool}{k L fL:Addr}{fd:FuncData}{st:Stmt}(T:CM X.K X.mg L fL fd st) (F:FnOk X.prog X.w X.K X.mg X.base CX0 k fL fd ["self","text"] (M0 X.K)) (hr:gI k X.A) (hg:Gl X "LoadError") (ha:PA X [a,b] t)
  (hs:starEach [a,b] X.env=(false,eval a X.env)::starEach [b] X.env:=by rfl) (hpl:(backTo pos (starEach [b] X.env)).any (·.1)=false:=by rfl)
  (ht:eval (.Call (.Attribute (.Name "LoadError" p1) "__init__" p2) [a,b] [] pos) X.env=(do
   let ov <- eval (.Name "LoadError" p1) X.env
   standAt p2.atName
   let (f,first) <- holding [ov] (getMethod ov "__init__" pl)
   callWith pos f first (backTo pos (starEach [a,b] X.env)) (backToKw pos (keywordEach [] X.env))):=by rfl) :
  PE X (.Call (.Attribute (.Name "LoadError" p1) "__init__" p2) [a,b] [] pos) (zQ X.K t):=by
 intro gV s σ H Q I h;refine methodCall_KW (jH I hg T.m ?_) ht;refine method_cls I.kIn T.sg (cls_read I.kIn T.rd T.fc (UH ?_));have k3:handedIn (.ref fL)=true:=rfl;show wpAny _ _ (handedOut (.ref fL)) _ _ _;rw[handedOut_of k3];refine UH ?_;have I1:=I.tok (s.toks+1);refine callWith_K (h₀:=X.base) I.ok.mod.kin T.f.kp (PP (ha pos gV _ σ H _ I1 h) λus s1 ⟨vs,H1,I2,r,q⟩=>⟨I2.kIn,?_⟩) hs hpl;refine BW F hr T.b .nil Ic I2 r ?_;rw[List.append_nil];exact q
def LH(K:Frag)(ta tv:TE)(f:Str):TS:=λD σ H=>tv σ H λy H1=>ta σ H1 λx H2=>∃e c C L cd,x=.ref e/\rV K c C L cd/\findIn K (.ref C) f=some none /\
 ((H2 e=some (XO e (.ref C) none)/\∀d,H2 d=none->d≠e->D.nx σ (Pv (Pv H2 d (XD d [(f,y)])) e (XO e (.ref C) (some d)))) ∨
  ∃d fs,H2 e=some (XO e (.ref C) (some d))/\H2 d=some (XD d fs)/\fs.lookup f=none/\fs.length<=900/\D.nx σ (Pv H2 d (XD d (fs++[(f,y)]))))
theorem sY{α:Type}{f g:Str}{y:α}:∀{fs:List (Str×α)},fs.lookup f=none->(fs++[(f,y)]).lookup g=if g=f then some y else fs.lookup g
 | [],_=>by
  by_cases h:g=f
  . subst h;simp
  . have:(g == f)=false:=beq_eq_false_iff_ne.mpr h;simp[List.lookup,this,h]
 | (k,v)::fs,h=>by
  have h':(f == k)=false/\fs.lookup f=none:=by
   cases e:(f == k)with
   |true=>simp[List.lookup,e]at h
   |false=>exact⟨rfl,by simpa[List.lookup,e]using h⟩
  have ih:=sY (g:=g) (y:=y) h'.2
  cases e:(g == k)with
  | true =>
   have:g≠f:=λz=>by subst z;rw[h'.1]at e;cases e
   simp[List.lookup,e,this]
  | false =>
   simp only[List.cons_append,List.lookup,e];exact ih
theorem Jd{o value:Expr}{f:Str}{pos':Pos}{ta tv:TE}(ha:PE X o ta)(hv:PE X value tv)(hs:swapsWith value (some (.Attribute o f pos')) pos.line X.env=pure false:=by rfl):PS X (.Assign [.Attribute o f pos'] value pos) (LH X.K ta tv f):=by
 intro gV s σ H D I h;refine plainObj_wpAny_Assign_Attribute (PP (hv gV s σ H _ I h) λu s1 ⟨y,H1,I1,ry,q⟩=>PP (ha gV s1 σ H1 _ I1 q) λov s2 ⟨x,H2,I2,rx,e,c,C,L,cd,ex,S,hf,q2⟩=>?_) hs;subst ex;obtain rfl:ov=Value.ref e:=rx;rcases q2 with⟨he,q2⟩|⟨d,fs,he,hd,hl,hz,q2⟩
 .
  obtain⟨vs,sl,od,Ia,hz⟩:=(I2.xo he).inst (λd z=>nomatch z);have dn:H2 s2.heap.objs.size=none:=I2.hok.fresh (UJ _);have dne:s2.heap.objs.size≠e:=Nat.ne_of_gt (UF Ia.at_);refine EJ S I2.kIn Ia rfl hf λh' tk e1 n1 k1=>⟨σ,_,?_,q2 s2.heap.objs.size dn dne⟩
  have hd1:d3 X.prog X.w (Pv (Pv H2 s2.heap.objs.size (XD s2.heap.objs.size [(f,y)])) e (XO e (.ref C) (some s2.heap.objs.size))) h' s2.heap.objs.size (XD s2.heap.objs.size [(f,y)]):=by
   refine XD.ok n1 (λg=>?_) λg hg=>?_
   .
    by_cases z:g=f
    . subst z;simp[GS,ry]
    . have:(g == f)=false:=beq_eq_false_iff_ne.mpr z;simp[List.lookup,this,z,GS]
   .
    by_cases z:g=f
    . simp[z]
    . simp[z]at hg
  obtain⟨vs0,sl0,he0,hz0,h10⟩:=I2.xo he;have e2:=Ia.at_.symm.trans he0;cases e2;have ho1:d3 X.prog X.w (Pv (Pv H2 s2.heap.objs.size (XD s2.heap.objs.size [(f,y)])) e (XO e (.ref C) (some s2.heap.objs.size))) h' e (XO e (.ref C) (some s2.heap.objs.size)):=XO.ok ⟨vs,sl,e1,hz0,h10⟩;have tr:∀b o,H2 b=some o->b≠e->Pv (Pv H2 s2.heap.objs.size (XD s2.heap.objs.size [(f,y)])) e (XO e (.ref C) (some s2.heap.objs.size)) b=some o:=λb o q hb=>by rw[ay hb,ay (bb q dn)];exact q
  have nx:∀b o,H2 b=some o->(∀ψ,o≠.ext ψ)->b≠e:=λb o q n z=>by subst z;rw[he]at q;cases q;exact n _ rfl
  refine I2.un ⟨λb o hb n _ _=>k1 b o (λz=>by subst z;rw[he]at n;cases n) hb,λb o hb n _ _=>⟨o.slots,k1 b o (λz=>by subst z;rw[he]at n;cases n) hb⟩,λb o hb n _=>?_,λb o hb _=>?_,λb xs q=>tr b _ q (nx b _ q λ_ z=>nomatch z),λb o' u' q=>tr b _ q (nx b _ q λ_ z=>nomatch z),λb ps q=>tr b _ q (nx b _ q λ_ z=>nomatch z)⟩ λb o q=>?_
  . rw[ay (λz=>by subst z;rw[he]at n;cases n),ay (Nat.ne_of_lt (UF hb))];exact n
  .
   by_cases z:b=e
   . subst z;exact⟨_,e1⟩
   . exact⟨o,k1 b o z hb⟩
  .
   by_cases hb:b=e
   . subst hb;rw[aX]at q;cases q;exact ho1
   .
    by_cases hb2:b=s2.heap.objs.size
    . subst hb2;rw[ay hb,aX]at q;cases q;exact hd1
    .
     rw[ay hb,ay hb2]at q;refine(I2.hok b o q).stay (λc v hc z=>k1 c v ?_ z) (λc z=>tr c _ z (nx c _ z λ_ z=>nomatch z)) (λc xs z=>tr c _ z (nx c _ z λ_ z=>nomatch z)) λc ob _ _ z=>tr c _ z (nx c _ z λ_ z=>nomatch z);rcases hc with rfl|hc
     . exact hb
     . exact nx c _ hc λ_ z=>nomatch z
 .
  obtain⟨mA,nA,rA,wA⟩:=I2.xd hd;obtain⟨od,_,_,hod,_⟩:=id nA;obtain⟨vs,sl,od',Ia,hz'⟩:=(I2.xo he).inst (λd' z=>by cases z;exact⟨od,hod⟩);refine EK S I2.kIn Ia rfl nA wA (by rw[UC];omega) hf λh' tk n1 sb=>⟨σ,_,?_,q2⟩
  refine I2.write (x:=d) (e:=d) (by rw[hd];exact True.intro) (.inl rfl) (λb u hb e1=>(sb.2 b hb).trans e1) (let ⟨o,_,_,e1,_⟩:=n1;⟨o,e1⟩) (XD.ok n1 (λg=>?_) λg hg=>?_)
  .
   rw[sY hl];by_cases z:g=f
   . subst z;simp[GS,ry]
   . rw[if_neg z,if_neg z];exact rA g
  .
   by_cases z:g=f
   . subst z;simp
   . rw[if_neg z]at hg;have:=wA g hg;simp at this ⊢;exact .inl this
end
noncomputable def LJ(K:Frag)(ns:List Str):Sp:=λvs H Q _=>∃e vals c C L cd,vs=.ref e::vals/\H e=some (XO e (.ref C) none)/\rV K c C L cd/\(∀f∈ns,findIn K (.ref C) f=some none)/\vals.length=ns.length /\
 ∀d,H d=none->d≠e->Q .non (Pv (Pv H d (XD d (ns.zip vals))) e (XO e (.ref C) (some d)))
def Q6(K:Frag):TS:=HM (zQ K (BV (HJ 0) (BV (HJ 1) Ng)))
def Q7(K:Frag)(x:V)(f:Str):TS:=Oq (HM (zQ K (BV (HJ 0) (BV (tC x) Ng)))) (LH K (HJ 0) (HJ 1) f)
theorem Je{K:Frag}{vs:List V}{H:Hp}{Q:VK}{E:XK}{a b:Str}(h:M0 K vs H Q E):Q6 K {nx:=λ_ H'=>Q .non H',rt:=Q} (nO [a,b] vs) H:=by obtain⟨e,tx,c,C,L,cd,rfl,he,S,q⟩:=h;exact⟨_,rfl,_,rfl,e,tx,c,C,L,cd,rfl,he,S,q⟩
theorem Jf{K:Frag}{vs:List V}{H:Hp}{Q:VK}{E:XK}{a b f:Str}{x:V}(h:LJ K [f] vs H Q E):Q7 K x f {nx:=λ_ H'=>Q .non H',rt:=Q} (nO [a,b] vs) H:=by
 obtain⟨e,vals,c,C,L,cd,rfl,he,S,hf,hl,q⟩:=h
 match vals,hl with
 |[v],_=>exact⟨_,rfl,e,x,c,C,L,cd,rfl,he,S,_,rfl,_,rfl,e,c,C,L,cd,rfl,S,hf f v6,.inl ⟨he,λd hd hde=>q d hd hde⟩⟩
structure Xc where
 c:Str
 ns:List Str
 ds:List D
def Ei(K:Frag)(H:Hp)(cls:Value)(dx:Option Addr)(x:Xc):Prop:=∃C vs,cls=.ref C/\jL K x.c C=true/\(∀f∈x.ns,findIn K (.ref C) f=some none)/\XF H dx x.ns vs/\bA K H vs x.ds
theorem Ei.ext{K:Frag}{H H':Hp}{cls:Value}{dx:Option Addr}{x:Xc}(f:Ei K H cls dx x)(h:∀b o,H b=some o->H' b=some o):Ei K H' cls dx x:=by obtain⟨C,vs,e,s,fq,a,r⟩:=f;exact⟨C,vs,e,s,fq,a.pres λb o _ q=>h b o q,r.pres λb o _ q=>h b o q⟩
noncomputable def Q8(P:Program)(w:World):Qa:=λouter H s E e s'=>∃a cls dx T H',e=.ref a/\s'.os=s.os/\AllBare s'.gens/\Un (PD outer) [] H H' s.heap s'.heap/\Pw P w H' s'.heap/\Q3 s'.heap a cls dx (some T)/\H' a=none/\H' T=none /\
 s.heap.objs.size<=a/\s.heap.objs.size<=T/\E cls dx H'
section
variable{X:Cx}{gV:List (Addr×Obj)}{σ:St}{H:Hp}{s:Shared}
theorem Pw.there{P:Program}{w:World}{H:Hp}{h:Heap}(x:Pw P w H h){b:Addr}{o:HO}(e:H b=some o):∃u,h.get? b=some u:=by
 have lt:=x.lt e
 cases o with
 |lst xs=>obtain⟨_,_,_,_,e⟩:=x b _ e;exact⟨_,e⟩
 |tup xs=>obtain⟨_,_,_,o,e,_⟩:=x b _ e;exact⟨_,e⟩
 |dK kvs=>obtain⟨_,_,_,_,o,_,_,e,_⟩:=x b _ e;exact⟨_,e⟩
 |dT kvs=>obtain⟨_,_,_,_,o,_,_,e,_⟩:=x b _ e;exact⟨_,e⟩
 |set S n=>obtain⟨o,_,_,_,e,_⟩:=x b _ e;exact⟨_,e⟩
 |ins C dx fs=>obtain⟨_,_,_,e,_⟩:=x b _ e;exact⟨_,e⟩
 |own y=>obtain⟨_,e⟩:=x b _ e;exact⟨_,e⟩
 |xd fs=>obtain⟨_,⟨_,_,_,e,_⟩,_⟩:=x b _ e;exact⟨_,e⟩
 |rng lo hi=>obtain⟨_,_,_,e⟩:=x b _ e;exact⟨_,e⟩
 |frz ob u=>obtain⟨e,_⟩:=x b _ e;exact⟨_,e⟩
 |tbl t=>obtain⟨_,e,_⟩:=x b _ e;exact⟨_,e⟩
 |met f y=>exact⟨_,(show h.get? b=some _ from x b _ e)⟩
 |ext φ=>obtain⟨_,⟨_,e⟩,_⟩:=x b _ e;exact⟨_,e⟩
structure Q9 (X:Cx) (gV:List (Addr×Obj)) (b:Addr):Prop where
 s0:X.s₀.heap.objs.size<=b
 loc:b≠X.env.locals
 cel:∀x c,X.env.cells.lookup x=some c->c≠b
 pin:∀p∈X.pn++gV,p.1≠b
theorem PJ.newer(I:PJ X gV σ H s){b:Addr}(h:s.heap.objs.size<=b):Q9 X gV b:=by
 refine⟨Nat.le_trans I.sz h,λz=>?_,λx c e z=>?_,λp hp z=>?_⟩
 . have:=I.lt;rw[<- z]at this;exact absurd this (Nat.not_lt.mpr h)
 . obtain⟨v,o,ho,_⟩:=I.cell x c e;have:=UF ho;rw[z]at this;exact absurd this (Nat.not_lt.mpr h)
 . have:=UF (I.pin p hp).1;rw[z]at this;exact absurd this (Nat.not_lt.mpr h)
structure zR (X:Cx) (gV:List (Addr×Obj)) (H:Hp) (s:Shared) (a:Addr) (cls:Value) (dx T:Option Addr):Prop where
 fly:Q3 s.heap a cls dx T
 na:H a=none
 nt:∀t,T=some t->H t=none
 wa:Q9 X gV a
 wt:∀t,T=some t->Q9 X gV t
def Ra(X:Cx)(xp:Xc->Prop):Prop:=∀(gV:List (Addr×Obj))(σ:St)(H:Hp)(s:Shared)(a:Addr)(cls:Value)(dx T:Option Addr)(x:Xc),PJ X gV σ H s->zR X gV H s a cls dx T->Ei X.K H cls dx x->xp x->X.xe (.ref a) s
end
theorem CN{P:Program}{w:World}{K:Frag}{mg:Str->Option Value}{base:Heap}{N:List Str}{qual:Str}{scope:Scope}{f:Addr}{cd:Value}{A:Around}{outer:List Env}{s:Shared}{H:Hp}{E:XK}{xp:Xc->Prop}
  (h:∀cls dx H' x,Ei K H' cls dx x->xp x->E cls dx H'):Ra (Eg (Q8 P w) P w K mg base N qual scope f cd A outer s H E) xp:=by
 intro gV σ H1 s1 a cls dx T x I R F q;show wpAny (model P w) _ (leaving _ (.ref a)) _ _ s1;unfold leaving;have hl:=I.stack;refine Uw (LF (F:=s.heap.objs.size) I.ok.frames hl rfl R.fly λh' T' fl hT k1 k2=>?_);have neL:∀b o,s.heap.get? b=some o->b≠s.heap.objs.size:=λb o e=>Nat.ne_of_lt (UF e);have neA:∀b o,s.heap.get? b=some o->b≠a:=λb o e=>Nat.ne_of_lt (UB (UF e) R.wa.s0);have neT:∀b o,s.heap.get? b=some o->some b≠T:=λb o e z=>absurd (UF e) (Nat.not_lt.mpr (R.wt b z.symm).s0);have tra:∀b o,H1 b=some o->b≠a/\some b≠T/\b∉PD (envOfC qual scope s.heap.objs.size f cd::outer):=λb o e=>by refine⟨λz=>(by subst z;rw[R.na]at e;cases e),λz=>(by rw[R.nt b z.symm]at e;cases e),λz=>?_⟩;have:=I.stkFree b z;rw[e]at this;cases this
 refine⟨a,cls,dx,T',H1,rfl,I.os,I.bare,⟨λb o e n hf hx=>?_,λb o e n hf hx=>?_,λb o e n hx=>I.base.free b o e n hx,λb o e hx=>?_,I.base.tups,I.base.frzs,I.base.tbls⟩,λb o e=>?_,fl,R.na,?_,R.wa.s0,Nat.le_trans I.sz hT,h cls dx H1 x F q⟩
 .
  refine k1 b o (neA b o e) (neT b o e) (λhm=>?_) (I.base.keep b o e n hf hx);rcases UK.mp (show b∈s.heap.objs.size::PD outer from hm)with z|z
  . exact neL b o e z
  . exact hf z
 . obtain⟨sl,e1⟩:=I.base.slot b o e n hf hx;obtain⟨sl',e2⟩:=k2 b _ (neA b o e) (neT b o e) e1;exact⟨sl',e2⟩
 . obtain⟨o',e1⟩:=I.base.there b o e hx;obtain⟨sl',e2⟩:=k2 b _ (neA b o e) (neT b o e) e1;exact⟨_,e2⟩
 .
  refine(I.hok b o e).stay (λc v hc z=>?_) (λ_ z=>z) (λ_ _ z=>z) λ_ _ _ _ z=>z
  have ht:∃o',H1 c=some o':=by
   rcases hc with rfl|hc
   . exact⟨o,e⟩
   . exact⟨_,hc⟩
  obtain⟨o',ho'⟩:=ht;obtain⟨t1,t2,t3⟩:=tra c o' ho';exact k1 c v t1 t2 t3 z
 . exact I.hok.fresh hT
abbrev Rb:=List D->(L->Prop)->(Xc->Prop)->Prop
noncomputable def Rc(K:Frag)(n:Nat)(fs:Rb):Sp:=λvs H Q E=>vs.length=n/\∃ds so xp,bA K H vs ds/\fs ds so xp/\(∀v H' r,aB K H H' [some v] [r]->so r->Q v H')/\∀cls dx H' x,Ei K H' cls dx x->xp x->E cls dx H'
def zS(fs:Rb)(xp:Xc->Prop)(t:W (List L)):W L:=λZ so=>t Z λls Z1=>EU ls λds=>fs ds (λr=>so r Z1) xp
theorem aB.ds{K:Frag}{H:Hp}:∀{vs:List V}{ds:List D},bA K H vs ds->Paired (a6 K H) (vs.map some) (ds.map .d)
 |_,_,.nil=>.nil
 |_,_,.cons h t=>.cons ⟨_,rfl,h⟩ (aB.ds t)
section
variable{X:Cx}{k n:Nat}{f:Addr}{fd:FuncData}{ps:List Str}{fs:Rb}{x:Str}{p pos:Pos}{e:Expr}{es:List Expr}{bs:List (Option Nat)}{t:W (List L)}{xp:Xc->Prop}
theorem LK{gV:List (Addr×Obj)}{σ:St}{H Pr:Hp}{s:Shared}{Z:Ev}{us:List Value}{vs:List V}{ds:List D}{so:L->Ev->Prop}{Ex:Value->Shared->Prop}(F:FnOk X.prog X.w X.K X.mg X.base (Q8 X.prog X.w) k f fd ps (Rc X.K n fs))(hr:gI k X.A)(hb:nN X.K fd ps [])(hl:vs.length=n)
  (I:PJ X gV σ H s) (E:aB X.K Pr H σ Z) (r:bO vs us) (rs:bA X.K H vs ds) (h:fs ds (λr=>so r Z) xp)
  (hx:∀(s':Shared)(H':Hp)(a:Addr)(cls:Value)(dx T:Option Addr)(y:Xc),PJ X gV σ H' s'->aB X.K Pr H' σ Z->zR X gV H' s' a cls dx T->Ei X.K H' cls dx y->xp y->Ex (.ref a) s') :
  wpAny (model X.prog X.w) X.A (call (.ref f) us) (EL X gV σ Pr so) Ex s:=by
 have hsp:Rc X.K n fs vs (vj H) (λv H'=>∃r,aB X.K (vj H) H' [some v] [r]/\so r Z) (λcls dx H'=>∃y,Ei X.K H' cls dx y/\xp y) :=
  ⟨hl,ds,_,xp,rs.hid,h,λv H' r E1 p=>⟨r,E1,p⟩,λcls dx H' y q1 q2=>⟨y,q1,q2⟩⟩
 have hl':us.length=ps.length:=by rw[<- r.length];exact F.len _ _ _ _ hsp
 have bt:=hb s us I.kIn (by rw[List.append_nil];exact hl');rw[List.append_nil]at bt;refine wpAny_call (codeAny_mono (F.run X.A X.stack s (vj H) ⟨us,[]⟩ us vs _ _ hr I.hide bt r hsp) λres s' hq=>?_)
 cases res with
 | error e =>
  obtain⟨a,cls,dx,T,H',rfl,os,bare,un,hok,fl,na,nt,za,zt,y,q1,q2⟩:=hq;obtain⟨I2,ext,back⟩:=I.unhide os bare un hok;refine hx s' _ a cls dx (some T) y I2 (E.exten ext) ⟨fl,?_,λt et=>?_,I.newer za,λt et=>by cases et;exact I.newer zt⟩ (q1.ext λb o q=>fR q) q2
  . rw[pQ na];exact I.hok.fresh za
  . cases et;rw[pQ nt];exact I.hok.fresh zt
 | ok fl =>
  cases fl with
  | ret u =>
   obtain⟨v,H',os,bare,un,hok,rv,r,E2,p⟩:=hq;obtain⟨I2,ext,back⟩:=I.unhide os bare un hok;have E3:=E.exten ext
   have fr:∀a∈a8 r,H a=none/\∃vs,H' a=some vs/\Ig vs:=λa ha=>by
    have ha':a∈owns [r]:=by rw[aJ];exact List.mem_append_left _ ha
    obtain⟨vs',e1,m1⟩:=E2.at_own ha';exact⟨back a _ e1 (E2.off a ha'),vs',e1,m1⟩
   refine⟨v,_,r,Z,I2,rv,⟨E3.sub,?_,λa ha=>?_,.cons ?_ E3.sl⟩,p⟩
   . rw[aJ];have n1:=E2.nd;rw[aJ]at n1;refine List.nodup_append.mpr ⟨(List.nodup_append.mp n1).1,E3.nd,λa ha b hb z=>?_⟩;subst z;obtain⟨vs',e1,_⟩:=E.at_own hb;rw[(fr a ha).1]at e1;cases e1
   .
    rw[aJ]at ha;rcases List.mem_append.mp ha with z|z
    .
     cases q:Pr a with
     |none=>rfl
     |some o=>have:=E.sub a o q;rw[(fr a z).1]at this;cases this
    . exact E3.off a z
   .
    have sl:=E2.sl
    cases sl with
    | cons q t =>
     exact q.pres (λb o _ e=>fR e) r λa ha=>by obtain⟨_,vs',e1,_⟩:=fr a ha;rw[fR e1,e1]
  |next=>exact False.elim hq
  |brk=>exact False.elim hq
  |cont=>exact False.elim hq
theorem Ft(F:FnOk X.prog X.w X.K X.mg X.base (Q8 X.prog X.w) k f fd ps (Rc X.K n fs))(hr:gI k X.A)(hg:Gl X x)(hm:X.mg x=some (.ref f))(hk:PySem.W.keepIn X.K (.ref f)=true)(hb:nN X.K fd ps [])(hx:Ra X xp)
  (ha:Qt X (e::es) bs t) (hn:bs.length=n) (hdb:(x == ("__debug__" : Str))=false:=by decide) (he:starEach (e::es) X.env=(false,eval e X.env)::starEach es X.env:=by rfl) (hpl:(backTo pos (starEach es X.env)).any (·.1)=false:=by rfl) :
  PL X (.Call (.Name x p) (e::es) [] pos) (zS fs xp t):=by
 intro gV s σ H Pr Z so I E0 h;refine wpAny_Call_Name_kw (jH I hg hm ?_ hdb);refine PySem.W.callWith_K (h₀:=X.base) I.ok.mod.kin hk (PP (ha pos gV s σ H Pr Z _ I E0 h) λus s1 ⟨vs,H1,ls,Z1,I1,r,hl,hbl,E1,hv,q⟩=>⟨I1.kIn,?_⟩) he hpl;obtain⟨ds,rfl,q1⟩:=jP q;have p4:vs.length=ds.length:=by simpa using hl
 exact LK (so:=so) F hr hb (hbl.trans hn) I1 (E1.drop (by simp[p4])) r (jQ p4 E1) q1 λs' H' a cls dx T y I2 _ R q1 q2=>hx gV σ H' s' a cls dx T y I2 R q1 q2
noncomputable def A5(ns:List Str)(ds:List D):List D:=if ns=[]then[]else ds
def v8(c:Str)(ns:List Str)(xp:Xc->Prop)(t:W (List L)):W Fl:=λZ _=>t Z λls _=>EU ls λds=>(ns=[]∨ds.length=ns.length)/\ds.length<=8/\xp ⟨c,ns,A5 ns ds⟩
structure XT (K:Frag) (mg:Str->Option Value) (c:Str) (C fI:Addr) (fd:FuncData) (ps:List Str) (ns:List Str):Prop where
 m:mg c=some (.ref C)
 s:jL K c C=true
 mkx:Q1 K C fI
 b:nN K fd ps []
 kp:PySem.W.keepIn K (.ref C)=true
 fn:∀f∈ns,findIn K (.ref C) f=some none
def CO(K:Frag)(sp:Sp)(C:Addr)(ns:List Str)(vs:List V):Prop:=∀(e:Addr)(H:Hp)(Q:VK),H e=some (XO e (.ref C) none) ->
 (∀H2 dx,(∀b,b≠e->∀o,H b=some o->H2 b=some o)->H2 e=some (XO e (.ref C) dx)->((ns=[]/\dx=none)∨∃d,dx=some d/\d≠e/\H2 d=some (XD d (ns.zip vs))/\H d=none/\ns.length=vs.length)->Q .non H2)->sp (.ref e::vs) H Q E0
theorem Jg{K:Frag}{c:Str}{C:Addr}{ns:List Str}{vs:List V}(h:jL K c C=true)(hf:∀f∈ns,findIn K (.ref C) f=some none)(hl:vs.length=ns.length):CO K (LJ K ns) C ns vs:=λe H Q he q=>by
 obtain⟨L,cd,S⟩:=jM h;refine⟨e,vs,c,C,L,cd,rfl,he,S,hf,hl,λd hd hde=>q _ (some d) (λb hb o z=>?_) aX (.inr ⟨d,rfl,hde,?_,hd,hl.symm⟩)⟩
 . rw[ay hb,ay (bb z hd)];exact z
 . rw[ay hde,aX]
theorem CP{c:Str}{C fI:Addr}{ns:List Str}{sp:Sp}{gV:List (Addr×Obj)}{σ:St}{H:Hp}{s:Shared}{us:List Value}{vs:List V}{Q:Value->Shared->Prop}(T:XT X.K X.mg c C fI fd ps ns)(F:FnOk X.prog X.w X.K X.mg X.base CX0 k fI fd ps sp)(hi:CO X.K sp C ns vs)(hr:gI (k+1) X.A)(hz:us.length<=sizeLine)
  (I:PJ X gV σ H s) (r:bO vs us)
  (hq:∀(s':Shared)(H':Hp)(e:Addr)(dx:Option Addr),PJ X gV σ H' s'->(∀b o,H b=some o->H' b=some o)->H' e=none->s.heap.objs.size<=e->Q3 s'.heap e (.ref C) dx none->((ns=[]/\dx=none)∨∃d od,dx=some d/\H' d=some (.frz od (.xd (ns.zip vs)))/\ns.length=vs.length)->Q (.ref e) s') :
  wpAny (model X.prog X.w) X.A (call (.ref C) us) Q X.xe s:=by
 obtain⟨hh,g,d0,tk,os⟩:=s;refine NA I.kIn T.mkx hz λh' e hm hsz=>?_;obtain⟨tt,he,_,_⟩:=hm.there;have hn:H e=none:=I.hok.fresh hsz;have I1:PJ X gV σ (Pv H e (XO e (.ref C) none)) ⟨h',g,d0,tk,os⟩:=I.laid (t':=tk) hm.keeps hsz (XO.ok ⟨_,_,he,v6,rfl⟩);have hsp:=hi e (Pv H e (XO e (.ref C) none)) (λv H2=>v=.non/\∃dx,(∀b,b≠e->∀o,Pv H e (XO e (.ref C) none) b=some o->H2 b=some o)/\H2 e=some (XO e (.ref C) dx)/\((ns=[]/\dx=none)∨∃d,dx=some d/\d≠e/\H2 d=some (XD d (ns.zip vs))/\Pv H e (XO e (.ref C) none) d=none/\ns.length=vs.length)) aX λH2 dx a b c=>⟨rfl,dx,a,b,c⟩;have r2:bO (V.ref e::vs) (Value.ref e::us):=.cons rfl r;have hl:(Value.ref e::us).length=ps.length:=by rw[<- r2.length];exact F.len _ _ _ _ hsp
 have bt:=T.b _ (Value.ref e::us) I1.kIn (by rw[List.append_nil];exact hl);rw[List.append_nil]at bt;refine wpAny_call (codeAny_mono (F.run _ X.stack _ _ ⟨Value.ref e::us,[]⟩ (Value.ref e::us) _ _ E0 (hr.make C us []) (I1.env0.make C us []) bt r2 hsp) λres s' hq'=>?_)
 cases res with
 |error x=>exact hq'.elim
 | ok fl =>
  cases fl with
  | ret u =>
   obtain⟨v,H2,I2,rv,ev,dx,kp,e2,alt⟩:=I1.after hq';subst ev;refine⟨rv,?_⟩;have fl:=I2.xo e2;have I3:=I2.forget e2
   have up:∀b o,H b=some o->Q2 H2 e b=some o:=λb o q=>by
    have hb:b≠e:=λz=>by subst z;rw[hn]at q;cases q
    rw[dY hb];exact kp b hb o (by rw[ay hb];exact q)
   rcases alt with⟨z1,z2⟩|⟨d,z1,z2,z3,z4,z5⟩
   . exact hq s' _ e dx I3 up m8 hsz fl (.inl ⟨z1,z2⟩)
   .
    have hd:Q2 H2 e d=some (XD d (ns.zip vs)):=by rw[dY z2];exact z3
    obtain⟨mA,nA,rA,_⟩:=I2.xd z3;obtain⟨od,es,ep,hod,r1⟩:=id nA;have I4:=I3.reword (w:=.frz od (.xd (ns.zip vs))) hd (λq=>q) (λ_ q=>nomatch q) ⟨hod,mA,nA,rA⟩ (λ_ _ _ q=>nomatch q);have dn:H d=none:=by rw[ay z2]at z4;exact z4
    refine hq s' _ e dx I4 (λb o q=>?_) (by rw[ay (Ne.symm z2)];exact m8) hsz fl (.inr ⟨d,od,z1,aX,z5⟩);rw[ay (bb q dn)];exact up b o q
  |next=>exact False.elim hq'
  |brk=>exact False.elim hq'
  |cont=>exact False.elim hq'
theorem Fu{c:Str}{C fI:Addr}{ns:List Str}{sp:Sp}{cpos:Pos}(T:XT X.K X.mg c C fI fd ps ns)(F:FnOk X.prog X.w X.K X.mg X.base CX0 k fI fd ps sp)(hi:∀vs:List V,vs.length=n->CO X.K sp C ns vs)(hr:gI (k+1) X.A)(hg:Gl X c)(hx:Ra X xp)(ha:Qt X (e::es) bs t)(hn:bs.length=n)
  (hdb:(c == ("__debug__" : Str))=false:=by decide) (he:starEach (e::es) X.env=(false,eval e X.env)::starEach es X.env:=by rfl) (hpl:(backTo cpos (starEach es X.env)).any (·.1)=false:=by rfl) :
  PM X (.Raise (some (.Call (.Name c p) (e::es) [] cpos)) none pos) (v8 c ns xp t):=by
 intro gV s σ H Pr Z so I E0 h;obtain⟨LL,cd,S⟩:=jM T.s;rw[arm_exec_Raise];refine Uw (wpAny_standAt ?_);refine LD S hr.hd (Uw (wpAny_mono (wpAny_Call_Name_kw (jH I hg T.m ?_ hdb)) (λv s3 h3=>Uw (wpAny_standAt (UH h3))) λ_ _ z=>z));refine PySem.W.callWith_K (h₀:=X.base) I.ok.mod.kin T.kp (PP (ha cpos gV s σ H Pr Z _ I E0 h) λus s1 ⟨vs,H1,ls,Z1,I1,r,hl,hbl,E1,hv,q⟩=>⟨I1.kIn,?_⟩) he hpl;obtain⟨ds,rfl,q0,q1,q⟩:=jP q;have p4:vs.length=ds.length:=by simpa using hl
 have rs:=jQ p4 E1;refine CP T F (hi vs (hbl.trans hn)) hr (by show us.length<=sizeLine;rw[<- r.length,p4];exact Nat.le_trans q1 x_) I1 r λs' H' e dx I2 up na hsz fl alt=>⟨e,dx,rfl,I2.kIn,fl,?_⟩;refine hx gV σ H' s' e _ dx none ⟨c,ns,A5 ns ds⟩ I2 ⟨fl,na,(λ_ z=>nomatch z),I1.newer hsz,(λ_ z=>nomatch z)⟩ ?_ q;rcases alt with⟨z1,z2⟩|⟨d,od,z1,z2,z3⟩
 . exact⟨C,[],rfl,T.s,T.fn,.inl ⟨z1,rfl,z2⟩,by unfold A5;rw[if_pos z1];exact .nil⟩
 .
  by_cases zn:ns=[]
  .
   subst zn;have e0:vs=[]:=by cases vs with|nil=>rfl|cons _ _=>simp at z3
   subst e0;exact⟨C,[],rfl,T.s,T.fn,.inr ⟨d,od,z1,z2,z3⟩,by unfold A5;rw[if_pos rfl];exact .nil⟩
  . exact⟨C,vs,rfl,T.s,T.fn,.inr ⟨d,od,z1,z2,z3⟩,by unfold A5;rw[if_neg zn];exact rs.pres λb o _ q=>up b o q⟩
end
def Re(so:L->Prop):Fl->Ev->Prop:=λf _=>match f with
 |.rt r=>so r
 |.nx=>so (.d .non)
 |_=>False
theorem LM{P:Program}{w:World}{K:Frag}{mg:Str->Option Value}{base:Heap}{x qual:Str}{st:Stmt}{f:Addr}{fd:FuncData}{N ps:List Str}{k:Nat}{fs:Rb}(F:Qq K x qual st f fd)(S:az N ps (ak st))(t:(Xc->Prop)->W Fl)
  (hbody:∀(cdv:Value)(A:Around)(outer:List Env)(s:Shared)(H:Hp)(E:XK)(xp:Xc->Prop),gI k (A.deeper (envOfC qual (ak st) s.heap.objs.size f cdv))->(∀cls dx H' y,Ei K H' cls dx y->xp y->E cls dx H') ->
   Qu (Eg (Q8 P w) P w K mg base N qual (ak st) f cdv A outer s H E) (cX st) (t xp))
  (h:∀ds so xp,ds.length=ps.length->fs ds so xp->t xp (ds.map .d++List.replicate (N.length-ps.length) .un) (Re so)):FnOk P w K mg base (Q8 P w) (k+1) f fd ps (Rc K ps.length fs):=by
 obtain⟨oc,od,kV,doc,pm,an,cdv,ct,osl,rfl,lk,hcd⟩:=F.ex;refine HS lk hcd S (λvs H Q E q=>q.1) λA outer s H vs Q E hr q=>?_;obtain⟨hl,ds,so,xp,rs,hf,q1,q2⟩:=q;have E0:aB K H H (vs.map some) (ds.map .d):=⟨λ_ _ e=>e,by rw[B9];exact List.nodup_nil,λa ha=>(by rw[B9]at ha;simp at ha),aB.ds rs⟩;refine⟨_,(hbody cdv A outer s H E xp hr q2).pss,H,ds.map .d++List.replicate (N.length-ps.length) .un,Re so,?_,h ds so xp (by rw[<- rs.length];exact hl) hf,λσ' H' Z' E' p=>?_,λ_ _ _ _ p=>p.elim,λ_ _ _ _ p=>p.elim,λv τ H' r Z' E' p=>?_⟩
 . unfold nO;rw[hl];exact E0.uns _
 . exact q1 .non H' (.d .non) ((⟨E'.sub,List.nodup_nil,λa ha=>(by simp[owns]at ha),.nil⟩:aB K H H' [] []).cons_d .non) p
 . exact q1 v H' r (aB.left (τ:=[some v]) (lam:=[r]) E' rfl) p
noncomputable def Rf(c y:Str):Bool:=c == y ||c == ("LoadError" : Str)
structure XH (K:Frag) (mg:Str->Option Value) (c:Str) (C:Addr):Prop where
 m:mg c=some (.ref C)
 ns:nsIn K mainGlobals c=some (some (.ref C))
 cls:∃cd,clsIn K C=some cd/\cd.name=c
 ty:typeIn K (.ref C)=some (.type "type")
 base:mroIn K C (.type "BaseException")=some true
section
variable{K:Frag}{mg:Str->Option Value}{c y:Str}{C D:Addr}
theorem XH.sub(T:XH K mg c C)(hs:jL K y D=true):mroIn K D (.ref C)=some (Rf c y):=by
 obtain⟨L,cd,S⟩:=jM hs;obtain⟨cdC,hC,hn⟩:=T.cls;obtain⟨kL,hL,hnL⟩:=S.lname;rw[S.mroIn,EG]
 congr 1
 unfold Rf
 have e1:(C == D)=(c == y):=by
  by_cases h:c=y
  . subst h;have z:=T.ns.symm.trans S.own;cases z;simp
  . rw[beq_eq_false_iff_ne.mpr h,beq_eq_false_iff_ne];intro z;subst z;rw[S.cls]at hC;cases hC;exact h (hn.symm.trans S.name)
 have e2:(C == L)=(c == ("LoadError" : Str)):=by
  by_cases h:c=("LoadError" : Str)
  . subst h;have z:=T.ns.symm.trans S.load;cases z;simp
  . rw[beq_eq_false_iff_ne.mpr h,beq_eq_false_iff_ne];intro z;subst z;rw[hL]at hC;cases hC;exact h (hn.symm.trans hnL)
 rw[e1,e2]
theorem LN{M:Model}{A:Around}{E:Value->Shared->Prop}{s:Shared}{a:Addr}{ox:Obj}{Q:Bool->Shared->Prop}(T:XH K mg c C)(hs:jL K y D=true)(hA:Rf c y=true)(X:K.In s.heap)(he:s.heap.get? a=some ox)(hc:ox.cls=.ref D)(hq:Q true s) :
  wpAny M A (excMatches (.ref a) (.ref C)) Q E s:=by
 obtain⟨hp,g,d,tk,os⟩:=s;have he:hp.get? a=some ox:=he;obtain⟨cd,hcd,_⟩:=T.cls;obtain⟨oc,odc,slc,hK⟩:=pZ hcd;have hC:hp.get? C=some ⟨oc,odc,.cls cd,slc⟩:=X _ _ hK;have L1:Looks M hp (typeOf (.ref C)) (.type "type"):=looks_typeIn X T.ty;have L2:Looks M hp (isSubtype (.ref C) (.type "BaseException")) true:=looks_mroIn X T.base;have L3:Looks M hp (isSubtype (.ref D) (.ref C)) true:=looks_mroIn X (by rw[T.sub hs,hA]);have f:=tc_notTuple;have L4:Looks M hp (isInstance (.ref C) (.type "tuple")) false:=L1.andThen (Looks.of_pure f);have L5:Looks M hp (typeOf (.ref a)) (.ref D):=hc ▸ (Looks.ld he).andThen .now;unfold excMatches;refine Uw (L4.at ?_);dsimp only;rw[if_neg (by decide)]
 repeat (first|with_reducible refine L2.at ?_|with_reducible refine L3.at ?_|with_reducible refine L5.at ?_|with_reducible refine wpAny_loadPart_at hC ?_|wp_step)
 exact hq
end
noncomputable abbrev Cx.tr(X:Cx)(gV:List (Addr×Obj))(E:Value->Shared->Prop):Cx:={X with pn:=X.pn++gV,xe:=E}
noncomputable abbrev Cx.han(X:Cx)(a:Addr):Cx:={X with A:=X.A.mark (some (.ref a)),calm:=false,xe:=λ_ _=>False}
section
variable{X:Cx}{gV pins0:List (Addr×Obj)}{σ:St}{H:Hp}{s:Shared}{E:Value->Shared->Prop}{a:Addr}
theorem Cx.Ok.tr(ok:X.Ok):(X.tr gV E).Ok:=⟨ok.mod,ok.kind,ok.glob,ok.blt,ok.above,ok.inj,ok.has,ok.cab,ok.hd,ok.frames,ok.stk,ok.exf,ok.bs,ok.bsz,ok.noex,ok.exfs,ok.funs,ok.frf,ok.tbs⟩
theorem Cx.Ok.untr(ok:(X.tr gV E).Ok):X.Ok:=⟨ok.mod,ok.kind,ok.glob,ok.blt,ok.above,ok.inj,ok.has,ok.cab,ok.hd,ok.frames,ok.stk,ok.exf,ok.bs,ok.bsz,ok.noex,ok.exfs,ok.funs,ok.frf,ok.tbs⟩
theorem PJ.tr(I:PJ X gV σ H s):PJ (X.tr gV E) [] σ H s:=⟨I.ok.tr,I.os,I.bare,I.base,I.loc,I.cell,I.free,I.freeC,λp hp=>I.pin p (by simpa using hp),I.hok,I.len⟩
theorem PJ.untr(I:PJ (X.tr pins0 E) gV σ H s):PJ X pins0 σ H s:=⟨I.ok.untr,I.os,I.bare,I.base,I.loc,I.cell,I.free,I.freeC,λp hp=>I.pin p (List.mem_append_left _ hp),I.hok,I.len⟩
theorem PJ.han(I:PJ X gV σ H s)(a:Addr):PJ (X.han a) gV σ H s :=
 ⟨⟨I.ok.mod,I.ok.kind,I.ok.glob,I.ok.blt,I.ok.above,I.ok.inj,I.ok.has,I.ok.cab,(λz=>nomatch z),I.ok.frames,I.ok.stk,I.ok.exf,I.ok.bs,I.ok.bsz,I.ok.noex,I.ok.exfs,I.ok.funs,I.ok.frf,I.ok.tbs⟩,I.os,I.bare,I.base,I.loc,I.cell,I.free,I.freeC,I.pin,I.hok,I.len⟩
theorem PJ.unhan(I:PJ (X.han a) gV σ H s)(ok:X.Ok):PJ X gV σ H s:=⟨ok,I.os,I.bare,I.base,I.loc,I.cell,I.free,I.freeC,I.pin,I.hok,I.len⟩
theorem SM.unhan{Pr:Hp}{so:Fl->Ev->Prop}{f:Flow}{s':Shared}(ok:X.Ok)(h:SM (X.han a) gV Pr so f s'):SM X gV Pr so f s':=by
 cases f with
 |next=>obtain⟨σ',H',Z',I,r⟩:=h;exact⟨σ',H',Z',I.unhan ok,r⟩
 |brk=>obtain⟨σ',H',Z',I,r⟩:=h;exact⟨σ',H',Z',I.unhan ok,r⟩
 |cont=>obtain⟨σ',H',Z',I,r⟩:=h;exact⟨σ',H',Z',I.unhan ok,r⟩
 |ret u=>obtain⟨v,σ',H',r',Z',τ,I,r⟩:=h;exact⟨v,σ',H',r',Z',τ,I.unhan ok,r⟩
theorem SM.untr{Pr:Hp}{so:Fl->Ev->Prop}{f:Flow}{s':Shared}(h:SM (X.tr pins0 E) gV Pr so f s'):SM X pins0 Pr so f s':=by
 cases f with
 |next=>obtain⟨σ',H',Z',I,r⟩:=h;exact⟨σ',H',Z',I.untr,r⟩
 |brk=>obtain⟨σ',H',Z',I,r⟩:=h;exact⟨σ',H',Z',I.untr,r⟩
 |cont=>obtain⟨σ',H',Z',I,r⟩:=h;exact⟨σ',H',Z',I.untr,r⟩
 |ret u=>obtain⟨v,σ',H',r',Z',τ,I,r⟩:=h;exact⟨v,σ',H',r',Z',τ,I.untr,r⟩
end
def Rg(X:Cx)(gV:List (Addr×Obj))(Pr:Hp)(xp:Xc->Ev->Prop):Value->Shared->Prop:=λe s'=>∃σ' H' Z' a cls dx T x,e=.ref a/\PJ X gV σ' H' s'/\aB X.K Pr H' σ' Z'/\zR X gV H' s' a cls dx T/\Ei X.K H' cls dx x/\xp x Z'
noncomputable abbrev Cx.tb(X:Cx)(gV:List (Addr×Obj))(Pr:Hp)(xp:Xc->Ev->Prop):Cx:=X.tr gV (Rg X gV Pr xp)
def Le(P Q:Hp):Prop:=∀b o,P b=some o->Q b=some o
theorem aB.le{K:Frag}{P Q H:Hp}{σ:St}{Z:Ev}(E:aB K Q H σ Z)(h:Le P Q):aB K P H σ Z:=⟨λb o e=>E.sub b o (h b o e),E.nd,λa ha=>(by
  have z:=E.off a ha
  cases q:P a with
  |none=>rfl
  |some o=>rw[h a o q]at z;cases z),E.sl⟩
def Rh(X:Cx)(pins0:List (Addr×Obj))(Pr0:Hp)(xp:Xc->Ev->Prop)(e:Expr)(t:W L):Prop :=
 ∀(gV:List (Addr×Obj))(s:Shared)(σ:St)(H Pr:Hp)(Z:Ev)(so:L->Ev->Prop),Le Pr0 Pr->PJ (X.tb pins0 Pr0 xp) gV σ H s->aB X.K Pr H σ Z->t Z so->wpAny (model X.prog X.w) X.A (eval e X.env) (EL (X.tb pins0 Pr0 xp) gV σ Pr so) (Rg X pins0 Pr0 xp) s
def Ri(X:Cx)(pins0:List (Addr×Obj))(Pr0:Hp)(xp:Xc->Ev->Prop)(st:Stmt)(t:W Fl):Prop :=
 ∀(gV:List (Addr×Obj))(s:Shared)(σ:St)(H Pr:Hp)(Z:Ev)(so:Fl->Ev->Prop),Le Pr0 Pr->PJ (X.tb pins0 Pr0 xp) gV σ H s->aB X.K Pr H σ Z->t Z so->wpAny (model X.prog X.w) X.A (exec st X.env) (SM (X.tb pins0 Pr0 xp) gV Pr so) (Rg X pins0 Pr0 xp) s
def Oy(X:Cx)(pins0:List (Addr×Obj))(Pr0:Hp)(xp:Xc->Ev->Prop)(sts:List Stmt)(t:W Fl):Prop :=
 ∀(gV:List (Addr×Obj))(s:Shared)(σ:St)(H Pr:Hp)(Z:Ev)(so:Fl->Ev->Prop),Le Pr0 Pr->PJ (X.tb pins0 Pr0 xp) gV σ H s->aB X.K Pr H σ Z->t Z so->wpAny (model X.prog X.w) X.A (execs sts X.env) (SM (X.tb pins0 Pr0 xp) gV Pr so) (Rg X pins0 Pr0 xp) s
def v9(fs:Rb)(xp:Xc->Ev->Prop)(t:W (List L)):W L:=λZ so=>t Z λls Z1=>EU ls λds=>fs ds (λr=>so r Z1) (λy=>xp y Z1)
section
variable{X:Cx}{pins0:List (Addr×Obj)}{Pr0:Hp}{xp:Xc->Ev->Prop}{k n:Nat}{f:Addr}{fd:FuncData}{ps:List Str}{fs:Rb}{x:Str}{p pos:Pos}{e:Expr}{es:List Expr}{bs:List (Option Nat)}{t:W (List L)}{te:W L}{tm:W Fl}{st:Stmt}
theorem Fv(F:FnOk X.prog X.w X.K X.mg X.base (Q8 X.prog X.w) k f fd ps (Rc X.K n fs))(hr:gI k X.A)(hg:Gl X x)(hm:X.mg x=some (.ref f))(hk:PySem.W.keepIn X.K (.ref f)=true)(hb:nN X.K fd ps [])
  (ha:Qt (X.tb pins0 Pr0 xp) (e::es) bs t) (hn:bs.length=n) (hdb:(x == ("__debug__" : Str))=false:=by decide) (he:starEach (e::es) X.env=(false,eval e X.env)::starEach es X.env:=by rfl) (hpl:(backTo pos (starEach es X.env)).any (·.1)=false:=by rfl) :
  Rh X pins0 Pr0 xp (.Call (.Name x p) (e::es) [] pos) (v9 fs xp t):=by
 intro gV s σ H Pr Z so le I E0 h;refine wpAny_Call_Name_kw (jH (X:=X.tb pins0 Pr0 xp) I hg hm ?_ hdb);refine PySem.W.callWith_K (h₀:=X.base) I.ok.mod.kin hk (PP (ha pos gV s σ H Pr Z _ I E0 h) λus s1 ⟨vs,H1,ls,Z1,I1,r,hl,hbl,E1,hv,q⟩=>⟨I1.kIn,?_⟩) he hpl;obtain⟨ds,rfl,q1⟩:=jP q;have p4:vs.length=ds.length:=by simpa using hl
 refine LK (X:=X.tb pins0 Pr0 xp) (so:=so) F hr hb (hbl.trans hn) I1 (E1.drop (by simp[p4])) r (jQ p4 E1) q1 λs' H' a cls dx T y I2 E2 R z1 z2=>?_;exact⟨σ,H',Z1,a,cls,dx,T,y,rfl,I2.untr,E2.le le,⟨R.fly,R.na,R.nt,⟨R.wa.s0,R.wa.loc,R.wa.cel,λp hp=>R.wa.pin p (List.mem_append_left _ hp)⟩,λt et=>⟨(R.wt t et).s0,(R.wt t et).loc,(R.wt t et).cel,λp hp=>(R.wt t et).pin p (List.mem_append_left _ hp)⟩⟩,z1,z2⟩
theorem Jh(h:Rh X pins0 Pr0 xp e te):Rh X pins0 Pr0 xp e (bI te):=λgV s σ H Pr Z so le I E ht =>
 PP (h gV s σ H Pr Z _ le I E ht) λu s1 q=>by obtain⟨v,H',x,Z',I',rv,E',p⟩:=EL.frz (X:=X.tb pins0 Pr0 xp) (so:=λx Z=>so (.d x) Z) q;exact⟨v,H',.d x,Z',I',rv,E',p⟩
theorem Ji{i:Nat}{x:Str}{pos':Pos}(hN:X.N.Nodup)(hi:X.N[i]?=some x)(hx:PH X.env.scope x)(he:Rh X pins0 Pr0 xp e te)(hs:swapsWith e (some (.Name x pos')) pos.line X.env=pure false:=by rfl)(hf:X.fn x=true∨X.env.scope.names.lookup x=some .local:=by first|exact .inl rfl|exact .inr rfl|assumption) :
  Ri X pins0 Pr0 xp (.Assign [.Name x pos'] e pos) (bD i te):=by
 intro gV s σ H Pr Z so le I E h;refine wpAny_Assign_Name (PP (he gV s σ H Pr Z _ le I E h) λv s1 ⟨y,H1,r,Z1,I1,r1,E1,q1⟩=>?_) hs;exact mS (X:=X.tb pins0 Pr0 xp) I1 hN hi hx r1 (λs2 I2=>⟨_,H1,_,I2,E1.store (by rw[I1.len];exact(UA.mp hi).1),q1⟩) hf
theorem Fw(h1:Ri X pins0 Pr0 xp st tm):Oy X pins0 Pr0 xp [st] tm:=by
 intro gV s σ H Pr Z so le I E h;refine wpAny_execs_cons (PP (h1 gV s σ H Pr Z so le I E h) λf s1 q=>?_)
 cases f with
 |next=>exact wpAny_execs_nil q
 |brk=>exact q
 |cont=>exact q
 |ret u=>exact q
end
def M1(tb:(Xc->Ev->Prop)->W Fl)(c:Str)(ts:W Fl):W Fl:=λZ so=>tb (λx Z1=>Rf c x.c=true/\ts Z1 so) Z so
section
variable{X:Cx}{gV:List (Addr×Obj)}{σ:St}{H:Hp}{s:Shared}
theorem PJ.landed{Pr:Hp}{Z:Ev}{a:Addr}{cls:Value}{dx T:Option Addr}{h1:Heap}(I:PJ X gV σ H s)(R:zR X gV H s a cls dx T)(hstk:X.stack=X.env::X.outer)
  (k1:∀b o,b≠a->some b≠T->b∉PD (X.env::X.outer)->s.heap.get? b=some o->h1.get? b=some o) (k2:∀b o,b≠a->some b≠T->s.heap.get? b=some o->∃sl,h1.get? b=some {o with slots:=sl}):PJ X gV σ H {s with heap:=h1}:=by
 have nch:∀b,b∉a::T.toList->b≠a/\some b≠T:=λb hb=>⟨λz=>hb (by simp[z]),λz=>hb (by simp[<- z])⟩;have tra:∀b o,H b=some o->b≠a/\some b≠T/\b∉PD (X.env::X.outer):=λb o e=>by refine⟨λz=>(by subst z;rw[R.na]at e;cases e),λz=>(by rw[R.nt b z.symm]at e;cases e),λz=>?_⟩;have:=I.stkFree b (by rw[hstk];exact z);rw[e]at this;cases this
 refine I.call (g':=s.gens) (t':=s.toks) (d':=s.drawn) (ch:=a::T.toList) ⟨λb o e n hf hx=>?_,λb o e n hf hx=>?_,λb o e n hx=>n,λb o e hx=>?_,λ_ _ e=>e,λ_ _ _ e=>e,λ_ _ e=>e⟩ (λb o e=>?_) I.bare λb hb=>?_
 . exact k1 b o (nch b hx).1 (nch b hx).2 (by rw[<- hstk];exact hf) e
 . exact k2 b o (nch b hx).1 (nch b hx).2 e
 . obtain⟨sl,q⟩:=k2 b o (nch b hx).1 (nch b hx).2 e;exact⟨_,q⟩
 .
  refine(I.hok b o e).stay (λc v hc z=>?_) (λ_ z=>z) (λ_ _ z=>z) λ_ _ _ _ z=>z
  have ht:∃o',H c=some o':=by
   rcases hc with rfl|hc
   . exact⟨o,e⟩
   . exact⟨_,hc⟩
  obtain⟨o',ho'⟩:=ht;obtain⟨t1,t2,t3⟩:=tra c o' ho';exact k1 c v t1 t2 t3 z
 .
  have w:Q9 X gV b:=by
   rcases UK.mp hb with rfl|hb
   . exact R.wa
   . exact R.wt b (by cases T with|none=>simp at hb|some t=>simp at hb;rw[hb])
  exact⟨.inr w.s0,w.loc,w.cel,w.pin⟩
end
section
variable{X:Cx}{body suite:List Stmt}{b0:Stmt}{c:Str}{C:Addr}{p hp pos:Pos}{tb:(Xc->Ev->Prop)->W Fl}{ts:W Fl}
theorem Jj(hstk:X.stack=X.env::X.outer)(hf:X.env.frame=some X.env.locals)(TC:XH X.K X.mg c C)(hg:Gl X c)(hb:∀ gV Pr xp,Oy X gV Pr xp body (tb xp))(hs:∀ a,Qu (X.han a) (b0::suite) ts) (hdb:(c == ("__debug__" : Str))=false:=by decide) :
  PM X (.Try body [.ExceptHandler (some (.Name c p)) none (b0::suite) hp] [] [] pos) (M1 tb c ts):=by
 intro gV s σ H Pr Z so I E h;refine wpAny_Try_except (wpAny_mono (hb gV Pr (λx Z1=>Rf c x.c=true/\ts Z1 so) [] s σ H Pr Z so (λ_ _ z=>z) I.tr E h) (λf s1 q=>?_) λe s1 q=>?_)
 .
  have q':=SM.untr q
  cases f with
  |next=>exact wpAny_execs_nil q'
  |brk=>exact q'
  |cont=>exact q'
  |ret u=>exact q'
 . obtain⟨σ',H',Z',a,cls,dx,T,x,rfl,I1,E1,R,F,hA,hts⟩:=q;refine LF (hstk ▸ I1.ok.frames) (hstk ▸ I1.stack) hf R.fly λh1 T1 fl hT1 k1 k2=>?_;have I2:=I1.landed (Pr:=Pr) (Z:=Z') R hstk k1 k2;have w1:=I1.newer hT1;obtain⟨D0,vs,rfl,hstd,hfq,hxf,rs⟩:=F;refine wpAny_handleBy_cons (codeAny_handlers_test (jH (I2.han a) hg TC.m ?_ hdb)) (by intro q;cases q);obtain⟨vv,sl,he,_⟩:=id fl;refine LN TC hstd hA I2.kIn he rfl ?_;refine codeAny_handlers_suite (NB fl λh2 fl2 k3=>?_);have I3:=I2.turned (it:=T1) (t':=s1.toks) (λb o hb e=>k3 b o hb e) (I1.hok.fresh hT1) w1.loc (.inr w1.s0) w1.cel w1.pin;exact wpAny_mono (hs a gV _ σ' H' Pr Z' so (I3.han a) E1 hts) (λf s4 q=>SM.unhan I.ok q) λ_ _ z=>z.elim
end
theorem LP{X:Cx}:Ra X (λ_=>False):=λ_ _ _ _ _ _ _ _ _ _ _ _ h=>h.elim
section
variable{X:Cx}{k k' n:Nat}{f:Addr}{fd:FuncData}{ps:List Str}{fs:Rb}{g:Str}{st:Stmt}{e:Expr}{es:List Expr}{bs:List (Option Nat)}{t:W (List L)}{p pos cpos:Pos}{xp:Xc->Prop}{c:Str}{C fI:Addr}{ns:List Str}
theorem LQ(F:FnOk X.prog X.w X.K X.mg X.base (Q8 X.prog X.w) k f fd ps (Rc X.K n fs))(T:FX X.K X.mg g st f fd ps)(hr:gI k' X.A)(hx:Ra X xp)(ha:Qt X (e::es) bs t)(hk:k<=k':=by decide)(hg:Gl X g:=by rfl)(hn:bs.length=n:=by rfl) (hdb:(g == ("__debug__" : Str))=false:=by decide) (he:starEach (e::es) X.env=(false,eval e X.env)::starEach es X.env:=by rfl) (hpl:(backTo pos (starEach es X.env)).any (·.1)=false:=by rfl) :
  PL X (.Call (.Name g p) (e::es) [] pos) (zS fs xp t):=Ft F (hr.mono hk) hg T.m T.f.kp T.b hx ha hn hdb he hpl
theorem LR{pins0:List (Addr×Obj)}{Pr0:Hp}{xt:Xc->Ev->Prop}(F:FnOk X.prog X.w X.K X.mg X.base (Q8 X.prog X.w) k f fd ps (Rc X.K n fs))(T:FX X.K X.mg g st f fd ps)(hr:gI k' X.A)(ha:Qt (X.tb pins0 Pr0 xt) (e::es) bs t)(hk:k<=k':=by decide)(hg:Gl X g:=by rfl)(hn:bs.length=n:=by rfl) (hdb:(g == ("__debug__" : Str))=false:=by decide) (he:starEach (e::es) X.env=(false,eval e X.env)::starEach es X.env:=by rfl) (hpl:(backTo pos (starEach es X.env)).any (·.1)=false:=by rfl) :
  Rh X pins0 Pr0 xt (.Call (.Name g p) (e::es) [] pos) (v9 fs xt t):=Fv F (hr.mono hk) hg T.m T.f.kp T.b ha hn hdb he hpl
theorem wb(T:XT X.K X.mg c C fI fd ps ns)(F:FnOk X.prog X.w X.K X.mg X.base CX0 2 fI fd ps (LJ X.K ns))(hr:gI k' X.A)(hx:Ra X xp)(ha:Qt X (e::es) bs t)(hk:3<=k':=by decide)(hg:Gl X c:=by rfl)(hn:bs.length=ns.length:=by rfl)
  (hdb:(c == ("__debug__" : Str))=false:=by decide) (he:starEach (e::es) X.env=(false,eval e X.env)::starEach es X.env:=by rfl) (hpl:(backTo cpos (starEach es X.env)).any (·.1)=false:=by rfl) :
  PM X (.Raise (some (.Call (.Name c p) (e::es) [] cpos)) none pos) (v8 c ns xp t) :=
 Fu T F (λvs hv=>Jg T.s T.fn hv) (hr.mono hk) hg hx ha hn hdb he hpl
noncomputable abbrev Rj(g q:Str)(st:Stmt)(md:Value)(c:Nat):FuncData:=PySem.W.fnOf g q (jK st) (cX st) (ak st) .none .none .none md none (.ref c) .none
theorem CM.mk'{K:Frag}{mg:Str->Option Value}{h:Heap}(X:K.In h)(G:h.Ns mainGlobals mg){L fL:Addr}{st:Stmt}{md:Value}{c:Nat} (e1:nsIn K mainGlobals "LoadError"=some (some (.ref L))) (e2:readsIn K L (.type "type")=true) (e3:specialIn K (.ref L) "__getattribute__"=some (some (.builtin "type.__getattribute__")))
  (e4:findCls K (.ref L) (.type "type") "__init__"=some (.val (.ref fL))) (e5:K.lookup fL=some ⟨.type "function",none,.func (Rj "__init__" "LoadError.__init__" st md c),#[]⟩) (e6:codeIn K (.ref c) "LoadError.__init__"=true) (e7:keepIn K (.ref fL)=true)
  (e8:∀(kV doc pm:Value)(an:Option Addr)(cdv ct:Value)(us:List Value),us.length=2->bindArgs (PySem.W.fnOf "__init__" "LoadError.__init__" (jK st) (cX st) (ak st) .none kV doc pm an cdv ct) ⟨us,[]⟩=pure ((["self","text"]:List Str).zip us)):CM K mg L fL (Rj "__init__" "LoadError.__init__" st md c) st :=
 ⟨mg_of X G e1,e2,e3,e4,sS e5 e6 e7,(sS e5 e6 e7).binds e8⟩
theorem XT.mk'{K:Frag}{mg:Str->Option Value}{h:Heap}(X:K.In h)(G:h.Ns mainGlobals mg){c:Str}{C fI:Addr}{fd:FuncData}{ps ns:List Str}(e1:nsIn K mainGlobals c=some (some (.ref C)))(e2:jL K c C=true)(e3:Ja K C fI=true)(b:nN K fd ps [])(e4:keepIn K (.ref C)=true)(e5:(ns.all λf=>findIn K (.ref C) f == some none)=true):XT K mg c C fI fd ps ns :=
 ⟨mg_of X G e1,e2,LC e3,b,e4,λf hf=>beq_iff_eq.mp (List.all_eq_true.mp e5 f hf)⟩
theorem XH.mk'{K:Frag}{mg:Str->Option Value}{h:Heap}(X:K.In h)(G:h.Ns mainGlobals mg){c:Str}{C:Addr}(e1:nsIn K mainGlobals c=some (some (.ref C)))(e2:((clsIn K C).any λcd=>cd.name == c)=true) (e3:typeIn K (.ref C)=some (.type "type")) (e4:mroIn K C (.type "BaseException")=some true):XH K mg c C :=
 ⟨mg_of X G e1,e1,(let ⟨cd,h1,h2⟩:=any_some e2;⟨cd,h1,beq_iff_eq.mp h2⟩),e3,e4⟩
theorem Fx{K:Frag}:∀vs H Q E,M0 K vs H Q E->vs.length=2:=λ_ _ _ _ ⟨_,_,_,_,_,_,e,_⟩=>by rw[e];rfl
theorem Fy{K:Frag}{ns:List Str}:∀vs H Q E,LJ K ns vs H Q E->vs.length=ns.length+1:=λ_ _ _ _ ⟨_,_,_,_,_,_,e,_,_,_,l,_⟩=>by rw[e,List.length_cons,l]
end
theorem zT:∀{ns:List Int}{us:List Value},ns.length=us.length->(∀(j:Nat) v,us[j]?=some v->∃t,v=.int (ns.getD j 0) t)->bO (ns.map V.int) us
 |[],[],_,_=>.nil
 | n::ns,u::us,hl,h=>by obtain⟨t,e⟩:=h 0 u rfl;exact .cons ⟨t,e⟩ (zT (by simpa using hl) λj v hv=>h (j+1) v (by simpa using hv))
 |[],_::_,hl,_=>by simp at hl
 |_::_,[],hl,_=>by simp at hl
noncomputable def G5(lo:Int)(n:Nat):List Int:=(List.range n).map λ(i:Nat)=>lo+(i:Int)
theorem Fz(lo:Int)(n:Nat):rW lo n=(G5 lo n).map D.int:=by unfold rW G5;rw[List.map_map];rfl
section
variable{X:Cx}{a b:Expr}{p p0 pos pos0:Pos}{t u:W L}
theorem FC{gV:List (Addr×Obj)}{s:Shared}{σ:St}{H Pr:Hp}{Z:Ev}{so:L->Ev->Prop}{lo hi:Int}{t1 t2 t3:Tok}{tk:Nat}(hc:X.calm=true)(I:PJ X gV σ H s)(E:aB X.K Pr H σ Z)(h1:pB lo)(h2:pB hi)
  (q:∀a,so (.own a (rW lo (hi-lo).toNat)) Z) :
  wpAny (model X.prog X.w) X.A (call (.type "list") [.ref s.heap.objs.size]) (λu s1=>∃ v H1 r Z',PJ X gV σ H1 s1/\b8 v u/\aB X.K Pr H1 (some v::σ) (r::Z')/\so r Z') X.xe {s with heap:=s.heap.push {cls:=.type "range",data:=.fields #[.int lo t1,.int hi t2,.int 1 t3] },toks:=tk}:=by
 have hsz:Builtin.Range.rangeSize lo hi 1=(((hi-lo).toNat:Nat):Int):=by rw[rangeSize_one];split<;>omega
 have hn:(hi-lo).toNat<=2^24:=by unfold pB at h1 h2;omega
 refine call_list_range (I.ok.hd hc) (IsRange.new s.heap lo hi 1 t1 t2 t3) (A3 h1 h2 x_ x_) hsz hn λh' tk' acc c hk hS hacc=>?_;have sz:s.heap.objs.size<=(s.heap.push {cls:=.type "range",data:=.fields #[.int lo t1,.int hi t2,.int 1 t3] }).objs.size:=by show _<=(s.heap.objs.push _).size;rw[Array.size_push];exact Nat.le_succ _
 have hv:bO ((G5 lo (hi-lo).toNat).map V.int) acc.toList:=by
  refine zT (by simp[G5,hacc.1]) λj v hv=>?_;obtain⟨t,rfl⟩:=hacc.2 j v (by simpa using hv);have hj:j<(hi-lo).toNat:=by have:=(Array.getElem?_eq_some_iff.mp (show acc[j]?=some _ by simpa using hv)).1;rw[hacc.1]at this;exact this
  refine⟨t,?_⟩;rw[UE];simp[G5,hj]
 have hL:((G5 lo (hi-lo).toNat).map V.int).length<=sizeLine:=by rw[sizeLine_eq];simp[G5];omega
 have I2:=I.laid (t':=tk') (o:=.lst ((G5 lo (hi-lo).toNat).map V.int)) (λb o e=>hk b o (Uy _ e)) sz ⟨hL,acc.toList,c,hv,by simpa using hS⟩;exact⟨.ref _,_,_,Z,I2,rfl,E.cons_own (I.hok.fresh sz) (by rw[Fz];exact m5 _),q _⟩
def CQ(t:W L):W L:=λZ so=>t Z λr Z1=>mW r λj=>pB j/\∀a,so (.own a (rW 0 j.toNat)) Z1
theorem xW (hgl:Gl X "list") (hml:X.mg "list"=none) (hg:Gl X "range") (hm:X.mg "range"=none) (hc:X.calm=true) (ha:PL X a t) (hs:starEach [a] X.env=[(false,eval a X.env)]:=by rfl)
  (hs0:starEach [.Call (.Name "range" p) [a] [] pos] X.env=[(false,eval (.Call (.Name "range" p) [a] [] pos) X.env)]:=by rfl):PL X (.Call (.Name "list" p0) [.Call (.Name "range" p) [a] [] pos] [] pos0) (CQ t):=by
 intro gV s σ H Pr Z so I E h;refine wpAny_Call_Name_kw (jn I hgl hml (show bootBuiltins "list"=some (.type "list") by decide +kernel) (PyProof.Rows.callWith_type1 ?_ (by rw[hs0]; rfl) rfl));rw[hs0];show wpAny _ _ (spliced ((false,eval (.Call (.Name "range" p) [a] [] pos) X.env)::[])) _ _ s;refine Calls.spliced_cons (Call_ (jn I hg hm boot_range (PyProof.Rows.callWith_type1 (PP (cW ha.pe ly hs pos gV s σ H (λvs H1=>∃Z1,∃j:Int,vs=[V.int j]/\pB j/\aB X.K Pr H1 σ Z1/\∀a,so (.own a (rW 0 j.toNat)) Z1) I ⟨Pr,Z,_,E,h,λv H' r Z' E' p=>?_⟩) λus s1 ⟨vs,H1,I1,r1,q1⟩=>?_) hs rfl)))
 . obtain⟨j,rfl,hj,p⟩:=dC p;obtain⟨_,e1,p1⟩:=E'.head_d;cases e1;cases p1;exact⟨Z',j,rfl,hj,E'.tail,p⟩
 . obtain⟨Z1,j,e,hj,E1,q⟩:=q1;subst e;obtain⟨u,rfl,ru⟩:=r1.one;obtain⟨t',rfl⟩:=ru;refine call_range_1 (Calls.spliced_nil (FC hc I1 E1 ⟨x_,x_⟩ hj (by simpa using q)))
end
end L2
namespace L2
open PySem PySem.Spec PyProof.Rows
section
variable{κ:Type}[DecidableEq κ]
theorem KV.any{kvs:List (κ×V)}{vs:List (κ×Value)}(r:KV kvs vs)(k:κ):(kvs.any λkv=>decide (kv.1=k))=vs.any λkv=>decide (kv.1=k):=by
 unfold KV at r
 induction r with
 |nil=>rfl
 |cons h t ih=>rw[List.any_cons,List.any_cons,ih,h.1]
theorem KV.length{kvs:List (κ×V)}{vs:List (κ×Value)}(r:KV kvs vs):kvs.length=vs.length:=Paired.length r
end
theorem LS{P:Program}{w:World}{k:Pu}{u:Value}(r:b8 (kV k) u):(nL P w).is k u=true:=by
 cases k with
 |inl i=>obtain⟨t,e⟩:=(show ∃t,u=Value.int i t from r);subst e;exact xx P w i t
 |inr x=>obtain⟨t,e⟩:=(show ∃t,u=Value.str x t from r);subst e;exact xy P w x t
abbrev DR(K:PySem.W.Frag)(H:Hp):List (Pu×V)->List (Pu×D)->Prop:=Paired λ(p:Pu×V) (q:Pu×D)=>p.1=q.1/\Qs K H p.2 q.2
theorem DR.any{K:PySem.W.Frag}{H:Hp}{k:Pu}:∀{vs:List (Pu×V)}{kvs:List (Pu×D)},DR K H vs kvs->(vs.any λp=>decide (p.1=k))=kvs.any λp=>decide (p.1=k)
 |_,_,.nil=>rfl
 |p::vs,q::kvs,.cons h t=>by rw[List.any_cons,List.any_cons,DR.any t,h.1]
section
variable{X:Cx}{pos:Pos}
noncomputable def flatC:D->Bool
 |.int _=>true
 |.str _=>true
 |.bl _=>true
 |.non=>true
 |_=>false
theorem Qs.flatC{K:PySem.W.Frag}{H H':Hp}{v:V}{d:D}(h:L2.flatC d=true)(r:Qs K H v d):Qs K H' v d:=by
 cases r with
 |int i=>exact .int i
 |str i=>exact .str i
 |bl i=>exact .bl i
 |non=>exact .non
 |_=>cases h
inductive Rk (X:Cx):List (Option Expr)->List Expr->List (Pu×D)->Prop where
 |nil:Rk X [] [] []
 |int {k v:Expr} {ks:List (Option Expr)} {vs:List Expr} {i:Int} {d:D} {kvs:List (Pu×D)} (hk:PL X k (wC (.int i))) (hv:PL X v (wC d)) (hf:flatC d=true) (t:Rk X ks vs kvs):Rk X (some k::ks) (v::vs) ((.inl i,d)::kvs)
 |str {k v:Expr} {ks:List (Option Expr)} {vs:List Expr} {y:Str} {d:D} {kvs:List (Pu×D)} (hk:PL X k (wC (.str y))) (hv:PL X v (wC d)) (hf:flatC d=true) (t:Rk X ks vs kvs):Rk X (some k::ks) (v::vs) ((.inr y,d)::kvs)
theorem Rk.run{pos:Pos}{gV:List (Addr×Obj)}{σ:St}{Pr:Hp}{Z:Ev}:∀{ks:List (Option Expr)}{vs:List Expr}{kvs:List (Pu×D)},Rk X ks vs kvs->∀{H:Hp}{s:Shared}{Q:List (Value×Value)->Shared->Prop},PJ X gV σ H s->aB X.K Pr H σ Z ->
  (∀(H':Hp)(s':Shared)(us:List (Value×Value))(ps:List (Pu×V))(qs:List (Pu×Value)),PJ X gV σ H' s'->aB X.K Pr H' σ Z->Carries (nL X.prog X.w) us qs->KV ps qs->DR X.K H' ps kvs->Q us s') ->
  wpAny (model X.prog X.w) X.A (evalPairs (pairTrees ks vs X.env pos)) Q X.xe s
 |_,_,_,.nil,H,s,Q,I,E,h=>pairTrees_nil_walk (h H s [] [] [] I E True.intro .nil .nil)
 | _,_,_,.int (d:=d) hk hv hf t,H,s,Q,I,E,h=>by refine pairTrees_cons_walk (PP (hk gV s σ H Pr Z (λr Z'=>r=.d _/\Z'=Z) I E ⟨rfl,rfl⟩) λu s1 ⟨v,H1,r,Z',I1,rv,E1,e1,e2⟩=>?_);subst e1 e2;refine PP (hv gV s1 σ H1 Pr _ (λr Z'=>r=.d d/\Z'=_) I1 E1.tail ⟨rfl,rfl⟩) λu2 s2 ⟨v2,H2,r2,Z2,I2,rv2,E2,e1,e2⟩=>?_;subst e1 e2;obtain⟨_,z1,p1⟩:=E1.head_d;cases z1;cases p1;obtain⟨_,z2,p2⟩:=E2.head_d;cases z2;exact Rk.run t I2 E2.tail λH' s' us ps qs I3 E3 hc hk3 hd=>h H' s' ((u,u2)::us) ((.inl _,v2)::ps) ((.inl _,u2)::qs) I3 E3 ⟨LS rv,rfl,hc⟩ (.cons ⟨rfl,rv2⟩ hk3) (.cons ⟨rfl,p2.flatC hf⟩ hd)
 | _,_,_,.str (d:=d) hk hv hf t,H,s,Q,I,E,h=>by refine pairTrees_cons_walk (PP (hk gV s σ H Pr Z (λr Z'=>r=.d _/\Z'=Z) I E ⟨rfl,rfl⟩) λu s1 ⟨v,H1,r,Z',I1,rv,E1,e1,e2⟩=>?_);subst e1 e2;refine PP (hv gV s1 σ H1 Pr _ (λr Z'=>r=.d d/\Z'=_) I1 E1.tail ⟨rfl,rfl⟩) λu2 s2 ⟨v2,H2,r2,Z2,I2,rv2,E2,e1,e2⟩=>?_;subst e1 e2;obtain⟨_,z1,p1⟩:=E1.head_d;cases z1;cases p1;obtain⟨_,z2,p2⟩:=E2.head_d;cases z2;exact Rk.run t I2 E2.tail λH' s' us ps qs I3 E3 hc hk3 hd=>h H' s' ((u,u2)::us) ((.inr _,v2)::ps) ((.inr _,u2)::qs) I3 E3 ⟨LS rv,rfl,hc⟩ (.cons ⟨rfl,rv2⟩ hk3) (.cons ⟨rfl,p2.flatC hf⟩ hd)
theorem Rk.len:∀{ks:List (Option Expr)}{vs:List Expr}{kvs:List (Pu×D)},Rk X ks vs kvs->ks.all (·.isSome)=true/\ks.length=vs.length/\ks.length=kvs.length
 |_,_,_,.nil=>⟨rfl,rfl,rfl⟩
 | _,_,_,.int _ _ _ t=>by obtain⟨h1,h2,h3⟩:=t.len;simp[h1,h2,<- h3]
 | _,_,_,.str _ _ _ t=>by obtain⟨h1,h2,h3⟩:=t.len;simp[h1,h2,<- h3]
end
end L2
namespace L2
open PySem PySem.Spec PyProof.Rows PySem.SeqAt
mutual
noncomputable def zU:Nat->D->Bool
 |_,.non=>true
 |_,.bl _=>true
 |_,.int _=>true
 |_,.str _=>true
 |n+1,.tup xs=>xX n xs
 |n+1,.lst xs=>xX n xs
 |n+1,.dct m=>m == 0
 |_,_=>false
noncomputable def xX:Nat->List D->Bool
 |_,[]=>true
 |n,x::xs=>zU n x && xX n xs
end
mutual
noncomputable def Ej:D->Nat
 |.int _=>602
 |.str x=>10*x.length+2
 |.tup xs=>A6 xs+3
 |.lst xs=>A6 xs+3
 |_=>6
noncomputable def A6:List D->Nat
 |[]=>0
 |x::xs=>Ej x+2+A6 xs
end
mutual
theorem CS:∀d:D,(QH d).leavesShort 601=true->(QH d).shown.length<=Ej d
 |.non,_=>by decide
 |.bl b,_=>by cases b<;>decide
 | .int i,h=>by
  have e:(PyData.shown (.int i)).length<=601:=by simpa only[QH,PyData.leavesShort,UG]using h
  exact Nat.le_succ_of_le e
 | .str x,h=>by
  have hx:∀c∈x.cps.toList,c<16^8:=by simpa only[QH,PyData.leavesShort,List.all_eq_true,UG]using h
  have e:=PySem.StrLaws.reprText_len x hx
  simp only[QH,PyData.shown,Ej]
  omega
 | .tup xs,h=>by
  have h1:=xY xs (by simpa only[QH,PyData.leavesShort]using h)
  have h2:=tupleText_len_le (PyData.shownAll (fQ xs))
  have h3:=PyData.shownAll_length (fQ xs)
  simp only[QH,PyData.shown,Ej]
  omega
 | .lst xs,h=>by
  have h1:=xY xs (by simpa only[QH,PyData.leavesShort]using h)
  have h2:=listText_len_le (PyData.shownAll (fQ xs))
  have h3:=PyData.shownAll_length (fQ xs)
  simp only[QH,PyData.shown,Ej]
  omega
 |.dct _,_=>by simp only[QH,Ej];decide
 |.exc _ _ _,_=>by simp only[QH,Ej];decide
 |.fn _ _,_=>by simp only[QH,Ej];decide
theorem xY:∀ds:List D,PyData.leavesShortAll 601 (fQ ds)=true->((PyData.shownAll (fQ ds)).map (·.length)).sum+2*(fQ ds).length<=A6 ds
 |[],_=>by simp only[fQ,PyData.shownAll,List.map_nil,List.sum_nil,List.length_nil,A6];omega
 | d::ds,h=>by
  have h':(QH d).leavesShort 601=true/\PyData.leavesShortAll 601 (fQ ds)=true:=by simpa only[fQ,PyData.leavesShortAll,Bool.and_eq_true]using h
  have h1:=CS d h'.1
  have h2:=xY ds h'.2
  simp only[fQ,PyData.shownAll,List.map_cons,List.sum_cons,List.length_cons,A6]
  omega
end
structure NG (d:D):Prop where
 ok:QT 40 d=true
 sh:jq d=true
 ln:(QH d).shown.length<=sizeLine
theorem zL.l{d:D}(h:zL d):NG d:=⟨h.ok,h.sh,h.len⟩
end L2
namespace L2
open PySem PySem.Spec PyProof.Rows
end L2
namespace L2
open PySem PySem.Spec PyProof.Rows PySem.W
end L2
namespace L2
open PySem PySem.Spec PyProof.Rows
section
variable{X:Cx}{e:Expr}{p apos cpos:Pos}{te:W L}{x:Str}
def CT(i:Nat)(te:W L):W L:=λZ so=>vM i Z λ_ _=>te Z λr Z1=>Qv r λy=>vM i Z1 λa xs=>∃(j:Nat)(z:D),y=.int (j:Int)/\xs.length<2^60/\xs[j]?=some z/\so (.d z) (Z1.set i (.own a (xs.eraseIdx j)))
theorem bA.eraseIdx{K:PySem.W.Frag}{H:Hp}:∀{vs:List V}{ds:List D}(j:Nat),bA K H vs ds->bA K H (vs.eraseIdx j) (ds.eraseIdx j)
 |_,_,_,.nil=>by simpa using bA.nil
 |_,_,0,.cons r t=>t
 |_,_,j+1,.cons r t=>.cons r (bA.eraseIdx j t)
theorem FD(i:Nat)(he:PL X e te)(hN:X.N[i]?=some x:=by rfl)(hv:PF X.env.scope x:=by first | exact Or.inl rfl | exact Or.inr (Or.inl rfl) | exact Or.inr (Or.inr rfl)) (hd:(x == ("__debug__" : Str))=false:=by decide)
  (hcd:(x == ("__classdict__" : Str))=false:=by decide) (hs1:starEach [e] X.env=[(false,eval e X.env)]:=by rfl) (hbase:attributeBase (.Name x p) "pop" X.env (eval (.Name x p) X.env)=eval (.Name x p) X.env:=by rfl)
  (hfew:((backTo cpos (starEach [e] X.env)).all (λx=>!x.1) && (backToKw cpos (keywordEach [] X.env)).all (λx=>x.1.isSome)
   && decide (([e]).length+([]:List Keyword).length+(if([]:List Keyword).isEmpty then 0 else 1)<30))=true:=by rfl)
  (hline:(apos.endLine == cpos.line)=true:=by rfl) (hplain:(backTo cpos (starEach ([]:List Expr) X.env)).any (·.1)=false:=by rfl) :
  PL X (.Call (.Attribute (.Name x p) "pop" apos) [e] [] cpos) (CT i te):=by
 refine PL.of (KS PySem.F.plainAttrs_list PySem.F.slot_list_pop PySem.F.type_list_pop Ez (gH hN hv hd hcd) (cW (aA he).pe ly hs1) (hbase:=hbase) (hfew:=hfew) (hline:=hline) (hs:=hs1) (hplain:=hplain)) λσ H Pr Z so E h=>?_;obtain⟨l,xs0,q0,h⟩:=g5 h;obtain⟨hσ,vs0,hl0,_⟩:=E.ownAt q0
 refine⟨.ref l,hσ,.inl ⟨rfl,vs0,PU.of hl0⟩,Pr,Z,λr Z1=>match r with
  |.d y=>vM i Z1 λa xs=>∃(j:Nat)(z:D),y=.int (j:Int)/\xs.length<2^60/\xs[j]?=some z/\so (.d z) (Z1.set i (.own a (xs.eraseIdx j)))
  |_=>False,E,h,λv H' r Z' E' pp=>?_⟩
 cases r with
 | d y =>
  obtain⟨l',xs,q,j,z,rfl,hsm,hz,pp⟩:=g5 pp;obtain⟨hσ',vs,hl,r⟩:=E'.tail.ownAt q;rw[hσ]at hσ';cases hσ';obtain⟨_,e1,p1⟩:=E'.head_d;cases e1;cases p1;obtain⟨v,hv',rv⟩:=r.get hz;have hj:j<vs.length:=(UA.mp hv').1;have p4:=r.length;have E2:=E'.tail.updOwn q (r.eraseIdx j);refine⟨l,vs,(j:Int),j,v,rfl,rfl,hl,xL,xL,?_,hv',_,_,E2.cons_d (rv.pres λb u hp e=>?_),pp⟩
  .
   unfold seqIndex?;rw[if_neg (show ¬(j:Int)<0 by omega)];have:(decide (0<=(j:Int)) && decide ((j:Int)<(vs.length:Int)))=true:=by simp;omega
   simp only[this,if_true,Int.toNat_natCast]
  .
   by_cases hb:b=l
   . subst hb;rw[hl]at e;cases e;exact hp.elim
   . rw[ay hb];exact e
 |_=>exact pp.elim
end
section
variable{X:Cx}{p apos cpos:Pos}{x:Str}
def Jk(i:Nat):W L:=λZ so=>vM i Z λa xs=>so (.d .non) (Z.set i (.own a xs.reverse))
theorem A7(i:Nat)(hN:X.N[i]?=some x:=by rfl)(hv:PF X.env.scope x:=by first | exact Or.inl rfl | exact Or.inr (Or.inl rfl) | exact Or.inr (Or.inr rfl)) (hd:(x == ("__debug__" : Str))=false:=by decide)
  (hcd:(x == ("__classdict__" : Str))=false:=by decide) (hbase:attributeBase (.Name x p) "reverse" X.env (eval (.Name x p) X.env)=eval (.Name x p) X.env:=by rfl) (hline:(apos.endLine == cpos.line)=true:=by rfl) :
  PL X (.Call (.Attribute (.Name x p) "reverse" apos) [] [] cpos) (Jk i):=by
 refine PL.of (KR PySem.F.plainAttrs_list PySem.F.slot_list_reverse PySem.F.type_list_reverse AG (gH hN hv hd hcd) (hbase:=hbase) (hline:=hline)) λσ H Pr Z so E h=>?_;obtain⟨l,xs0,q0,h⟩:=g5 h;obtain⟨hσ,vs0,hl0,r⟩:=E.ownAt q0;exact⟨.ref l,hσ,.inl ⟨rfl,vs0,PU.of hl0⟩,l,vs0,rfl,rfl,hl0,_,_,(E.updOwn q0 r.reverse).cons_d .non,h⟩
end
end L2
namespace L2
open PySem PySem.Spec PyProof.Rows PySem.SeqAt
mutual
noncomputable def Rl:D->Bool
 |.dct n=>n == 0
 |.exc _ _ _=>false
 |.fn _ _=>false
 |.tup xs=>LU xs
 |.lst xs=>LU xs
 |.str x=>PyData.strOk x
 |_=>true
noncomputable def LU:List D->Bool
 |[]=>true
 |x::xs=>Rl x && LU xs
end
mutual
theorem qk:∀d:D,Rl d=true->jq d=true->(QH d).leavesShort 601=true
 |.non,_,_=>rfl
 |.bl _,_,_=>rfl
 |.dct _,_,_=>rfl
 |.exc _ _ _,h,_=>by simp[Rl]at h
 |.fn _ _,h,_=>by simp[Rl]at h
 | .int i,_,h=>by
  have:=(pN (.int i) h).1
  simpa only[QH,PyData.leavesShort,PyData.intsShort]using this
 |.str x,h,hs=>PyData.leavesShort_of_canLay0 601 (.str x) (by simpa only[Rl,PyData.canLay0]using h) (pN (.str x) hs).1
 | .tup xs,h,hs=>by
  have:=nV xs (by simpa only[Rl]using h) (by simpa only[jq]using hs)
  simpa only[QH,PyData.leavesShort]using this
 | .lst xs,h,hs=>by
  have:=nV xs (by simpa only[Rl]using h) (by simpa only[jq]using hs)
  simpa only[QH,PyData.leavesShort]using this
theorem nV:∀ds:List D,LU ds=true->me ds=true->PyData.leavesShortAll 601 (fQ ds)=true
 |[],_,_=>rfl
 | d::ds,h,hs=>by
  simp only[LU,Bool.and_eq_true]at h
  simp only[me,Bool.and_eq_true]at hs
  simp only[fQ,PyData.leavesShortAll,qk d h.1 hs.1,nV ds h.2 hs.2,Bool.and_self]
end
structure Oz (d:D):Prop where
 ok:Rl d=true
 sh:jq d=true
 dp:(QH d).depth<=40
 sg:Ej d<=16777216
 ni:∀i,d≠.int i
theorem Oz.len{d:D}(h:Oz d):(QH d).shown.length<=sizeLine:=by
 have e:sizeLine=16777216:=by decide
 rw[e];exact Nat.le_trans (CS d (qk d h.ok h.sh)) h.sg
end L2
namespace L2
open PySem PySem.Spec PyProof.Rows
section
def LV(o:Option L)(i k:Nat)(Z:Ev)(so:L->Ev->Prop):Prop:=match o with
 |some (.bx none ls)=>∃l,ls[k]?=some l/\so l (Z.set i (.bx none (ls.set k .un)))
 |some (.d (.tup ds))=>∃d,ds[k]?=some d/\so (.d d) Z
 |_=>False
theorem FE(ls:List L)(i k:Nat)(Z:Ev)(so:L->Ev->Prop):LV (some (.bx none ls)) i k Z so=∃l,ls[k]?=some l/\so l (Z.set i (.bx none (ls.set k .un))):=(rfl)
theorem Jl(ds:List D)(i k:Nat)(Z:Ev)(so:L->Ev->Prop):LV (some (.d (.tup ds))) i k Z so=∃d,ds[k]?=some d/\so (.d d) Z:=(rfl)
end
section
def NH(r:L)(Z:Ev)(so:L->Ev->Prop):Prop:=match r with
 |.bx (some _) ls=>so (.bx none ls) Z
 |_=>False
theorem FF(a:Addr)(ls:List L)(Z:Ev)(so:L->Ev->Prop):NH (.bx (some a) ls) Z so=so (.bx none ls) Z:=(rfl)
end
end L2
namespace L2
open PySem PySem.Spec PyProof.Rows PySem.W
theorem uo{p:Pos}{a b:Int}{c cv:Value}(l:List Value)(h:TriplesOk l)(e:codeAmong p (l++[rawInt a,rawInt b,c])=some cv):codeAmong p l=some cv∨cv=c:=by
 fun_induction TriplesOk l with
 | case1 =>
  simp only[List.nil_append,codeAmong,rawInt]at e;split at e
  . cases e;exact .inr rfl
  . cases e
 | case2 a' t b' u x rest ih =>
  simp only[List.cons_append,codeAmong]at e ⊢;split at e
  . rename_i hc;rw[if_pos hc];exact .inl e
  . rename_i hc;rw[if_neg hc];exact ih h e
 |case3 l h1 h2=>exact h.elim
theorem wc{cells:List (Str×Addr)}:∀(names:List (Str×NameKind))(acc:List (Str×Addr)),(names.filter λp=>p.2 == .free)=[]->vP cells names acc=acc
 |[],_,_=>rfl
 | (n,k)::r,acc,h=>by
  rw[List.filter_cons]at h;unfold vP;by_cases hk:(k == NameKind.free)=true
  . rw[if_pos hk]at h;cases h
  . rw[if_neg hk]at h;rw[if_neg hk];exact wc r acc h
theorem zV{cells:List (Str×Addr)}{y:Str}{c:Addr}(hc:cells.lookup y=some c):∀(names:List (Str×NameKind))(acc:List (Str×Addr)),(names.filter λp=>p.2 == .free)=[(y,.free)]->vP cells names acc=(y,c)::acc
 |[],_,h=>by cases h
 | (n,k)::r,acc,h=>by
  rw[List.filter_cons]at h;unfold vP;by_cases hk:(k == NameKind.free)=true
  . rw[if_pos hk]at h;simp only[List.cons.injEq,Prod.mk.injEq]at h;obtain⟨⟨h1,h2⟩,h3⟩:=h;subst h1;rw[if_pos hk,hc];exact wc r _ h3
  . rw[if_neg hk]at h;rw[if_neg hk];exact zV hc r acc h
section
variable{X:Cx}{gV:List (Addr×Obj)}{σ:St}{H:Hp}{s:Shared}
theorem FG{x:Str}{c0 P c:Addr}{y:Str}{pr:Arguments}{bd:Expr}{sc:Scope}{pos:Pos}{Q:Value->Shared->Prop}{E:Value->Shared->Prop}{A:Around}
  (I:PJ X gV σ H s) (hx:x∈lamNames) (ht:tabIn X.K x=some (c0,P)) (hcode:X.env.code=.ref c0) (hq:X.env.qual++"<lambda>"=sP x) (hcl:closureFor sc X.env=pure [(y,c)]) (hdef:defaultsOf pr X.env=([],[]))
  (h:∀(f c':Addr)(oq:Obj)(H':Hp)(s':Shared)(ctv pm:Value),PJ X gV σ H' s'->(∀ b o,H b=some o->H' b=some o)->s'.heap.get? f=some (kla_obj "<lambda>" (sP x) pr bd sc [(y,c)] pm c' ctv)->H' f=none->s.heap.objs.size<=f ->
   H' c'=some (.frz oq (.own c'))->oP oq (sP x)->Q (.ref f) s'):wpAny (model X.prog X.w) A (eval (.Lambda pr bd sc pos) X.env) Q E s:=by
 have hP:=I.tbs x hx c0 P ht;obtain⟨ps,eP,tr,among⟩:=id (I.hok P _ hP);have C:CodeHd s.heap c0 P:=(I.ok.mod.cds x hx c0 P ht).keeps I.bk;have hg:s.heap.Ns mainGlobals X.mg:=I.ok.mod.glob.keeps I.bk;obtain⟨bm,ob,b1,b2,b3,b4,b5,b6⟩:=I.ok.mod.bmn;have hbk:=I.bk bm ob b3;have hgP:mainGlobals≠P:=λz=>by obtain⟨o,es,ep,e,hd,_⟩:=hg;rw[z,eP]at e;cases e;cases hd
 have hbP:bm≠P:=λz=>by rw[z,eP]at hbk;cases hbk;cases b4
 have hbG:bm≠mainGlobals:=λz=>by obtain⟨o,es,ep,e,hd,_⟩:=hg;rw[z,e]at hbk;cases hbk;rw[hd]at b6;cases b6
 refine kla_eval hdef ?_;rw[hq]
 cases q:codeAmong pos ps.toList with
 | none =>
  refine kla_makeFunction (mg:=X.mg) hcl I.ok.glob hg hcode C eP tr q hgP ⟨bm,ob,b1,b2,hbG,hbP,hbk,b4,b5,b6⟩ λc' ctv h' tk hx' hge hlt hrec htb=>?_;obtain⟨c2,oq,vs,t,e2,hoc,hd,hv⟩:=hrec;cases e2;have hn:H c'=none:=I.hok.fresh hge;have nP:∀b,H b=none->b≠P:=λb n z=>by rw[z,hP]at n;cases n
  have old:∀ b o,b≠P->s.heap.get? b=some o->(h'.push (kla_obj "<lambda>" (sP x) pr bd sc [(y,c)] ((X.mg "__name__").getD .none) c' ctv)).get? b=some o:=λb o nb e=>Uy _ (hx' b o nb e);have up:∀b u,H b=some u->Pv H c' (.frz oq (.own c')) b=some u:=λb u e=>by rw[ay (bb e hn)];exact e
  have co:oP oq (sP x):=⟨vs,t,hd,hv⟩
  have J:PJ X gV σ (Pv H c' (.frz oq (.own c'))) {s with heap:=h'.push (kla_obj "<lambda>" (sP x) pr bd sc [(y,c)] ((X.mg "__name__").getD .none) c' ctv),toks:=tk}:=by
   refine I.un ⟨λb o e n _ _=>old b o (nP b n) e,λb o e n _ _=>⟨o.slots,old b o (nP b n) e⟩,λb o e n _=>?_,λb o e _=>?_,λb xs e=>up b _ e,λb o u e=>up b _ e,λb t e=>up b _ e⟩ λb u e=>?_
   . rw[ay (Nat.ne_of_lt (UB (UF e) hge))];exact n
   .
    by_cases z:b=P
    . subst z;exact⟨_,Uy _ htb⟩
    . exact⟨o,old b o z e⟩
   .
    by_cases z:b=c'
    . subst z;rw[aX]at e;cases e;exact⟨Uy _ hoc,⟨_,Uy _ hoc⟩⟩
    .
     rw[ay z]at e;by_cases zP:b=P
     .
      subst zP;rw[hP]at e;cases e;refine⟨_,Uy _ htb,?_,λpos' cv hc'=>?_⟩
      . rw[Array.toList_append];exact TriplesOk_snoc _ _ _ _ tr
      .
       rw[Array.toList_append]at hc';rcases uo _ tr hc' with z1|z1
       . obtain⟨c3,o3,a1,a2,a3⟩:=among pos' cv z1;exact⟨c3,o3,a1,up _ _ a2,a3⟩
       . exact⟨c',oq,z1,aX,co⟩
     .
      refine(I.hok b u e).stay (λd v hd z2=>old d v ?_ z2) (λd z2=>up d _ z2) (λd xs z2=>up d _ z2) λd od _ _ z2=>up d _ z2;rcases hd with rfl|hd
      . exact zP
      . intro z3;rw[z3,hP]at hd;cases hd
  exact h _ c' oq _ _ ctv _ J up (Heap.get?_push_size _ rfl) (by rw[ay (Nat.ne_of_gt hlt)];exact I.hok.fresh (Nat.le_trans hge (Nat.le_of_lt hlt))) (Nat.le_trans hge (Nat.le_of_lt hlt)) aX co
 | some cv =>
  obtain⟨c',oq,rfl,hz,co⟩:=among pos cv q;refine kla_makeFunctionHit (mg:=X.mg) hcl I.ok.glob hg hcode C eP tr q ⟨bm,ob,b1,b2,hbG,hbP,hbk,b4,b5,b6⟩ λctv h' tk hk hsz=>?_;exact h _ c' oq H _ ctv _ (I.kept λb o e=>Uy _ (hk b o e)) (λ_ _ e=>e) (Heap.get?_push_size _ rfl) (I.hok.fresh hsz) hsz hz co
end
def LW(K:Frag)(H:Hp)(h:Heap)(f:Addr)(x:Str)(d:D):Prop:=∃(c c':Addr)(oc oq:Obj)(y:Str)(pr:Arguments)(bd:Expr)(sc:Scope)(pos:Pos)(pm ctv u:Value)(v:V),
 AJ K x=some (pr,bd,sc,pos)/\h.get? f=some (kla_obj "<lambda>" (sP x) pr bd sc [(y,c)] pm c' ctv)/\h.get? c'=some oq/\oP oq (sP x)/\h.get? c=some oc/\(H c=none∨∃ o,H c=some (.frz o (.own c)))/\oc.data=.cell (some u)/\b8 v u/\(y,NameKind.free)∈sc.names/\Qs K H v d
noncomputable def Jm(P:Program)(w:World)(K:Frag)(mg:Str->Option Value)(base:Heap)(p y:Str)(qual:Str)(sc:Scope)(f c':Addr)(cl:List (Str×Addr))(A:Around)(outer:List Env)(s:Shared)(H:Hp):Cx where
 prog:=P
 w:=w
 K:=K
 mg:=mg
 base:=base
 A:=A.deeper (envX qual sc s.heap.objs.size f (.ref c') cl)
 N:=[p,y]
 s₀:=s
 H₀:=H
 env:=envX qual sc s.heap.objs.size f (.ref c') cl
 outer:=outer
 stack:=envX qual sc s.heap.objs.size f (.ref c') cl::outer
 ex:=[]
 calm:=true
 fn:=λ_=>false
 pn:=[]
 xe:=λ_ _=>False
structure Jn (p y:Str) (pr:Arguments) (bd:Expr) (sc:Scope):Prop where
 par:sc.names.lookup p=some .local
 fre:sc.names.lookup y=some .free
 nc:∀z∈sc.names,z.2≠.cell
 one:∀z,(z,NameKind.free)∈sc.names->z=y
 co:sc.isCoroutine=false
 gen:sc.isGenerator=false
 kind:sc.kind=.function
 bind:∀(q:Str)(cl:List (Str×Addr))(pm cdv ct u:Value),bindArgs (kla_fn "<lambda>" q pr bd sc cl pm cdv ct) ⟨[u],[]⟩=pure [(p,u)]
def LX(r:L)(k:D->Prop):Prop:=match r with
 |.d z=>k z
 |_=>False
theorem Jo{r:L}{k:D->Prop}(h:LX r k):∃z,r=.d z/\k z:=by
 cases r with
 |d z=>exact⟨z,rfl,h⟩
 |_=>exact h.elim
structure Jp (P:Program) (w:World) (K:Frag) (mg:Str->Option Value) (base:Heap) (k:Nat) (x:Str) (fs:FS):Prop where
 run:∀(A:Around)(outer:List Env)(s:Shared)(H:Hp)(f:Addr)(u:Value)(v:V)(a d:D)(so:D->Prop),gI k A->AC P w K mg base A outer s H->b8 v u->Qs K H v a->LW K H s.heap f x d->fs [.d a,.d d] (λr _=>LX r so) ->
  codeAny (model P w) A (.call (.ref f) ⟨[u],[]⟩) (CR CX0 outer P w H s (λv H'=>(∀b o,H b=some o->H' b=some o)/\∃z,Qs K H' v z/\so z) E0) s
theorem Jq{P:Program}{w:World}{K:Frag}{mg:Str->Option Value}{base:Heap}{p y:Str}{qual:Str}{pr:Arguments}{bd:Expr}{sc:Scope}{f c c':Addr}{A:Around}{outer:List Env}{s:Shared}{H:Hp}{h1:Heap}{tk:Nat}{u u':Value}{v v':V}{oc:Obj}
  (S:Jn p y pr bd sc) (hd:A.handled=none) (e0:AC P w K mg base A outer s H) (r:b8 v u) (r':b8 v' u') (gc:s.heap.get? c=some oc) (dc:oc.data=.cell (some u')) (hc:H c=none∨∃o,H c=some (.frz o (.own c)))
  (hns:h1.Ns s.heap.objs.size λz=>[(p,u)].reverse.lookup z) (k:∀b o,s.heap.get? b=some o->h1.get? b=some o) :
  PJ (Jm P w K mg base p y qual sc f c' [(y,c)] A outer s H) [] [some v,some v'] H {s with heap:=h1,toks:=tk}:=by
 have hpy:p≠y:=λz=>by have:=S.par;rw[z,S.fre]at this;cases this
 have one:∀z d,([(y,c)]:List (Str×Addr)).lookup z=some d->z=y/\d=c:=λz d e=>by
  rw[List.lookup_cons]at e
  cases q:z == y with
  |true=>rw[q]at e;cases e;exact⟨eq_of_beq q,rfl⟩
  |false=>rw[q]at e;cases e
 have at_y:([(y,c)]:List (Str×Addr)).lookup y=some c:=by rw[List.lookup_cons,beq_self_eq_true]
 have noA:∀b:Addr,b∉(Jm P w K mg base p y qual sc f c' [(y,c)] A outer s H).ex:=λb z=>absurd (show b∈([]:List Addr)from z) v6
 refine⟨⟨e0.mod,S.kind,rfl,rfl,UJ _,λa b d h1 h2=>?_,λz hz=>?_,λz d hf _=>absurd (show false=true from hf) x_,λ_=>hd,Around.frames_deeper e0.frames,.inr ⟨rfl,rfl⟩,λb z=>absurd z (noA b),e0.bs,e0.bsz,λb _ _=>noA b,λb z=>absurd z (noA b),e0.funs,e0.frf,e0.tbs⟩,
  rfl,e0.bare,Un.kept k,⟨_,hns,λi z v2 h1 h2 h3=>?_⟩,λz d h=>?_,e0.hok.fresh (UJ _),λz d h=>?_,λq hq=>absurd (show q∈([]:List (Addr×Obj))from hq) v6,e0.hok.kept k,rfl⟩
 . exact(one a d h1).1.trans (one b d h2).1.symm
 .
  have hz:sc.names.lookup z=some .cell∨sc.names.lookup z=some .free:=hz;rcases hz with hz|hz
  . exact absurd rfl (S.nc _ (PySem.mem_of_lookup hz))
  . rw[S.one z (PySem.mem_of_lookup hz)];exact⟨c,at_y⟩
 .
  match i,h1,h2 with
  | 0,h1,h2 =>
   have e1:p=z:=Option.some.inj h1;have e2:v=v2:=by simpa using h2
   subst e1 e2;exact⟨u,r,.inl ⟨S.par,v6⟩⟩
  | 1,h1,h2 =>
   have e1:y=z:=Option.some.inj h1;have e2:v'=v2:=by simpa using h2
   subst e1 e2;exact⟨u',r',.inr ⟨.inr S.fre,c,at_y,oc,k c oc gc,dc⟩⟩
  |n+2,h1,h2=>simp at h2
 . obtain⟨_,rfl⟩:=one z d h;exact⟨_,oc,k d oc gc,dc⟩
 . obtain⟨_,rfl⟩:=one z d h;exact hc.imp id λz=>⟨rfl,z⟩
theorem LY{P:Program}{w:World}{K:Frag}{mg:Str->Option Value}{base:Heap}{k:Nat}{x p y:Str}{pr:Arguments}{bd:Expr}{sc:Scope}{pos:Pos}{fs:FS}(hl:AJ K x=some (pr,bd,sc,pos))(S:Jn p y pr bd sc)(t:W L)
  (hbody:∀(A:Around)(outer:List Env)(s:Shared)(H:Hp)(f c c':Addr),gI k (A.deeper (envX (sP x) sc s.heap.objs.size f (.ref c') [(y,c)]))->PL (Jm P w K mg base p y (sP x) sc f c' [(y,c)] A outer s H) bd t)
  (h:∀a d so,fs [.d a,.d d] so->t [.d a,.d d] λr _=>so r []):Jp P w K mg base (k+1) x fs:=by
 refine⟨λA outer s H f u v a d so hr e0 rv ra la hf=>?_⟩;obtain⟨c,c',oc,oq,y',pr',bd',sc',pos',pm,ctv,u',v',hl',gf,gq,hq,gc,hc,dc,rv',hm,rd⟩:=la;rw[hl]at hl';cases hl';obtain rfl:=S.one y' hm;obtain⟨vs,tq,hd1,hd2⟩:=hq;have lim:s.heap.NoLimit:=e0.mod.nolimit.keeps λb o e=>(e0.bs b o e).1;refine kla_callFunE hr.depth gf rfl S.co S.gen rfl ⟨c',oq,vs,tq,rfl,gq,hd1,hd2⟩ ?_;rw[S.bind]
 refine UH (wpAny_newFunctionEnv S.nc (λz hz=>by
  have:z=(p,u):=by simpa using hz
  subst this;exact S.par) (λh₁ hns hsb=>⟨lim.fresh _ hsb,?_⟩) S.kind)
 have hk₁:∀b o,s.heap.get? b=some o->h₁.get? b=some o:=λb o e=>hsb.extBut b o (Nat.ne_of_lt (UF e)) (Uy _ e);show codeAny _ _ (.expr bd (envX (sP x) sc s.heap.objs.size f (.ref c') [(y',c)])) _ _;have I:=Jq (P:=P) (w:=w) (K:=K) (mg:=mg) (base:=base) (qual:=sP x) (f:=f) (c':=c') (tk:=s.toks+[(p,u)].length) S hr.hd e0 rv rv' gc dc hc hns hk₁;have E:aB K H H [some v,some v'] [.d a,.d d]:=⟨λ_ _ e=>e,List.nodup_nil,λa ha=>absurd (show a∈([]:List Addr)from ha) v6,.cons ⟨v,rfl,ra⟩ (.cons ⟨v',rfl,rd⟩ .nil)⟩;refine kla_codeExpr (wpAny_mono (hbody A outer s H f c c' (hr.deeper _) [] _ _ H H _ (λr _=>LX r so) I E (h a d _ hf)) (λv2 s' hs=>?_) λe s' hs=>(show False from hs).elim);obtain⟨v3,H',r,Z',J,rv3,E',q⟩:=hs;obtain⟨z,rfl,hp⟩:=Jo q;obtain⟨w3,e3,rz⟩:=E'.head_d;cases e3;exact⟨v3,H',J.os,J.bare,J.base,J.hok,rv3,E'.sub,z,rz,hp⟩
def M3(i:Nat)(Z:Ev)(k:D->Prop):Prop:=match Z[i]? with
 |some (.d x)=>k x
 |_=>False
theorem Jr{i:Nat}{Z:Ev}{k:D->Prop}(h:M3 i Z k):∃x,Z[i]?=some (.d x)/\k x:=by
 unfold M3 at h;split at h
 . rename_i x q;exact⟨x,q,h⟩
 . exact h.elim
theorem Un.one{P:Program}{w:World}{fs:List Addr}{H H':Hp}{h h':Heap}{c:Addr}{oc:Obj}(hc:H c=none)(gc:h.get? c=some oc)(cc:∀q,¬oP oc q)(u:Un fs [] (Pv H c (.frz oc (.own c))) H' h h')(ok:Pw P w H' h') :
  Un fs [] H (Q2 H' c) h h'/\Pw P w (Q2 H' c) h':=by
 have zc:H' c=some (.frz oc (.own c)):=u.frzs c oc _ aX;have gc':h'.get? c=some oc:=(ok c _ zc).1;have nz:∀b o,H' b=some o->o≠.frz oc (.own c)->b≠c:=λb o e n z=>by subst z;rw[zc]at e;cases e;exact n rfl
 refine⟨⟨λb o e n hb hx=>?_,λb o e n hb hx=>?_,λb o e n hx=>?_,λb o e hx=>u.there b o e hx,λb xs e=>?_,λb o v e=>?_,λb t e=>?_⟩,λb o e=>?_⟩
 .
  by_cases z:b=c
  . subst z;rw[gc]at e;cases e;exact gc'
  . exact u.keep b o e (by rw[ay z];exact n) hb hx
 .
  by_cases z:b=c
  . subst z;rw[gc]at e;cases e;exact⟨oc.slots,gc'⟩
  . exact u.slot b o e (by rw[ay z];exact n) hb hx
 .
  by_cases z:b=c
  . subst z;exact m8
  . rw[dY z];exact u.free b o e (by rw[ay z];exact n) hx
 . have z:=bb e hc;rw[dY z];exact u.tups b xs (by rw[ay z];exact e)
 . have z:=bb e hc;rw[dY z];exact u.frzs b o v (by rw[ay z];exact e)
 . have z:=bb e hc;rw[dY z];exact u.tbls b t (by rw[ay z];exact e)
 .
  have hb:b≠c:=λz=>by subst z;rw[m8]at e;cases e
  rw[dY hb]at e;refine(ok b o e).stay (λ_ _ _ z=>z) (λd z=>?_) (λd xs z=>?_) λd od q co z=>?_
  . rw[dY (nz d _ z λy=>nomatch y)];exact z
  . rw[dY (nz d _ z λy=>nomatch y)];exact z
  . rw[dY (nz d _ z λy=>by cases y;exact cc q co)];exact z
structure LZ (X:Cx) (x y:Str) (i:Nat) (pr:Arguments) (bd:Expr) (sc:Scope) (pos:Pos):Prop where
 mem:x∈lamNames
 tab:∃c0 P,tabIn X.K x=some (c0,P)/\X.env.code=.ref c0
 lam:AJ X.K x=some (pr,bd,sc,pos)
 qual:X.env.qual++"<lambda>"=sP x
 deft:defaultsOf pr X.env=([],[])
 fre:(sc.names.filter λp=>p.2 == .free)=[(y,.free)]
 at_i:X.N[i]?=some y
 cel:X.env.scope.names.lookup y=some .cell
 fn:X.fn y=true
structure Ma (K:Frag) (x:Str) (fd:FuncData) (st:Stmt):Prop where
 tab:∃c0 P,tabIn K x=some (c0,P)/\fd.code=.ref c0
 lam:AJ K x=B5 (cX st)
theorem Ma.mk'{K:Frag}{x:Str}{fd:FuncData}{st:Stmt}{c0:Addr}(h1:(tabIn K x).map (·.1)=some c0)(h2:fd.code=.ref c0)(h3:AJ K x=B5 (cX st)):Ma K x fd st:=by
 refine⟨?_,h3⟩
 cases z:tabIn K x with
 |none=>rw[z]at h1;cases h1
 |some p=>rw[z]at h1;cases h1;exact⟨p.1,p.2,rfl,h2⟩
theorem Mb{X:Cx}{x y:Str}{i:Nat}{pr:Arguments}{bd:Expr}{sc:Scope}{pos:Pos}{fd:FuncData}{st:Stmt}(T:Ma X.K x fd st)(hc:fd.code=X.env.code)(h1:B5 (cX st)=some (pr,bd,sc,pos))(mem:x∈lamNames) (qual:X.env.qual++"<lambda>"=sP x) (deft:defaultsOf pr X.env=([],[]))
  (fre:(sc.names.filter λp=>p.2 == .free)=[(y,.free)]) (at_i:X.N[i]?=some y) (cel:X.env.scope.names.lookup y=some .cell) (fn:X.fn y=true):LZ X x y i pr bd sc pos :=
 ⟨mem,let ⟨c0,P,a,b⟩:=T.tab;⟨c0,P,a,by rw[<- hc];exact b⟩,T.lam.trans h1,qual,deft,fre,at_i,cel,fn⟩
theorem NI{p y:Str}{pr:Arguments}{bd:Expr}{sc:Scope}(par:sc.names.lookup p=some .local)(fre:(sc.names.filter λp=>p.2 == .free)=[(y,.free)])(fr1:sc.names.lookup y=some .free)(nc:(sc.names.all λz=>z.2 != .cell)=true)(co:sc.isCoroutine=false)(gk:(sc.isGenerator,sc.kind)=(false,.function))
  (bind:∀(q:Str)(cl:List (Str×Addr))(pm cdv ct u:Value),bindArgs (kla_fn "<lambda>" q pr bd sc cl pm cdv ct) ⟨[u],[]⟩=pure [(p,u)]):Jn p y pr bd sc where
 par:=par
 fre:=fr1
 nc:=λz hz q=>by have:=List.all_eq_true.mp nc z hz;rw[q]at this;exact absurd this x_
 one:=λz hz=>by have:(z,NameKind.free)∈sc.names.filter λp=>p.2 == .free:=List.mem_filter.mpr ⟨hz,rfl⟩;rw[fre]at this;simpa using this
 co:=co
 gen:=(Prod.mk.inj gk).1
 kind:=(Prod.mk.inj gk).2
 bind:=bind
section
variable{X:Cx}{gV:List (Addr×Obj)}{σ:St}{H:Hp}{s:Shared}
theorem Q9.nofs{b:Addr}(I:PJ X gV σ H s)(n:Q9 X gV b):b∉PD X.stack:=λhb=>by
 rcases UK.mp (I.stkSub b hb)with z|z
 . exact n.loc z
 . obtain⟨_,o,ho,_⟩:=I.ok.funs.mem z;exact absurd (UB (UF ho) n.s0) (Nat.lt_irrefl _)
theorem PJ.two{h':Heap}{t':Nat}{c d:Addr}(I:PJ X gV σ H s)(nc:Q9 X gV c)(nd:Q9 X gV d)(hc:H c=none)(hd:H d=none)(k:∀b o,b≠X.env.locals->b≠c->b≠d->s.heap.get? b=some o->h'.get? b=some o)
  (ns:∀m,s.heap.Ns X.env.locals m->h'.Ns X.env.locals m):PJ X gV σ H {s with heap:=h',toks:=t' }:=by
 have nit:∀b u,H b=some u->b≠X.env.locals/\b≠c/\b≠d:=λb u e=>⟨λz=>(by rw[z,I.free]at e;cases e),λz=>(by rw[z,hc]at e;cases e),λz=>(by rw[z,hd]at e;cases e)⟩
 refine I.step (g':=s.gens) (d':=s.drawn) (ch:=[c,d]) (λb hb=>?_) (λb o hL _ hb e _=>k b o hL (λz=>hb (by simp[z])) (λz=>hb (by simp[z])) e) (λb o hL _ hb e _=>⟨o.slots,k b o hL (λz=>hb (by simp[z])) (λz=>hb (by simp[z])) e⟩) (λ_ _ _ _ n=>n)
  (λb o hb e=>?_) (λ_ _ e=>e) (λ_ _ _ e=>e) (λ_ _ e=>e) ns (λb u e=>?_) I.bare
 .
  have:b=c∨b=d:=by simpa using hb
  rcases this with rfl|rfl
  . exact⟨.inr nc.s0,nc.loc,nc.cel,nc.pin⟩
  . exact⟨.inr nd.s0,nd.loc,nd.cel,nd.pin⟩
 .
  by_cases hL:b=X.env.locals
  . obtain⟨m,hn,_⟩:=I.loc;obtain⟨o2,_,_,e2,_⟩:=ns m hn;rw[hL];exact⟨o2,e2⟩
  . exact⟨o,k b o hL (λz=>hb (by simp[z])) (λz=>hb (by simp[z])) e⟩
 .
  refine(I.hok b u e).stay (λx v hx q=>?_) (λ_ q=>q) (λ_ _ q=>q) λ_ _ _ _ q=>q
  have:∃u,H x=some u:=by
   rcases hx with rfl|hx
   . exact⟨u,e⟩
   . exact⟨_,hx⟩
  obtain⟨u2,e2⟩:=this;obtain⟨n1,n2,n3⟩:=nit x u2 e2;exact k x v n1 n2 n3 q
def Rm(X:Cx)(gV:List (Addr×Obj))(σ:St)(H:Hp)(kS a:Addr)(s:Shared):Prop:=∃H',PJ X gV σ H' s/\(∀b o,H b=some o->H' b=some o)/\H' kS=none/\H' a=none/\(∃o,s.heap.get? kS=some o)/\∃o,s.heap.get? a=some o
def Rn(X:Cx)(gV:List (Addr×Obj))(σ:St)(H:Hp)(a:Addr)(s:Shared):Prop:=∃H',PJ X gV σ H' s/\(∀b o,H b=some o->H' b=some o)/\H' a=none
variable{kS a:Addr}{vs:List Value}{kz:List Int}{e1:Nat}{f:Value}{A':Around}{P:PySem.Fin->Shared->Prop}{E:Value->Shared->Prop}
theorem FH(J0:Rm X gV σ H kS a s)(nk:Q9 X gV kS)(na:Q9 X gV a)(hka:kS≠a) (gk:s.heap.get? kS=some (seqObj "list" #[] 0)) (ga:s.heap.get? a=some (seqObj "list" #[] e1)) (p4:kz.length=vs.length) (h64:vs.length < 64)
  (turn:∀(i:Nat)(v:Value)(k:Int),vs[i]?=some v->kz[i]?=some k->∀s',Rm X gV σ H kS a s' ->
   wpAny (model X.prog X.w) A' (call f [v]) (λr s''=>∃t,r=.int k t/\Rm X gV σ H kS a s''/\(∀o,s'.heap.get? kS=some o->s''.heap.get? kS=some o)/\∀o,s'.heap.get? a=some o->s''.heap.get? a=some o) (λ_ _=>False) s')
  (h:∀ s' out c,Rn X gV σ H a s'->s'.heap.get? a=some (seqObj "list" out c)->KskOut false kz vs out.toList->P (.done (.ret .none)) s') :
  wpAny (model X.prog X.w) A' (ksk_rest a f false vs.toArray e1 (.ref kS)) P E s:=by
 unfold ksk_rest;refine Uw (wpAny_rule ?_)
 first
  |rw[List.forIn_toArray]
  |(rw[<- Array.forIn_toList];simp only[List.toList_toArray])
  |rw[<- Array.forIn_toList]
 refine Uw (ksk_fold (λi s'=>∃ kA e,Rm X gV σ H kS a s'/\s'.heap.get? kS=some (seqObj "list" kA e)/\s'.heap.get? a=some (seqObj "list" #[] e1)/\IntsAre kA.toList (kz.take i)) vs 0 s
  ⟨#[],0,J0,gk,ga,by simpa using IntsAre.nil⟩ ?step ?done)
 case step =>
  rintro j x s' hx ⟨kA,e,J,g1,g2,hk⟩;simp only[Nat.zero_add]at hk ⊢;have hj:j<vs.length:=(UA.mp hx).1;obtain⟨k,hkj⟩:∃k,kz[j]?=some k:=⟨_,Ux xL⟩;have hz:kA.size<=vs.length:=by have h1:=hk.length;rw[Array.length_toList,List.length_take]at h1;omega
  refine Uw (wpAny_attempt (wpAny_mono (turn j x k hx hkj s' J) (λv s'' he=>?_) λ_ _ hF=>hF.elim));obtain⟨t2,rfl,⟨H',I,up,hn1,hn2,_,_⟩,k1,k2⟩:=he
  try dsimp only
  have q1:=k1 _ g1;have q2:=k2 _ g2;have s1:=Heap.SameBut.update s''.heap kS (Obj.mapSeq (·.push (.int k t2)));obtain⟨c2,hc2⟩:∃ c2,(s''.heap.update kS (Obj.mapSeq (·.push (.int k t2)))).get? kS=some (seqObj "list" (kA.push (.int k t2)) c2):=⟨_,get?_update_seq q1 (·.push (.int k t2))⟩;have ek:kz.take (j+1)=kz.take j++[k]:=by rw[List.take_add_one,hkj];simp
  have ea:(kA.push (Value.int k t2)).toList=kA.toList++[Value.int k t2]:=by simp
  refine Uw (listUpdate_at q1 rfl ?_ (by rw[sizeLine_eq];omega) (Nat.le_trans (Nat.le_of_eq (Array.size_push ..)) (by rw[sizeLine_eq];omega)));refine UH ⟨rfl,kA.push (.int k t2),c2,⟨H',?_,up,hn1,hn2,⟨_,hc2⟩,⟨_,(s1.2 a hka.symm).trans q2⟩⟩,hc2,(s1.2 a hka.symm).trans q2,by rw[ea,ek];exact ksk_snoc hk⟩;exact I.two (t':=s''.toks) nk na hn1 hn2 (λb o _ n1 _ q=>(s1.2 b n1).trans q) λm hm=>hm.sameBut s1 (Ne.symm nk.loc)
 case done =>
  rintro s' ⟨kA,e,⟨H',I,up,hn1,hn2,_,_⟩,g1,g2,hk⟩;have hk':IntsAre kA.toList kz:=by have e3:kz.take (0+vs.length)=kz:=List.take_of_length_le xL;rw[e3]at hk;exact hk
  try dsimp only
  refine Uw (listItems_at g1 rfl ?_);obtain⟨m,hn,_⟩:=id I.loc;have F:Fr (Att.noObjs s'.heap) X.env.locals s'.heap m:=⟨hn,λb o z=>(by rw[Att.noObjs_get]at z;cases z),Nat.zero_le _⟩;refine ksk_end_ (b:=false) (e:=e) (h₀:=Att.noObjs s'.heap) (L:=X.env.locals) (m:=m) (news:=(nM (Att.noObjs s'.heap) s'.heap X.env.locals).filter λp=>decide (p.1≠kS) && decide (p.1≠a)) F (λp hp=>?_) hka (λp hp=>?_) (λp hp=>?_) hk' p4 h64 λh3 tk3 out c F3 N3 k3=>?_
  .
   rcases List.mem_append.mp hp with hp|hp
   . exact zd p (List.mem_filter.mp hp).1
   .
    rcases UK.mp hp with rfl|hp
    . exact⟨g1,nk.loc,Att.noObjs_get _ _⟩
    . rw[List.mem_singleton.mp hp];exact⟨g2,na.loc,Att.noObjs_get _ _⟩
  . have:=(List.mem_filter.mp hp).2;simp only[Bool.and_eq_true,UG]at this;exact this.1
  . have:=(List.mem_filter.mp hp).2;simp only[Bool.and_eq_true,UG]at this;exact this.2
  .
   refine h _ out c ⟨H',?_,up,hn2⟩ (N3 _ (.head _)).1 k3;refine I.two (h':=h3) (t':=tk3) nk na hn1 hn2 (λb o n0 n1 n2 q=>?_) λm2 hm2=>?_
   . exact(N3 (b,o) (.tail _ (List.mem_filter.mpr ⟨l6 n0 (Att.noObjs_get _ _) q,by simp[n1,n2]⟩))).1
   . have e1:=hm2.eq_nsMap;have e2:=hn.eq_nsMap;rw[e1,<- e2];exact F3.ns
theorem A8{l q:Addr}{Q:Value->Shared->Prop}(I:PJ X gV σ H s)(hl:s.heap.IsList l vs.toArray)(p4:kz.length=vs.length)(h64:vs.length<64)
  (turn:∀kS a,Q9 X gV kS->Q9 X gV a->∀(i:Nat)(v:Value)(k:Int),vs[i]?=some v->kz[i]?=some k->∀s',Rm X gV σ H kS a s' ->
   wpAny (model X.prog X.w) X.A.in1.in1 (call (.ref q) [v]) (λr s''=>∃t,r=.int k t/\Rm X gV σ H kS a s''/\(∀o,s'.heap.get? kS=some o->s''.heap.get? kS=some o)/\∀o,s'.heap.get? a=some o->s''.heap.get? a=some o) (λ_ _=>False) s')
  (h:∀ a s' out c,Q9 X gV a->Rn X gV σ H a s'->s'.heap.get? a=some (seqObj "list" out c)->KskOut false kz vs out.toList->Q (.ref a) s') :
  wpAny (model X.prog X.w) X.A (call (.builtin "sorted") [.ref l] [(Str.ofString "key",.ref q)]) Q E s:=by
 refine call_function_entry_kw kind_sorted plain_sorted entry_sorted (ksk_s1 _ _) ?_;unfold Builtin.«sorted»;refine Uw (m:=checkCount "sorted" 1 1 _) (UH ?_);refine Uw (collect_list hl ?_ (by rw[sizeLine_eq];omega));refine Uw (wpAny_newList ?_ (by rw[sizeLine_eq];omega));have hsz:((s.heap.push (seqObj "list" #[] 0)).update s.heap.objs.size (Obj.mapSeq (·++vs.toArray))).objs.size=s.heap.objs.size+1:=by rw[Heap.size_update,size_push']
 have hoL:(((s.heap.push (seqObj "list" #[] 0)).update s.heap.objs.size (Obj.mapSeq (·++vs.toArray))).push (seqObj "list" vs.toArray 0)).get? (s.heap.objs.size+1)=some (seqObj "list" vs.toArray 0):=by rw[<- hsz];exact Heap.get?_push_size _ rfl
 have keep:∀ b o,s.heap.get? b=some o->(((s.heap.push (seqObj "list" #[] 0)).update s.heap.objs.size (Obj.mapSeq (·++vs.toArray))).push (seqObj "list" vs.toArray 0)).get? b=some o:=λb o q=>by have hlt:b<s.heap.objs.size:=UF q;rw[Heap.get?_push_ne _ _ _ (by rw[hsz];exact Nat.ne_of_lt (Nat.lt_succ_of_lt hlt)),Heap.get?_update_ne _ _ _ _ (Nat.ne_of_lt hlt),Heap.get?_push_ne _ _ _ (Nat.ne_of_lt hlt)];exact q
 show wpAny _ _ _ _ _ {s with heap:=((s.heap.push (seqObj "list" #[] 0)).update s.heap.objs.size (Obj.mapSeq (·++vs.toArray))).push (seqObj "list" vs.toArray 0) };rw[hsz];generalize hhp:((s.heap.push (seqObj "list" #[] 0)).update s.heap.objs.size (Obj.mapSeq (·++vs.toArray))).push (seqObj "list" vs.toArray 0)=hp at hoL keep;generalize ha:s.heap.objs.size+1=a at hoL;have sa:s.heap.objs.size<=a:=by omega
 refine Uw (wpAny_holding (wpAny_call_entry_kw slot_list_sort ⟨_,hoL,rfl⟩ entry_list_sort ?body (ksk_l1 _ _)))
 case body =>
  show wpAny (model X.prog X.w) X.A.in1.in1 (Builtin.«list.sort» ⟨[.ref a],[(Str.ofString "key",.ref q)]⟩) _ _ _;rw[ksk_t1];have s1:=Heap.SameBut.update hp a (Obj.mapSeq λ_=>(#[]:Array Value));obtain⟨e1,ho1⟩:∃ e1,(hp.update a (Obj.mapSeq λ_=>(#[]:Array Value))).get? a=some (seqObj "list" #[] e1):=⟨_,get?_update_seq hoL λ_=>#[]⟩;have la:a<hp.objs.size:=UF hoL;have hkS:((hp.update a (Obj.mapSeq λ_=>(#[]:Array Value))).push (seqObj "tuple" vs.toArray 0)).objs.size=hp.objs.size+1:=by rw[size_push',Heap.size_update]
  unfold ksk_tree;refine Uw (listItems_at hoL rfl ?_);refine Uw (listUpdate_at hoL rfl ?_ (by rw[List.size_toArray,sizeLine_eq];omega) (Nat.zero_le _));refine Uw (seqEpoch_at ho1 rfl ?_);refine Uw (wpAny_newTuple ?_ (by show vs.length<=_;rw[sizeLine_eq];omega));refine Uw (wpAny_newList ?_ (Nat.zero_le _));refine wpAny_holding ?_;have sk:s.heap.objs.size<=((hp.update a (Obj.mapSeq λ_=>(#[]:Array Value))).push (seqObj "tuple" vs.toArray 0)).objs.size:=by rw[hkS]; omega
  have nka:((hp.update a (Obj.mapSeq λ_=>(#[]:Array Value))).push (seqObj "tuple" vs.toArray 0)).objs.size≠a:=by rw[hkS]; omega
  have nk:Q9 X gV ((hp.update a (Obj.mapSeq λ_=>(#[]:Array Value))).push (seqObj "tuple" vs.toArray 0)).objs.size:=I.newer sk;have na:Q9 X gV a:=I.newer sa
  refine FH (s:={s with heap:=((hp.update a (Obj.mapSeq λ_=>(#[]:Array Value))).push (seqObj "tuple" vs.toArray 0)).push (seqObj "list" #[] 0) }) (kS:=((hp.update a (Obj.mapSeq λ_=>(#[]:Array Value))).push (seqObj "tuple" vs.toArray 0)).objs.size) (a:=a) (H:=H)
   ⟨H,I.kept (t':=s.toks) (λb o z=>Uy _ (Uy _ ((s1.2 b (Nat.ne_of_lt (UB (UF z) sa))).trans (keep b o z)))),λ_ _ z=>z,I.hok.fresh sk,I.hok.fresh sa,⟨_,Heap.get?_push_size _ rfl⟩,⟨_,Uy _ (Uy _ ho1)⟩⟩ nk na nka
   (Heap.get?_push_size _ rfl) (Uy _ (Uy _ ho1)) p4 h64 (turn _ a nk na) λs' out c J g k=>⟨_,rfl,?_⟩
  exact UH ⟨_,rfl,h a s' out c na J g k⟩
end
noncomputable def tj:Value->Int
 |.int n _=>n
 |_=>0
theorem uq:∀{us:List Value}{ns:List Int},IntsAre us ns->us.map tj=ns/\∀u∈us,∃t,u=.int (tj u) t
 |_,_,.nil=>⟨rfl,λu h=>by simp at h⟩
 | _,_,.cons n t h=>by
  obtain⟨h1,h2⟩:=uq h;refine⟨by rw[List.map_cons,h1];rfl,λu hu=>?_⟩;rcases UK.mp hu with rfl|hu
  . exact⟨t,rfl⟩
  . exact h2 u hu
theorem FI{us:List Value}{ns:List Int}{g:Int->Int}{out:List Value}(hi:IntsAre us ns)(h:KskOut false (ns.map g) us out):(out.map tj).Perm ns/\(out.map tj).Pairwise (λa b=>g a<=g b)/\bO ((out.map tj).map V.int) out:=by
 obtain⟨e1,e2⟩:=uq hi;obtain⟨ps,hp,rfl,hs⟩:=h
 have hz:∀p∈(ns.map g).zip us,p.1=g (tj p.2)/\p.2∈us:=λp hp=>by
  obtain⟨j,hj,rfl⟩:=List.getElem_of_mem hp;rw[List.getElem_zip];rw[List.length_zip]at hj;refine⟨?_,UD _⟩;simp only[List.getElem_map]
  congr 1
  have:(us.map tj)[j]?=ns[j]?:=by rw[e1]
  rw[List.getElem?_map,Ux xL,Ux (by simpa using(show j<(ns.map g).length by omega))]at this;simpa using this.symm
 have hz':∀p∈ps,p.1=g (tj p.2)/\p.2∈us:=λp h=>hz p (hp.mem_iff.mp h);have hm:(ps.map Prod.snd).map tj=ps.map λp=>tj p.2:=by rw[List.map_map];rfl
 refine⟨?_,?_,?_⟩
 .
  rw[hm];refine(hp.map _).trans ?_;have:((ns.map g).zip us).map (λp=>tj p.2)=ns:=by rw[show(λp:Int×Value=>tj p.2)=tj ∘ Prod.snd from rfl,<- List.map_map,List.map_snd_zip,e1];have:=hi.length;rw[UC];omega
  rw[this]
 . rw[hm,List.pairwise_map];refine List.Pairwise.imp_of_mem (λ{a b} ha hb q=>?_) hs;rw[<- (hz' a ha).1,<- (hz' b hb).1];simpa using q
 .
  have all:∀l:List Value,(∀u∈l,∃t,u=.int (tj u) t)->bO ((l.map tj).map V.int) l:=by
   intro l
   induction l with
   |nil=>exact λ_=>.nil
   |cons u l ih=>exact λh=>.cons (h u Uz) (ih λv hv=>h v (tu _ hv))
  refine all _ λu hu=>?_;obtain⟨p,hpm,rfl⟩:=List.mem_map.mp hu;exact e2 _ (hz' p hpm).2
def CU(fs:FS)(i:Nat)(t:W L):W L:=λZ so=>t Z λr Z1=>Qv r λd=>∃(ns:List Int)(g:Int->Int),d=.lst (ns.map .int)/\ns.length<64/\M3 i Z1 λv=>(∀n∈ns,fs [.d (.int n),.d v] λr _=>LX r λz=>z=.int (g n)) /\
 ∀(a:Addr)(out:List Int),out.Perm ns->out.Pairwise (λa b=>g a<=g b)->so (.own a (out.map .int)) Z1
section
variable{X:Cx}{k k':Nat}{x y:Str}{p cpos pos kpos:Pos}{e:Expr}{t:W L}{fs:FS}{pr:Arguments}{bd:Expr}{sc:Scope}
theorem FJ(LO:Jp X.prog X.w X.K X.mg X.base k x fs)(hr:gI k' X.A)(i:Nat)(LI:LZ X x y i pr bd sc pos)(ha:PL X e t) (hm:X.mg "sorted"=none) (hk:k+2<=k':=by decide) (hg:Gl X "sorted":=by rfl)
  (he:starEach [e] X.env=(false,eval e X.env)::starEach [] X.env:=by rfl) :
  PL X (.Call (.Name "sorted" p) [e] [⟨some "key",.Lambda pr bd sc pos,kpos⟩] cpos) (CU fs i t):=by
 intro gV s σ H Pr Z so I E0 h;obtain⟨c0,P,tab,code⟩:=LI.tab;refine wpAny_Call_Name_kw (jn I hg hm (u:=.builtin "sorted") y_ ?_);refine callWith_kw (e:=e) (rest:=[]) (kws:=[⟨some "key",.Lambda pr bd sc pos,kpos⟩]) ?_ (by rw[he]; rfl) (by rw[he]; rfl) rfl rfl;rw[he];show wpAny _ _ (spliced ((false,eval e X.env)::backTo cpos (starEach [] X.env))) _ _ s;refine Calls.spliced_cons (PP (ha gV s σ H Pr Z _ I E0 h) λu1 s1 hq=>?_);obtain⟨v1,H1,d,Z1,I1,rv1,E1,ns,g,rfl,h64,q1⟩:=EL.frz hq;refine Calls.spliced_nil ?_;obtain⟨dv,qi,hkey,q1⟩:=Jr q1
 show wpAny _ _ (evalAll [(do let v <- eval (.Lambda pr bd sc pos) X.env;standAt cpos;pure v)]) _ _ s1
 obtain⟨c,hcl⟩:=I1.ok.has y (.inl LI.cel);have fr:∀z,(z,NameKind.free)∈sc.names->z=y:=λz hz=>by have:(z,NameKind.free)∈sc.names.filter λp=>p.2 == .free:=List.mem_filter.mpr ⟨hz,rfl⟩;rw[LI.fre]at this;simpa using this
 have hm':(y,NameKind.free)∈sc.names:=by
  have:(y,NameKind.free)∈sc.names.filter λp=>p.2 == .free:=by rw[LI.fre];simp
  exact(List.mem_filter.mp this).1
 have hclo:closureFor sc X.env=pure [(y,c)]:=by
  rw[mZ λz hz hf=>by
   obtain⟨z1,z2⟩:=z;cases hf
   rw[fr z1 hz];exact⟨c,hcl⟩,zV hcl _ _ LI.fre]
 refine wpAny_evalAll_cons (Uw (FG I1 LI.mem tab code LI.qual hclo LI.deft λfa c' oq H2 s2 ctv pm I2 ext gf nf zf zq co=>Uw (wpAny_standAt (UH ?_))));refine wpAny_evalAll_nil ?_;show wpAny (model X.prog X.w) X.A (call (.builtin "sorted") [u1] [(Str.ofString "key",.ref fa)]) _ _ s2;have nfa:Q9 X gV fa:=I1.newer zf;generalize hfo:kla_obj "<lambda>" (sP x) pr bd sc [(y,c)] pm c' ctv=fo at gf;have I3:PJ X gV σ (Pv H2 fa (.frz fo (.own fa))) s2:=I2.track nf nfa.s0 nfa.loc nfa.cel nfa.pin ⟨gf,_,gf⟩;have up3:∀b o,H2 b=some o->Pv H2 fa (.frz fo (.own fa)) b=some o:=λb o z=>by rw[ay (bb z nf)];exact z
 have E3:=(E1.exten ext).exten up3;obtain⟨_,e5,ra⟩:=E3.head_d;cases e5;have E4:=E3.tail;obtain⟨sv,hsl,v',rfl,rd⟩:=E4.slot qi
 cases ra with
 | lst hz rs =>
  have evs:=oV rs;subst evs;cases rv1;obtain⟨its,r',pl,hzz⟩:=I3.list hz.l;have hi:=zK r';have p4:=hi.length;refine A8 (kz:=ns.map g) I3 pl.isList (by rw[UC];exact p4.symm) xL (λkS a nk na j v kv hv hkv s' J=>?_) λa s' out cc na J ga ko=>?_
  .
   obtain⟨H',I',up,n1,n2,⟨ok1,gk1⟩,⟨ok2,gk2⟩⟩:=J;have hj:j<ns.length:=by have:=(UA.mp hkv).1;simpa using this
   have ekv:kv=g ns[j]:=by rw[List.getElem?_map,Ux hj]at hkv;exact(Option.some.inj hkv).symm
   obtain⟨en,ev⟩:=uq hi;obtain⟨tv,hv2⟩:=ev v (List.mem_of_getElem? hv)
   have ejn:tj v=ns[j]:=by
    have:(its.map tj)[j]?=ns[j]?:=by rw[en]
    rw[List.getElem?_map,hv,Ux hj]at this;simpa using this
   obtain⟨m,_,hloc⟩:=I'.loc;obtain⟨u',rv',lk⟩:=hloc i y v' LI.at_i hsl (.inr (.inl LI.cel))
   obtain⟨oc,gc,dc⟩:s'.heap.IsCell c (some u'):=by
    rcases lk with⟨z,_⟩|⟨_,c2,e2,z⟩
    . rw[show X.env.kindOf y=some .cell from LI.cel]at z;cases z
    . rw[hcl]at e2;cases e2;exact z
   have nc:H' c=none:=(I'.freeC y c hcl).resolve_right λz=>by rw[LI.fn]at z;exact absurd z.1 x_
   have la:LW X.K H' s'.heap fa x dv:=by refine⟨c,c',oc,oq,y,pr,bd,sc,pos,pm,ctv,u',v',LI.lam,?_,(I'.hok c' _ (up _ _ (up3 _ _ zq))).1,co,gc,.inl nc,dc,rv',hm',rd.pres λb o _ z=>up b o z⟩;rw[hfo];exact(I'.hok fa _ (up _ _ aX)).1
   have rr:gI k X.A.in1.in1:=gI.in1 (gI.in1 (hr.mono (j:=k+2) hk));have hfs:=hkey ns[j] (UD hj);refine wpAny_call (codeAny_mono (LO.run X.A.in1.in1 X.stack s' H' fa v (.int ns[j]) (.int ns[j]) dv (λz=>z=.int (g ns[j])) rr I'.env0.in1.in1 ⟨tv,by rw[hv2,ejn]⟩ (.int _) la hfs) λres s'' hres=>?_)
   cases res with
   |error ee=>exact(show False from hres).elim
   | ok fl =>
    cases fl with
    | ret u2 =>
     obtain⟨v3,H3,os,bare,un,hok,rv3,ext3,z,rz,pz⟩:=hres;subst pz;cases rz;obtain⟨t3,rfl⟩:=rv3;have I4:PJ X gV σ H3 s'':=I'.call' (ch:=[]) os un hok bare (λb z=>absurd z v6);have kk1:∀o,s'.heap.get? kS=some o->s''.heap.get? kS=some o:=λo z=>un.keep kS o z n1 (nk.nofs I') v6;have kk2:∀o,s'.heap.get? a=some o->s''.heap.get? a=some o:=λo z=>un.keep a o z n2 (na.nofs I') v6;exact⟨t3,by rw[ekv],⟨H3,I4,λb o z=>ext3 b o (up b o z),un.free kS ok1 gk1 n1 v6,un.free a ok2 gk2 n2 v6,⟨ok1,kk1 _ gk1⟩,⟨ok2,kk2 _ gk2⟩⟩,kk1,kk2⟩
    |next=>exact False.elim hres
    |brk=>exact False.elim hres
    |cont=>exact False.elim hres
  .
   obtain⟨H',I',up,n2⟩:=J;obtain⟨op,os,ov⟩:=FI hi ko;have lo:(out.toList.map tj).length=ns.length:=op.length_eq;have I5:PJ X gV σ (Pv H' a (.lst ((out.toList.map tj).map V.int))) s':=by refine I'.track n2 na.s0 na.loc na.cel na.pin ⟨?_,out.toList,cc,ov,by simpa using ga⟩;rw[UC,lo];exact Nat.le_trans (Nat.le_of_lt h64) x_
   exact⟨.ref a,_,.own a ((out.toList.map tj).map .int),Z1,I5,rfl,(E4.exten up).cons_own n2 (m5 _),q1 a _ op os⟩
end
theorem Mc{P:Program}{w:World}{K:Frag}{mg:Str->Option Value}{base:Heap}{x qual:Str}{st:Stmt}{f:Addr}{fd:FuncData}{N ps:List Str}{k:Nat}{fs:FS}(F:Qq K x qual st f fd)(S:az N ps (ak st))(t:W Fl)
  (hbody:∀(cdv:Value)(A:Around)(outer:List Env)(s:Shared)(H:Hp)(E:XK),fd.code=cdv->gI k (A.deeper (envOfC qual (ak st) s.heap.objs.size f cdv))->Qu (Eg CX0 P w K mg base N qual (ak st) f cdv A outer s H E).nox (cX st) t)
  (h:∀ls so,ls.length=ps.length->fs ls so->t (ls++List.replicate (N.length-ps.length) .un) (aR ls so)):FnOk P w K mg base CX0 (k+1) f fd ps (spF K ps.length fs):=by
 obtain⟨oc,od,kV,doc,pm,an,cdv,ct,osl,rfl,lk,hcd⟩:=F.ex;refine HS lk hcd S (λvs H Q E q=>q.1) λA outer s H vs Q E hr q=>?_;obtain⟨hl,Pr,ls,so,E0,hf,q⟩:=q;refine⟨_,(hbody cdv A outer s H E rfl hr).pss.nox,br H ls,ls++List.replicate (N.length-ps.length) .un,aR ls so,?_,h ls so (by rw[<- hl];have:=E0.len;simpa using this.symm) hf,λσ' H' Z' E' p=>?_,λ_ _ _ _ p=>p.elim,λ_ _ _ _ p=>p.elim,λv τ H' r Z' E' p=>?_⟩
 . unfold nO;rw[hl];exact E0.wide.uns _
 . obtain⟨ls',B,p⟩:=p;exact q .non H' (.d .non) ls' (pM E0 (E'.cons_d .non) B) p
 . obtain⟨ls',B,p⟩:=p;exact q v H' r ls' (pM E0 E' B) p
end L2
namespace L2
open PySem PySem.W
section
variable{X:Cx}{es:List Expr}{pos:Pos}
def Js(i:Nat)(t:W (List L)):W L:=λZ so=>t Z λls Z1=>ls.length<=sizeLine/\ls[0]?=some .un/\Kp Z1[i]? i Z1 λl Z2=>(∃a ys,l=.own a ys)/\so (.bx none (l::ls.tail)) Z2
theorem Jt {x1} (i:Nat) {bs:List (Option Nat)} {t:W (List L)} (h:Qt X es (some i::bs) t):PL X (.Tuple es x1 pos) (Js i t):=by
 intro gV s σ H Pr Z so I E hq;refine wpAny_Tuple_spliced (PP (h pos gV s σ H Pr Z _ I E hq) λus s1 ⟨vs,H1,ls,Z1,I1,r,hl,hb,E1,hv,z,z0,q⟩=>?_);refine⟨by rw[<- r.length,hl];exact z,?_⟩
 cases qi:Z1[i]? with
 |none=>rw[qi]at q;exact q.elim
 |some l =>
 rw[qi]at q
 cases l with
 |un=>exact q.elim
 |dic _ _=>exact q.elim
 |d y=>obtain⟨⟨_,_,z⟩,_⟩:=q;cases z
 |bx _ _=>obtain⟨⟨_,_,z⟩,_⟩:=q;cases z
 |own a ys =>
 obtain⟨_,q⟩:=q;obtain⟨_,v,hv1,hv2⟩:=hv 0 i rfl
 cases ls with
 |nil=>cases z0
 |cons l ls =>
 cases vs with
 |nil=>simp at hl
 |cons w vs =>
 have hl':vs.length=ls.length:=by simpa using hl
 have E2:aB X.K Pr H1 (vs.map some++σ) (ls++Z1):=aB.tail (v:=some w) (l:=l) E1;have qi2:(ls++Z1)[ls.length+i]?=some (.own a ys):=by rw[List.getElem?_append_right (Nat.le_add_right _ _),Nat.add_sub_cancel_left];exact qi
 have wv:w=v:=by simpa using hv1
 subst wv;have hs2:(vs.map some++σ)[ls.length+i]?=some (some w):=by rw[List.getElem?_append_right (by rw[UC,hl'];exact Nat.le_add_right _ _),UC,hl',Nat.add_sub_cancel_left];exact hv2
 have E3:=E2.outL qi2 hs2;rw[List.set_append_right _ _ (Nat.le_add_right _ _),Nat.add_sub_cancel_left]at E3;have hf:H1 s1.heap.objs.size=none:=I1.hok.fresh (UJ _);have E4:aB X.K Pr (Pv H1 s1.heap.objs.size (.tup (w::vs))) ((w::vs).map some++σ) ((.own a ys::ls)++Z1.set i .un):=aB.new E3 hf;have hl2:(w::vs).length=(L.own a ys::ls).length:=by simpa using hl'
 refine⟨.ref s1.heap.objs.size,Pv H1 s1.heap.objs.size (.tup (w::vs)),_,Z1.set i .un,I1.laid (t':=s1.toks) (λb u e=>Uy _ e) (UJ _) ?_,rfl,E4.closeT hl2 (PV.of aX),q⟩;exact⟨by rw[hl];exact z,us,r,⟨_,Heap.get?_push_size _ rfl,rfl,_,rfl⟩⟩
end
end L2
namespace L2
open PySem PySem.Spec PyProof.Rows PySem.SeqAt
structure OA (d:D):Prop where
 ok:Rl d=true
 sh:jq d=true
 dp:(QH d).depth<=40
 sg:Ej d<=16777216
theorem OA.len{d:D}(h:OA d):(QH d).shown.length<=sizeLine:=by
 have e:sizeLine=16777216:=by decide
 rw[e];exact Nat.le_trans (CS d (qk d h.ok h.sh)) h.sg
end L2
namespace L2
open PySem PySem.Spec PyProof.Rows
def Ro(o q:Option L)(i j:Nat)(t:W L)(Z:Ev)(so:L->Ev->Prop):Prop:=match o,q with
 |some (.own _ xs),some (.own b _)=>i≠j/\d7 i Z=true/\t (Z.set i (.d (.lst xs))) λr Z'=>lC r=true/\∃zs,rX zs=true/\Z'=(Z.set i (.d (.lst xs))).set j (.own b zs)/\so r (Z.set j (.own b zs))
 |_,_=>False
theorem Ju(a b:Addr)(xs ys:List D)(i j:Nat)(t:W L)(Z:Ev)(so:L->Ev->Prop):Ro (some (.own a xs)) (some (.own b ys)) i j t Z so=(i≠j/\d7 i Z=true/\t (Z.set i (.d (.lst xs))) λr Z'=>lC r=true/\∃zs,rX zs=true/\Z'=(Z.set i (.d (.lst xs))).set j (.own b zs)/\so r (Z.set j (.own b zs))):=(rfl)
def O5(o:Option L)(Z:Ev)(so:Bool->Ev->Prop):Prop:=match o with
 |some (.d (.lst xs))=>so (!xs.isEmpty) Z
 |_=>False
theorem FK(xs:List D)(Z:Ev)(so:Bool->Ev->Prop):O5 (some (.d (.lst xs))) Z so=so (!xs.isEmpty) Z:=(rfl)
end L2
namespace HT
open PySem PySem.Spec PyProof.Rows
end HT
namespace L2
open PySem PySem.Spec PyProof.Rows
end L2
namespace L2
open PySem PySem.Spec PyProof.Rows PySem.W
end L2
namespace L2
open PySem PySem.Spec PyProof.Rows PySem.SeqAt
end L2
namespace PySem
open PySem.Spec
namespace F
end F
end PySem
namespace L2
open PySem PySem.Spec PyProof.Rows PySem.W
section
variable{key:Nat->Int}{n:Nat}{I:Shared->Prop}{cmp:Nat->Nat->(Bool->Shared->Prop)->Shared->Prop}
def gN(I:Shared->Prop)(cmp:Nat->Nat->(Bool->Shared->Prop)->Shared->Prop){α:Type}(t:KasT α)(P:α->Prop):Prop:=∀(Q:α->Shared->Prop)(s:Shared),I s->(∀a s',I s'->P a->Q a s')->t.kasWp cmp Q s
def CV(key:Nat->Int)(n:Nat)(I:Shared->Prop)(cmp:Nat->Nat->(Bool->Shared->Prop)->Shared->Prop):Prop:=∀(i j:Nat)(C:Bool->Shared->Prop)(s:Shared),i<n->j<n->i≠j->I s->(∀s',I s'->C (decide (key i<key j)) s')->cmp i j C s
noncomputable def kk(key:Nat->Int)(p:Array Nat)(i:Nat):Int:=key (p.getD i 0)
structure g7 (n:Nat) (p:Array Nat):Prop where
 sz:p.size=n
 pm:p.toList.Perm (List.range n)
def Rp(key:Nat->Int)(p:Array Nat)(m:Nat):Prop:=∀i j,i<j->j<m->kk key p i<kk key p j
def Rq(key:Nat->Int)(p:Array Nat)(m:Nat):Prop:=∀i j,i<j->j<m->kk key p j<kk key p i
theorem g7.lt{p:Array Nat}(g:g7 n p){i:Nat}(h:i<n):p.getD i 0<n:=by
 have hs:i<p.size:=by rw[g.sz];exact h
 have e:p.getD i 0=p[i]:=by simp[Array.getD,hs]
 rw[e];exact List.mem_range.mp (g.pm.mem_iff.mp (by rw[<- Array.getElem_toList];exact UD _))
theorem g7.ne{p:Array Nat}(g:g7 n p){i j:Nat}(hi:i<n)(hj:j<n)(h:i≠j):p.getD i 0≠p.getD j 0:=by
 have hs:i<p.size:=by rw[g.sz];exact hi
 have ht:j<p.size:=by rw[g.sz];exact hj
 have nd:p.toList.Nodup:=g.pm.nodup_iff.mpr List.nodup_range;have e1:p.getD i 0=p.toList[i]'(by simpa using hs):=by simp[Array.getD,hs]
 have e2:p.getD j 0=p.toList[j]'(by simpa using ht):=by simp[Array.getD,ht]
 rw[e1,e2];intro z;exact h ((List.getElem_inj nd).mp z)
theorem gN.ret{α:Type}{a:α}{P:α->Prop}(h:P a):gN I cmp (.ret a) P:=λQ s hi hq=>hq a s hi h
theorem gN.ask{α:Type}{i j:Nat}{k:Bool->KasT α}{P:α->Prop}(hc:CV key n I cmp)(hi:i<n)(hj:j<n)(hn:i≠j)(h1:key i<key j->gN I cmp (k true) P)(h2:¬key i<key j->gN I cmp (k false) P):gN I cmp (.ask i j k) P:=λQ s hI hq=>by
 refine hc i j _ s hi hj hn hI λs' hI'=>?_;by_cases c:key i<key j
 . rw[decide_eq_true c];exact h1 c Q s' hI' hq
 . rw[decide_eq_false c];exact h2 c Q s' hI' hq
theorem gN.bind{α β:Type}{t:KasT α}{f:α->KasT β}{P:α->Prop}{R:β->Prop}(h:gN I cmp t P)(hf:∀a,P a->gN I cmp (f a) R):gN I cmp (t.bind f) R:=λQ s hI hq=>by rw[KasT.kasWp_bind];exact h _ s hI λa s' hI' ha=>hf a ha Q s' hI' hq
theorem gN.mono{α:Type}{t:KasT α}{P R:α->Prop}(h:gN I cmp t P)(hr:∀a,P a->R a):gN I cmp t R:=λQ s hI hq=>h Q s hI λa s' hI' ha=>hq a s' hI' (hr a ha)
theorem gN.at{α:Type}{p:Array Nat}{i j:Nat}{k:Bool->KasT α}{P:α->Prop}(hc:CV key n I cmp)(hq:∀a b,a<n->b<n->key a=key b->a=b)(g:g7 n p)(hi:i<n)(hj:j<n)(hn:i≠j)(h1:kk key p i<kk key p j->gN I cmp (k true) P)(h2:kk key p j<kk key p i->gN I cmp (k false) P):gN I cmp (.ask (p.getD i 0) (p.getD j 0) k) P:=by refine gN.ask hc (g.lt hi) (g.lt hj) (g.ne hi hj hn) h1 λc=>h2 ?_;have:kk key p i≠kk key p j:=λz=>g.ne hi hj hn (hq _ _ (g.lt hi) (g.lt hj) z);unfold kk at this ⊢;omega
theorem CW(hc:CV key n I cmp)(hq:∀a b,a<n->b<n->key a=key b->a=b){p:Array Nat}(g:g7 n p):∀(f m:Nat),1<=m->m+f<=n->Rp key p m->gN I cmp (kas_asc p f m) λr=>m<=r/\r<=m+f/\Rp key p r/\(r=m+f∨kk key p r<kk key p (r-1))
 |0,m,_,_,u=>gN.ret ⟨UJ _,UJ _,u,.inl rfl⟩
 | f+1,m,h1,h2,u=>by
  show gN I cmp (.ask (p.getD m 0) (p.getD (m-1) 0) _) _;refine gN.at hc hq g xL xL xL (λc=>?_) λc=>?_
  . rw[if_pos rfl];exact gN.ret ⟨UJ _,xL,u,.inr c⟩
  .
   rw[if_neg (by decide)]
   have u':Rp key p (m+1):=λi j hij hj=>by
    by_cases e:j=m
    .
     subst e;by_cases e2:i=j-1
     . subst e2;exact c
     . exact Int.lt_trans (u i (j-1) xL xL) c
    . exact u i j hij xL
   refine(CW hc hq g f (m+1) xL xL u').mono λr hr=>⟨xL,xL,hr.2.2.1,?_⟩;rcases hr.2.2.2 with e|e
   . exact .inl xL
   . exact .inr e
theorem CY(hc:CV key n I cmp)(hq:∀a b,a<n->b<n->key a=key b->a=b){p:Array Nat}(g:g7 n p):∀(f m:Nat),1<=m->m+f<=n->Rq key p m->gN I cmp (kas_desc f p m 0) λr=>r.1=p/\m<=r.2.1/\r.2.1<=m+f/\r.2.2=0/\Rq key p r.2.1
 |0,m,_,_,u=>gN.ret ⟨rfl,UJ _,UJ _,rfl,u⟩
 | f+1,m,h1,h2,u=>by
  show gN I cmp (.ask (p.getD m 0) (p.getD (m-1) 0) _) _;refine gN.at hc hq g xL xL xL (λc=>?_) λc=>?_
  .
   rw[if_pos rfl,if_neg (by omega)]
   have u':Rq key p (m+1):=λi j hij hj=>by
    by_cases e:j=m
    .
     subst e;by_cases e2:i=j-1
     . subst e2;exact c
     . exact Int.lt_trans c (u i (j-1) xL xL)
    . exact u i j hij xL
   exact(CY hc hq g f (m+1) xL xL u').mono λr hr=>⟨hr.1,xL,xL,hr.2.2.2.1,hr.2.2.2.2⟩
  . rw[if_neg (by decide)];refine gN.at hc hq g xL xL xL (λ_=>?_) λz=>absurd c xL;rw[if_pos rfl];exact gN.ret ⟨rfl,UJ _,by show m<=m+(f+1);omega,rfl,u⟩
theorem qm{p q:Array Nat}{i j:Nat}(h:p[i]?=q[j]?):p.getD i 0=q.getD j 0:=by rw[Array.getD_eq_getD_getElem?,Array.getD_eq_getD_getElem?,h]
theorem G6{p:Array Nat}{m:Nat}(hm:m<=p.size)(i:Nat):kk key (kas_rev p 0 m) i=if i<m then kk key p (m-1-i)else kk key p i:=by
 have e:=getElem?_mirror_all (xs:=p) (i:=0) (j:=m) hm i;unfold kk kas_rev;by_cases h:i<m
 . rw[if_pos ⟨Nat.zero_le _,h⟩]at e;rw[if_pos h,qm e,Nat.zero_add]
 . rw[if_neg (by omega)]at e;rw[if_neg h,qm e]
theorem g7.of{p q:Array Nat}(g:g7 n p)(h:q.Perm p):g7 n q:=⟨h.size_eq.trans g.sz,h.toList.trans g.pm⟩
theorem Jv(hc:CV key n I cmp)(hq:∀a b,a<n->b<n->key a=key b->a=b){p:Array Nat}(g:g7 n p){m:Nat}(h1:1<=m)(h2:m<=n)(d:Rq key p m):gN I cmp (kas_tail3 m n p) λr=>g7 n r.2/\1<=r.1/\r.1<=n/\Rp key r.2 r.1:=by
 have g':g7 n (kas_rev p 0 m):=g.of (mirror_perm _ _ _ _);have u:Rp key (kas_rev p 0 m) m:=λi j hij hj=>by rw[G6 (by rw[g.sz];exact h2),G6 (by rw[g.sz];exact h2),if_pos (by omega),if_pos hj];exact d _ _ xL xL
 unfold kas_tail3;exact(CW hc hq g' (n-m) m h1 xL u).bind λr hr=>gN.ret ⟨g',by show 1<=r;omega,by show r<=n;omega,hr.2.2.1⟩
theorem xZ(hc:CV key n I cmp)(hq:∀a b,a<n->b<n->key a=key b->a=b){p:Array Nat}(g:g7 n p){m:Nat}(h2:m+1<=n)(d:Rq key p (m+1)):gN I cmp (kas_descPart m n p) λr=>g7 n r.2/\1<=r.1/\r.1<=n/\Rp key r.2 r.1:=by unfold kas_descPart;refine(CY hc hq g (n-(m+1)) (m+1) xL xL d).bind λr hr=>?_;obtain⟨e1,e2,e3,e4,e5⟩:=hr;rw[e4,if_neg (by omega),e1];exact Jv hc hq g xL xL e5
theorem FL(hc:CV key n I cmp)(hq:∀a b,a<n->b<n->key a=key b->a=b){p:Array Nat}(g:g7 n p)(hn:1<=n):gN I cmp (kas_count n p) λr=>g7 n r.2/\1<=r.1/\r.1<=n/\Rp key r.2 r.1:=by
 unfold kas_count;refine(CW hc hq g (n-1) 1 (UJ _) xL λi j hij hj=>by omega).bind λm hm=>?_;obtain⟨m1,m2,u,e⟩:=hm;by_cases em:m=n
 . rw[if_pos (by simp[em])];exact gN.ret ⟨g,m1,by show m<=n;omega,u⟩
 .
  rw[if_neg (by simp[em])];by_cases h1:m > 1
  . rw[if_pos h1];refine gN.at hc hq g xL xL xL (λ_=>?_) λc=>absurd (u 0 (m-1) xL xL) xL;rw[if_pos rfl];exact gN.ret ⟨g,m1,by show m<=n;omega,u⟩
  .
   rw[if_neg h1];have e1:m=1:=by omega
   subst e1;refine xZ hc hq g xL λi j hij hj=>?_;have:i=0/\j=1:=by omega
   obtain⟨rfl,rfl⟩:=this;rcases e with e|e
   . omega
   . exact e
theorem ur(hc:CV key n I cmp)(hq:∀a b,a<n->b<n->key a=key b->a=b){p:Array Nat}(g:g7 n p){k:Nat}(hk:k<n):∀(f l r:Nat),l<=r->r<=k->r-l<=f->(∀i,i<l->kk key p i<kk key p k)->(∀i,r<=i->i<k->kk key p k<kk key p i)->Rp key p k ->
  gN I cmp (kas_place p k f l r) λl=>l<=k/\(∀i,i<l->kk key p i<kk key p k)/\∀i,l<=i->i<k->kk key p k<kk key p i
 | 0,l,r,a,b,c,d,e,u=>by
  have:l=r:=by omega
  subst this;exact gN.ret ⟨b,d,e⟩
 | f+1,l,r,a,b,c,d,e,u=>by
  unfold kas_place;by_cases h:l≥r
  .
   rw[if_pos h];have:l=r:=by omega
   subst this;exact gN.ret ⟨b,d,e⟩
  .
   rw[if_neg h];refine gN.at hc hq g hk xL xL (λz=>?_) λz=>?_
   .
    rw[if_pos rfl];refine ur hc hq g hk f l ((l+r) / 2) xL xL xL d (λi h1 h2=>?_) u;by_cases e1:i=(l+r) / 2
    . rw[e1];exact z
    . exact Int.lt_trans z (u _ _ xL h2)
   .
    rw[if_neg (by decide)];refine ur hc hq g hk f ((l+r) / 2+1) r xL b xL (λi h1=>?_) e u;by_cases e1:i=(l+r) / 2
    . rw[e1];exact z
    . exact Int.lt_trans (u _ _ xL xL) z
theorem G7{p:Array Nat}{k l:Nat}(hk:k<p.size)(hl:l<=k)(i:Nat):kk key (bubble p k (k-l)) i=if i=l then kk key p k else if l<i/\i<=k then kk key p (i-1)else kk key p i:=by
 have e:=getElem?_bubble (xs:=p) hk (k-l) xL i;rw[show k-(k-l)=l by omega]at e;unfold kk;by_cases h1:i=l
 . rw[if_pos h1]at e ⊢;rw[qm e]
 .
  rw[if_neg h1]at e ⊢;by_cases h2:l<i/\i<=k
  . rw[if_pos h2]at e ⊢;rw[qm e]
  . rw[if_neg h2]at e ⊢;rw[qm e]
theorem G8(hc:CV key n I cmp)(hq:∀a b,a<n->b<n->key a=key b->a=b):∀(f:Nat)(p:Array Nat)(k:Nat),g7 n p->k+f<=n->Rp key p k->gN I cmp (kas_bin f p k) λq=>g7 n q/\Rp key q (k+f)
 |0,p,k,g,_,u=>gN.ret ⟨g,u⟩
 | f+1,p,k,g,h,u=>by
  unfold kas_bin;refine(ur hc hq g (show k<n by omega) k 0 k xL xL xL (λi hi=>by omega) (λi h1 h2=>by omega) u).bind λl hl=>?_;obtain⟨l1,l2,l3⟩:=hl
  have u':Rp key (bubble p k (k-l)) (k+1):=λi j hij hj=>by
   have hs:k<p.size:=by rw[g.sz];omega
   rw[G7 hs l1,G7 hs l1];by_cases a:i=l
   . rw[if_pos a,if_neg (by omega),if_pos ⟨xL,xL⟩];exact l3 _ xL xL
   .
    rw[if_neg a];by_cases b:j=l
    . rw[if_pos b,if_neg (by omega)];exact l2 _ xL
    .
     rw[if_neg b];by_cases c:l<i/\i<=k
     . rw[if_pos c,if_pos ⟨xL,xL⟩];exact u _ _ xL xL
     .
      rw[if_neg c];by_cases d:l<j/\j<=k
      . rw[if_pos d];exact u _ _ xL xL
      . rw[if_neg d];exact u _ _ hij xL
  exact(G8 hc hq f _ (k+1) (g.of (bubble_perm _ _ _)) xL u').mono λq hq'=>⟨hq'.1,by rw[show k+(f+1)=k+1+f by omega];exact hq'.2⟩
theorem Jw(hc:CV key n I cmp)(hq:∀a b,a<n->b<n->key a=key b->a=b)(hn:1<=n):gN I cmp (kas_sort n) λp=>g7 n p/\Rp key p n:=by
 unfold kas_sort;refine(FL hc hq (p:=(List.range n).toArray) ⟨v6,v6⟩ hn).bind λr hr=>?_;obtain⟨g,r1,r2,u⟩:=hr;by_cases h:r.1<n
 .
  rw[if_pos h];have e:max r.1 1=r.1:=by omega
  rw[e];refine(G8 hc hq (n-r.1) r.2 r.1 g xL u).mono λq hq'=>⟨hq'.1,?_⟩;have:=hq'.2;rwa [show r.1+(n-r.1)=n by omega]at this
 . rw[if_neg h];refine gN.ret ⟨g,?_⟩;rwa [show r.1=n by omega]at u
end
section
variable{prog:Program}{w:World}{A:Around}{E:Value->Shared->Prop}{s:Shared}
theorem FM{a:Addr}{vs:List Value}{n:Nat}{P:PySem.Fin->Shared->Prop} (ho:s.heap.get? a=some (seqObj "list" vs.toArray n)) (h2:vs.length < 2)
  (h:∀ h' c,h'.get? a=some (seqObj "list" vs.toArray c)->(∀ b o,b≠a->s.heap.get? b=some o->h'.get? b=some o)->P (.done (.ret .none)) {s with heap:=h' }) :
  wpAny (model prog w) A (Builtin.«list.sort» ⟨[.ref a],[]⟩) P E s:=by
 rw[list_sort_plain];have la:a<s.heap.objs.size:=UF ho;have hz:vs.toArray.size<2:=by simpa using h2
 have sa:=Heap.SameBut.update s.heap a (Obj.mapSeq λ_=>(#[]:Array Value));obtain⟨e1,o1⟩:∃ e1,(s.heap.update a (Obj.mapSeq λ_=>(#[]:Array Value))).get? a=some (seqObj "list" #[] e1):=⟨_,get?_update_seq ho λ_=>#[]⟩;refine Uw (listItems_at ho rfl (Uw (listUpdate_at ho rfl ?_ (by rw[sizeLine_eq];omega) (Nat.zero_le _))));refine Uw (seqEpoch_at o1 rfl (Uw (wpAny_newTuple ?_ (by show vs.length<=_;rw[sizeLine_eq];omega))));refine Uw (wpAny_newList (wpAny_holding ?_) (Nat.zero_le _));have o6:(((s.heap.update a (Obj.mapSeq λ_=>#[])).push (seqObj "tuple" vs.toArray 0)).push (seqObj "list" #[] 0)).get? a=some (seqObj "list" #[] e1):=Uy _ (Uy _ o1);show wpAny (model prog w) A _ P E {s with heap:=((s.heap.update a (Obj.mapSeq λ_=>#[])).push (seqObj "tuple" vs.toArray 0)).push (seqObj "list" #[] 0) };dsimp only;rw[if_pos hz,if_pos hz];refine Uw (UH ?_);rw[StateT.run_pure];refine Uw (UH ?_);dsimp only;have hv:(vs.toArray.zip vs.toArray).map (λx=>x.2)=vs.toArray:=by apply Array.toList_inj.mp;simp[List.map_snd_zip]
 refine Uw (seqEpoch_at o6 rfl (Uw (listUpdate_at o6 rfl ?_ (Nat.zero_le _) ?_)))
 . simp only[bne_self_eq_false,Bool.false_eq_true,if_false];have sb:=Heap.SameBut.update (((s.heap.update a (Obj.mapSeq λ_=>#[])).push (seqObj "tuple" vs.toArray 0)).push (seqObj "list" #[] 0)) a (Obj.mapSeq λ_=>vs.toArray);have e0:(arrOf (SortSt.mk' general' (vs.toArray.zip vs.toArray) #[] 7 none)).map (λx=>x.2)=vs.toArray:=hv;rw[e0];refine UH (h _ _ (get?_update_seq o6 λ_=>vs.toArray) λb o hb q=>(sb.2 b hb).trans ?_);exact Uy _ (Uy _ ((sa.2 b hb).trans q))
 . have e0:(arrOf (SortSt.mk' general' (vs.toArray.zip vs.toArray) #[] 7 none)).map (λx=>x.2)=vs.toArray:=hv;rw[e0,sizeLine_eq];omega
theorem we{l:Addr}{vs:List Value}{Q:Value->Shared->Prop}(hl:s.heap.IsList l vs.toArray)(h2:vs.length<64)
  (h:∀ a h1,s.heap.objs.size<=a->h1.get? a=some (seqObj "list" vs.toArray 0)->(∀ b o,s.heap.get? b=some o->h1.get? b=some o)->wpAny (model prog w) A.in1.in1 (Builtin.«list.sort» ⟨[.ref a],[]⟩) (λf s'=>f=.done (.ret .none)/\Q (.ref a) s') (λ_ _=>False) {s with heap:=h1}) :
  wpAny (model prog w) A (call (.builtin "sorted") [.ref l]) Q E s:=by
 refine Calls.call_function_entry kind_sorted plain_sorted entry_sorted (args_sorted1 _) ?_;unfold Builtin.«sorted»;refine Uw (m:=checkCount "sorted" 1 1 _) (UH ?_);refine Uw (collect_list hl (Uw (wpAny_newList ?_ (by rw[sizeLine_eq];omega))) (by rw[sizeLine_eq];omega));have hsz:((s.heap.push (seqObj "list" #[] 0)).update s.heap.objs.size (Obj.mapSeq (·++vs.toArray))).objs.size=s.heap.objs.size+1:=by rw[Heap.size_update,size_push']
 have oL:(((s.heap.push (seqObj "list" #[] 0)).update s.heap.objs.size (Obj.mapSeq (·++vs.toArray))).push (seqObj "list" vs.toArray 0)).get? (s.heap.objs.size+1)=some (seqObj "list" vs.toArray 0):=by rw[<- hsz];exact Heap.get?_push_size _ rfl
 have keep:∀ b o,s.heap.get? b=some o->(((s.heap.push (seqObj "list" #[] 0)).update s.heap.objs.size (Obj.mapSeq (·++vs.toArray))).push (seqObj "list" vs.toArray 0)).get? b=some o:=λb o q=>by have lt:b<s.heap.objs.size:=UF q;rw[Heap.get?_push_ne _ _ _ (by rw[hsz];exact Nat.ne_of_lt (Nat.lt_succ_of_lt lt)),Heap.get?_update_ne _ _ _ _ (Nat.ne_of_lt lt),Heap.get?_push_ne _ _ _ (Nat.ne_of_lt lt)];exact q
 show wpAny _ _ _ _ _ {s with heap:=((s.heap.push (seqObj "list" #[] 0)).update s.heap.objs.size (Obj.mapSeq (·++vs.toArray))).push (seqObj "list" vs.toArray 0) };rw[hsz];refine Uw (wpAny_holding (wpAny_call_entry slot_list_sort ⟨_,oL,rfl⟩ entry_list_sort (wpAny_mono (h _ _ (Nat.le_succ _) oL keep) (λf s1 ⟨e,q⟩=>?_) λ_ _ z=>z.elim) (args_list_sort _)));subst e;exact⟨_,rfl,UH ⟨_,rfl,q⟩⟩
end
section
variable{X:Cx}{gV:List (Addr×Obj)}{σ:St}{H:Hp}{s:Shared}
def Rr(K:Frag)(H:Hp)(v:V)(k:Int):Prop:=∃a y,v=.ref a/\PV K H a [.int k,y]
theorem NJ(I:PJ X gV σ H s){v:V}{u:Value}{k:Int}(h:Rr X.K H v k)(r:b8 v u):∃ a o t y n,u=.ref a/\s.heap.get? a=some o/\o.cls=.type "tuple"/\o.data=.seq #[.int k t,y] n:=by
 obtain⟨a,y,rfl,ht⟩:=h;cases r;obtain⟨its,rv,⟨o,e,c,n,d⟩,_⟩:=I.tuple ht
 cases rv with
 |cons h1 rv=>
  cases rv with
  |cons h2 rv=>cases rv;obtain⟨t,rfl⟩:=h1;exact⟨a,o,t,_,n,rfl,e,c,d⟩
theorem G9{h:Heap}:∀(its:List Value)(key:Nat->Int),(∀ i (hi:i < its.length),∃ a o t y n,its[i]=.ref a/\h.get? a=some o/\o.cls=.type "tuple"/\o.data=.seq #[.int (key i) t,y] n)->∃ fs,KatTups h its fs/\fs.length=its.length/\∀ f∈fs,∃ k t,f=Value.int k t
 |[],_,_=>⟨[],KatTups.nil,rfl,v6⟩
 | v::its,key,hk=>by
  obtain⟨a,o,t,y,n,e1,e2,e3,e4⟩:=hk 0 v6;obtain⟨fs,f1,f2,f3⟩:=G9 its (λi=>key (i+1)) λi hi=>hk (i+1) (by simpa using hi);have e1:v=.ref a:=e1;subst e1;refine⟨.int (key 0) t::fs,KatTups.cons e2 e3 e4 rfl f1,by simp[f2],λf hf=>?_⟩;rcases UK.mp hf with rfl|hf
  . exact⟨_,_,rfl⟩
  . exact f3 f hf
theorem A9(I:PJ X gV σ H s){p:Addr}{vs:List V}{key:Nat->Int}{Q:VK}(hq:PU X.K H p vs)(h64:vs.length<64)(hk:∀i (h:i<vs.length),Rr X.K H vs[i] (key i))(hj:∀a b,a<vs.length->b<vs.length->key a=key b->a=b)
  (h:∀(l:Addr)(q:List Nat),H l=none->q.Perm (List.range vs.length)->q.Pairwise (λi j=>key i<key j)->Q (.ref l) (Pv H l (.lst (q.map λi=>vs.getD i .non)))) :
  wpAny (model X.prog X.w) X.A (call (.builtin "sorted") [.ref p]) (EP X gV σ Q) X.xe s:=by
 obtain⟨its,r,pl,hz⟩:=I.list hq;have p4:its.length=vs.length:=r.length.symm;have rel:∀i (h:i<vs.length),b8 vs[i] (its[i]'(by omega)):=λi h=>by obtain⟨u,e1,e2⟩:=r.get (Ux h);rw[Ux xL]at e1;cases e1;exact e2
 have PR:∀(l:Addr)(h':Heap)(c:Nat)(q:List Nat),s.heap.objs.size<=l->PJ X gV σ H {s with heap:=h' }->h'.get? l=some (seqObj "list" (q.map λi=>its.getD i .none).toArray c)->q.Perm (List.range vs.length)->q.Pairwise (λi j=>key i < key j)->EP X gV σ Q (.ref l) {s with heap:=h' }:=λl h' c q hl I' ho qp qs=>by
  have nw:=I.newer hl;have hn:H l=none:=I.hok.fresh hl
  have rv:bO (q.map λi=>vs.getD i .non) (q.map λi=>its.getD i .none):=by
   have hm:∀i∈q,i<vs.length:=λi hi=>List.mem_range.mp (qp.mem_iff.mp hi);clear qp qs ho
   induction q with
   |nil=>exact .nil
   | cons i q ih =>
    refine .cons ?_ (ih λj hj=>hm j (tu _ hj));have hi:=hm i Uz;have e1:vs.getD i .non=vs[i]:=by simp[hi]
    have e2:its.getD i Value.none=its[i]'(by omega):=by simp[show i<its.length by omega]
    show b8 (vs.getD i .non) (its.getD i .none);rw[e1,e2];exact rel i hi
  have ql:q.length=vs.length:=by rw[qp.length_eq,List.length_range]
  exact⟨.ref l,_,I'.track hn nw.s0 nw.loc nw.cel nw.pin (show d3 X.prog X.w _ _ _ (.lst (q.map λi=>vs.getD i .non))from⟨by rw[UC,ql];exact hz,_,c,rv,ho⟩),rfl,h l q hn qp qs⟩
 refine we pl.isList xL λD h1 zD oD kD=>?_;by_cases h2:its.length<2
 .
  refine FM oD h2 λh' c ho k=>⟨rfl,PR D h' c (List.range vs.length) zD (I.kept λb o q=>k b o (Nat.ne_of_lt (UB (UF q) zD)) (kD b o q)) ?_ (List.Perm.refl _) ?_⟩
  .
   have e:(List.range vs.length).map (λi=>its.getD i .none)=its:=by refine List.ext_getElem (by simp[p4]) λi h1 h2=>?_;simp[show i<its.length from h2]
   rw[e];exact ho
  . rw[List.pairwise_iff_getElem];intro i j hi hj' hij;rw[List.length_range]at hi hj';omega
 .
  obtain⟨m,hn,_⟩:=id I.loc;have F:Fr (Att.noObjs s.heap) X.env.locals s.heap m:=⟨hn,λb o z=>(by rw[Att.noObjs_get]at z;cases z),Nat.zero_le _⟩;have hL:X.env.locals<s.heap.objs.size:=hn.lt;have lt:∀q∈nM (Att.noObjs s.heap) s.heap X.env.locals,q.1<D:=λq hq=>UB (UF (lx hq).2.2) zD;refine kat_list_sort (s:={s with heap:=h1}) (F.kept kD) (News.grown zd kD) oD (Nat.ne_of_gt (UB hL zD)) (Att.noObjs_get _ _) (λq hq=>Nat.ne_of_lt (lt q hq)) xL xL λe1 h' F' N'=>?_;have kp:∀b o,b≠X.env.locals->s.heap.get? b=some o->h'.get? b=some o:=λb o n0 q=>(N' (b,o) (.tail _ (l6 n0 (Att.noObjs_get _ _) q))).1;have tp:∀ i (h:i < its.length),∃ a o t y n,its[i]=.ref a/\h'.get? a=some o/\o.cls=.type "tuple"/\o.data=.seq #[.int (key i) t,y] n:=λi h=>by obtain⟨a,o,t,y,n,e1,e2,e3,e4⟩:=NJ I (hk i xL) (rel i xL);refine⟨a,o,t,y,n,e1,kp a o (λz=>?_) e2,e3,e4⟩;subst z;obtain⟨o',es,ep,q1,q2,_⟩:=hn;rw[q1]at e2;cases e2;rw[q2]at e4;cases e4
  have nw:=I.newer zD;have hDn:H D=none:=I.hok.fresh zD;obtain⟨fs,ft,fl,fi⟩:=G9 its key tp;refine kat_kind (T:=.type "int") ft xL (λv hv=>?_) rfl ?_
  . obtain⟨k,t,rfl⟩:=fi v hv;exact Looks.of_pure rfl
  rw[show(Value.type "int" != Value.type "tuple")=true from rfl]
  have hc:CV key its.length (λs'=>s'={s with heap:=h' }) (kas_ask X.prog X.w X.A.in1.in1 (tuples' true) its):=λi j C s1 hi hj' hij e hC=>by
   subst e;obtain⟨a,o,t,y,n,e1,e2,e3,e4⟩:=tp i hi;obtain⟨b,o',t',y',n',f1,f2,f3,f4⟩:=tp j hj';have g1:its.getD i Value.none=.ref a:=by simp[hi,e1]
   have g2:its.getD j Value.none=.ref b:=by simp[hj',f1]
   unfold kas_ask;rw[g1,g2];have ne:key i≠key j:=λz=>hij (hj i j xL xL z);refine kat_lt (s:={s with heap:=h' }) e2 e4 f2 f4 ?_;show KatLex _ _ _ _ _ _ [(Value.int (key i) t,Value.int (key j) t'),(y,y')] 0 _;refine kat_cons (wpAny_eqBool_int ?_);rw[show(key i == key j)=false from beq_eq_false_iff_ne.mpr ne];exact kat_no (oneLt_int (hC _ rfl))
  refine Jw hc (λa b ha hb z=>hj a b xL xL z) xL _ _ rfl λp s1 es ⟨g,u⟩=>?_;subst es;refine KasFin.intro F' N' (.head λq hq=>Nat.ne_of_lt (lt q hq)) λh2 c F2 N2=>⟨rfl,?_⟩
  have qs:p.toList.Pairwise λi j=>key i<key j:=by
   rw[List.pairwise_iff_getElem];intro i j hi hj' hij;have hi':i<p.size:=by simpa using hi
   have hj2:j<p.size:=by simpa using hj'
   have:=u i j hij (by rw[<- g.sz];exact hj2);unfold kk at this;rw[show p.getD i 0=p[i] by simp[Array.getD,hi'],show p.getD j 0=p[j] by simp[Array.getD,hj2]]at this;simpa using this
  refine PR D h2 c p.toList zD ?_ (N2 _ (.head _)).1 (by rw[<- p4];exact g.pm) qs;refine I.two (t':=s.toks) nw nw hDn hDn (λb o n0 n1 _ q=>(N2 (b,o) (.tail _ (l6 n0 (Att.noObjs_get _ _) q))).1) λm2 hm2=>?_;have e1:=hm2.eq_nsMap;have e2:=hn.eq_nsMap;rw[e1,<- e2];exact F2.ns
theorem wg:jI X (.builtin "sorted") (λxs H Q=>∃(p:Addr)(vs:List V)(key:Nat->Int),xs=[.ref p]/\PU X.K H p vs/\vs.length < 64/\(∀ i (h:i < vs.length),Rr X.K H vs[i] (key i))/\(∀ a b,a < vs.length->b < vs.length->key a=key b->a=b) /\
  ∀(l:Addr)(q:List Nat),H l=none->q.Perm (List.range vs.length)->q.Pairwise (λi j=>key i<key j)->Q (.ref l) (Pv H l (.lst (q.map λi=>vs.getD i .non)))):=by
 intro gV s σ H xs us Q I r h;obtain⟨p,vs,key,rfl,hq,h64,hk,hj,q⟩:=h;obtain⟨u,rfl,rx⟩:=tZ r;cases rx;exact A9 I hq h64 hk hj q
end
noncomputable def Rt(x:Int×D):D:=.tup [.int x.1,x.2]
def CZ:QJ:=λds k=>∃ps:List (Int×D),ds=[.lst (ps.map Rt)]/\ps.length<64/\(ps.map (·.1)).Nodup/\∀(a:Addr)(out:List (Int×D)),out.Perm ps->out.Pairwise (λx y=>x.1<y.1)->k (.own a (out.map Rt))
theorem bA.at{K:Frag}{H:Hp}{vs:List V}{ds:List D}(r:bA K H vs ds){i:Nat}(h1:i<vs.length)(h2:i<ds.length):Qs K H vs[i] ds[i]:=by obtain⟨v,e1,e2⟩:=r.get (Ux h2);rw[Ux h1]at e1;cases e1;exact e2
theorem FN{X:Cx}:gF X (.builtin "sorted") CZ:=gF.of wg λσ H Pr Z vs ds so E ps ⟨prs,e,h64,nd,h⟩=>by
 subst e;obtain⟨v,rfl,r⟩:=p7 ps
 cases r with
 | @lst a ws _ hz rs =>
  have hl:ws.length=prs.length:=by simpa using rs.length
  refine⟨_,ws,λi=>(prs.getD i (0,.non)).1,rfl,hz.l,xL,λi hi=>?_,λa b ha hb z=>?_,λl q hn qp qs=>?_⟩
  .
   have hi':i<prs.length:=by omega
   have:=rs.at hi (by simpa using hi');rw[List.getElem_map]at this;have e:prs.getD i (0,.non)=prs[i]:=by simp[hi']
   show Rr X.K H ws[i] (prs.getD i (0,.non)).1;rw[e]
   revert this
   generalize ws[i]=w;intro this;unfold Rt at this
   cases this with
   | tup hs rr =>
    cases rr with
    | cons r0 rr =>
     cases r0
     cases rr with
     | cons r1 rr =>
      cases rr;exact⟨_,_,rfl,hs⟩
  .
   have ha':a<prs.length:=by omega
   have hb':b<prs.length:=by omega
   have e1:prs.getD a (0,.non)=prs[a]:=by simp[ha']
   have e2:prs.getD b (0,.non)=prs[b]:=by simp[hb']
   have z:(prs.getD a (0,.non)).1=(prs.getD b (0,.non)).1:=z;rw[e1,e2]at z;have:=(List.getElem_inj nd (i:=a) (j:=b) (h₀:=by simpa using ha') (h₁:=by simpa using hb')).mp (by simpa using z);exact this
  .
   have hm:∀i∈q,i<ws.length:=λi hi=>List.mem_range.mp (qp.mem_iff.mp hi);have er:(List.range prs.length).map (λi=>prs.getD i (0,.non))=prs:=by refine List.ext_getElem v6 λi h1 h2=>?_;simp[show i<prs.length from h2]
   have op:(q.map λi=>prs.getD i (0,.non)).Perm prs:=by have:=qp.map λi=>prs.getD i (0,.non);rw[hl,er]at this;exact this
   have os:(q.map λi=>prs.getD i (0,.non)).Pairwise λx y=>x.1<y.1:=by rw[List.pairwise_map];exact qs
   have rr:bA X.K H (q.map λi=>ws.getD i .non) ((q.map λi=>prs.getD i (0,.non)).map Rt):=by
    clear qp qs op os
    induction q with
    |nil=>exact .nil
    | cons i q ih =>
     have hi:=hm i Uz;have hi':i<prs.length:=by omega
     refine .cons ?_ (ih λj hj=>hm j (tu _ hj));have:=rs.at hi (by simpa using hi');rw[List.getElem_map]at this;show Qs X.K H (ws.getD i .non) (Rt (prs.getD i (0,.non)));rw[show ws.getD i .non=ws[i] by simp[hi],show prs.getD i (0,.non)=prs[i] by simp[hi']];exact this
   exact⟨_,E.cons_own hn rr,h l _ op os⟩
end L2
namespace L2
open PySem
theorem dE{g:Tg}{b:W Fl}{so:Fl->Ev->Prop}:∀(xs:List D)(I:Nat->Ev->Prop)(Z:Ev),I 0 Z ->
  (∀j x Z,xs[j]?=some x->I j Z->∀Q:Fl->Ev->Prop,(∀Z',I (j+1) Z'->Q .nx Z')->(∀Z',I (j+1) Z'->Q .ct Z')->(∀Z',so .nx Z'->Q .bk Z')->(∀r Z',so (.rt r) Z'->Q (.rt r) Z')->g x Z λZ1=>b Z1 Q) ->
  (∀Z,I xs.length Z->so .nx Z)->d6 g b xs Z so
 |[],I,Z,h0,_,PR=>PR Z h0
 | x::xs,I,Z,h0,step,PR=>by
  unfold d6;refine step 0 x Z rfl h0 _ (λZ' h=>?_) (λZ' h=>?_) (λZ' h=>h) (λr Z' h=>h)
  . exact dE xs (λj=>I (j+1)) Z' h (λj y Z e hi=>step (j+1) y Z e hi) PR
  . exact dE xs (λj=>I (j+1)) Z' h (λj y Z e hi=>step (j+1) y Z e hi) PR
theorem kP{α:Type}{enc:α->D}{g:Tg}{b:W Fl}{so:Fl->Ev->Prop}(as:List α)(I:List α->Ev->Prop)(Z:Ev)(h0:I [] Z)
  (step:∀pre a suf Z,as=pre++a::suf->I pre Z->∀Q:Fl->Ev->Prop,(∀Z',I (pre++[a]) Z'->Q .nx Z')->(∀Z',I (pre++[a]) Z'->Q .ct Z')->(∀Z',so .nx Z'->Q .bk Z')->(∀r Z',so (.rt r) Z'->Q (.rt r) Z')->g (enc a) Z λZ1=>b Z1 Q)
  (PR:∀Z,I as Z->so .nx Z):d6 g b (as.map enc) Z so:=by
 refine dE _ (λj Z=>I (as.take j) Z) Z h0 (λj x Z e hi Q h1 h2 h3 h4=>?_) λZ h=>PR Z (by simpa using h);rw[List.getElem?_map]at e
 cases ea:as[j]? with
 |none=>rw[ea]at e;cases e
 | some a =>
  rw[ea]at e;cases e;obtain⟨hj,ea'⟩:=UA.mp ea;have es:as.take (j+1)=as.take j++[a]:=by rw[List.take_succ,ea];rfl
  have ed:as=as.take j++a::as.drop (j+1):=by have:=(List.take_append_drop j as).symm;rw[List.drop_eq_getElem_cons hj,ea']at this;exact this
  rw[es]at h1 h2;exact step _ a _ Z ed hi Q h1 h2 h3 h4
theorem qo{α:Type}{enc:α->D}{h:α->Option D}{caps:Ev}{ti:W Bool}{te:W L}{k:List D->Ev->Prop}:∀(as:List α)(acc:List D)(l:L),
  (∀a∈as,∀Q:Ev->Option D->Prop,Q (.d (enc a)::caps) (h a)->ti (.d (enc a)::caps) λb Z2=>if b=true then te Z2 λr Z3=>Qv r λy=>Q Z3 (some y)else Q Z2 none) ->
  (∀l',k (acc++as.filterMap h) (l'::caps))->dz (bu 0) ti te (as.map enc) (l::caps) acc k
 |[],acc,l,_,PR=>by have:=PR l;simpa[dz]using this
 | a::as,acc,l,step,PR=>by
  show dz (bu 0) ti te (enc a::as.map enc) (l::caps) acc k;unfold dz;show ti (.d (enc a)::caps) _
  refine step a Uz (λZ o=>match o with|some y=>dz (bu 0) ti te (as.map enc) Z (acc++[y]) k|none=>dz (bu 0) ti te (as.map enc) Z acc k) ?_
  cases e:h a with
  |none=>exact qo as acc _ (λb hb=>step b (tu _ hb)) (by simpa[List.filterMap_cons,e]using PR)
  |some y=>exact qo as (acc++[y]) _ (λb hb=>step b (tu _ hb)) (by simpa[List.filterMap_cons,e]using PR)
theorem gO{α:Type}{enc:α->D}{h:α->D}{caps:Ev}{te:W L}{k:List D->Ev->Prop}(as:List α)(acc:List D)(l:L)
  (step:∀a∈as,∀Q:Ev->D->Prop,Q (.d (enc a)::caps) (h a)->te (.d (enc a)::caps) λr Z3=>Qv r λy=>Q Z3 y)
  (PR:∀l',k (acc++as.map h) (l'::caps)):dz (bu 0) g6 te (as.map enc) (l::caps) acc k:=by
 refine qo (h:=λa=>some (h a)) as acc l (λa ha Q q=>?_) (by simpa using PR);simp only[g6,if_true];exact step a ha (λZ y=>Q Z (some y)) q
theorem nW{α:Type}{e1 e2:α->D}{h:α->Option D}{caps:Ev}{ti:W Bool}{te:W L}{k:List D->Ev->Prop}:∀(as:List α)(acc:List D)(l m:L),
  (∀a∈as,∀Q:Ev->Option D->Prop,Q (.d (e1 a)::.d (e2 a)::caps) (h a)->ti (.d (e1 a)::.d (e2 a)::caps) λb Z2=>if b=true then te Z2 λr Z3=>Qv r λy=>Q Z3 (some y)else Q Z2 none) ->
  (∀l' m',k (acc++as.filterMap h) (l'::m'::caps))->dz (cn [0,1]) ti te (as.map λa=>D.tup [e1 a,e2 a]) (l::m::caps) acc k
 |[],acc,l,m,_,PR=>by have:=PR l m;simpa[dz]using this
 | a::as,acc,l,m,step,PR=>by
  show dz (cn [0,1]) ti te (D.tup [e1 a,e2 a]::as.map λa=>D.tup [e1 a,e2 a]) (l::m::caps) acc k;unfold dz;show ti (.d (e1 a)::.d (e2 a)::caps) _
  refine step a Uz (λZ o=>match o with|some y=>dz (cn [0,1]) ti te (as.map λa=>D.tup [e1 a,e2 a]) Z (acc++[y]) k|none=>dz (cn [0,1]) ti te (as.map λa=>D.tup [e1 a,e2 a]) Z acc k) ?_
  cases e:h a with
  |none=>exact nW as acc _ _ (λb hb=>step b (tu _ hb)) (by simpa[List.filterMap_cons,e]using PR)
  |some y=>exact nW as (acc++[y]) _ _ (λb hb=>step b (tu _ hb)) (by simpa[List.filterMap_cons,e]using PR)
theorem qq{α:Type}{e1 e2:α->D}{h:α->D}{caps:Ev}{te:W L}{k:List D->Ev->Prop}(as:List α)(acc:List D)(l m:L)
  (step:∀a∈as,∀Q:Ev->D->Prop,Q (.d (e1 a)::.d (e2 a)::caps) (h a)->te (.d (e1 a)::.d (e2 a)::caps) λr Z3=>Qv r λy=>Q Z3 y)
  (PR:∀l' m',k (acc++as.map h) (l'::m'::caps)):dz (cn [0,1]) g6 te (as.map λa=>D.tup [e1 a,e2 a]) (l::m::caps) acc k:=by
 refine nW (h:=λa=>some (h a)) as acc l m (λa ha Q q=>?_) (by simpa using PR);simp only[g6,if_true];exact step a ha (λZ y=>Q Z (some y)) q
theorem ya{α:Type}{x:α}{xs:List α}:Qf (x::xs) 0=some x:=iP (j:=0) rfl
theorem yb{α:Type}{x y:α}{xs:List α}:Qf (x::y::xs) 1=some y:=iP (j:=1) rfl
theorem Md{α:Type}{x y z:α}{xs:List α}:Qf (x::y::z::xs) 2=some z:=iP (j:=2) rfl
theorem Me{α:Type}{x y z w:α}{xs:List α}:Qf (x::y::z::w::xs) 3=some w:=iP (j:=3) rfl
theorem NK{α:Type}{x y z w v:α}{xs:List α}:Qf (x::y::z::w::v::xs) 4=some v:=iP (j:=4) rfl
theorem Mf{α:Type}{xs:List α}{i:Int}{x:α}(h0:0<=i)(h:xs[i.toNat]?=some x):Qf xs i=some x:=by have:=iP h;rwa [Int.toNat_of_nonneg h0]at this
theorem ba{α:Type}{f:α->D}{xs:List α}{k:Nat}(h:k<xs.length):Qf (xs.map f) (k:Int)=some (f xs[k]):=iP (by rw[List.getElem?_map,Ux h];rfl)
theorem O6:Qe 3 0=some 0:=by decide
theorem O7:Qe 3 1=some 1:=by decide
theorem O8:Qe 3 2=some 2:=by decide
theorem m9(n:Nat):rW 0 n=(List.range n).map λ(i:Nat)=>D.int (i:Int):=by unfold rW;simp
theorem zW{g:Tg}{b:W Fl}{so:Fl->Ev->Prop}(lo:Int)(n:Nat)(I:Nat->Ev->Prop)(Z:Ev)(h0:I 0 Z)
  (step:∀j Z,j<n->I j Z->∀Q:Fl->Ev->Prop,(∀Z',I (j+1) Z'->Q .nx Z')->(∀Z',I (j+1) Z'->Q .ct Z')->(∀Z',so .nx Z'->Q .bk Z')->(∀r Z',so (.rt r) Z'->Q (.rt r) Z')->g (.int (lo+(j:Int))) Z λZ1=>b Z1 Q)
  (PR:∀Z,I n Z->so .nx Z):d6 g b (rW lo n) Z so:=by
 have hl:(rW lo n).length=n:=by simp[rW]
 refine dE _ I Z h0 (λj x Z hj hi Q h1 h2 h3 h4=>?_) λZ h=>PR Z (by rwa [hl]at h);have hj':j<n:=by rw[<- hl];exact(UA.mp hj).1
 have e:x=.int (lo+(j:Int)):=by unfold rW at hj;rw[List.getElem?_map,List.getElem?_range hj']at hj;exact(Option.some.inj hj).symm
 subst e;exact step j Z hj' hi Q h1 h2 h3 h4
theorem qr{g:Tg}{b:W Fl}{so:Fl->Ev->Prop}(n:Nat)(I:Nat->Ev->Prop)(Z:Ev)(h0:I 0 Z)
  (step:∀j Z,j<n->I j Z->∀Q:Fl->Ev->Prop,(∀Z',I (j+1) Z'->Q .nx Z')->(∀Z',I (j+1) Z'->Q .ct Z')->(∀Z',so .nx Z'->Q .bk Z')->(∀r Z',so (.rt r) Z'->Q (.rt r) Z')->g (.int (j:Int)) Z λZ1=>b Z1 Q)
  (PR:∀Z,I n Z->so .nx Z):d6 g b (rW 0 n) Z so :=
 zW 0 n I Z h0 (λj Z hj hi Q h1 h2 h3 h4=>by rw[Int.zero_add];exact step j Z hj hi Q h1 h2 h3 h4) PR
theorem bK{i:Int}(h:i.natAbs<2^200):cQ i:=UB h (Nat.pow_le_pow_right x_ x_)
theorem ng(x:Int){m:Int}(h:0<m):0<=x.fmod m/\x.fmod m<m:=by rw[Int.fmod_eq_emod_of_nonneg _ xL];exact⟨Int.emod_nonneg _ xL,Int.emod_lt_of_pos _ h⟩
theorem yc{i:Int}{n:Nat}(h0:0<=i)(h:i<2^n)(hn:n<=1000000):cQ i:=by
 have:i.natAbs<2^n:=by
  have e:((2^n:Nat):Int)=(2:Int)^n:=by simp
  omega
 exact UB this (Nat.pow_le_pow_right x_ hn)
theorem NL:(10:Int)^60<2^200:=by decide
theorem wj{i:Int}(h0:0<=i)(h:i<=10^60):i.natAbs<2^9000:=by
 have:i.natAbs<2^200:=by
  have:=NL;have e:((2^200:Nat):Int)=(2:Int)^200:=by decide
  omega
 exact UB this (Nat.pow_le_pow_right x_ x_)
theorem RB.sub{m n:Nat}{p q:Rat}(hp:RB m p)(hq:RB n q):RB (m+n+1) (p-q):=by rw[Rat.sub_eq_add_neg];exact hp.add hq.neg
theorem Ha(p q:Rat):Rat.divInt (p.num*q.num) ((p.den:Int)*(q.den:Int))=p*q:=by rw[<- Rat.divInt_mul_divInt,Rat.num_divInt_den,Rat.num_divInt_den]
theorem RB.of_divInt{t b:Int}{n:Nat}(h:b≠0)(ht:t.natAbs<2^n)(hb:b.natAbs<2^n):RB n (Rat.divInt t b):=⟨UI (G2 h) ht,UI (Cs h) hb⟩
theorem nX(p q:Rat):((p.den:Int)*(q.den:Int))≠0:=by have dp:=den_pos p;have dq:=den_pos q;exact Int.mul_ne_zero xL xL
theorem kQ(p q:Rat):((p.den:Int)*(q.den:Int)).natAbs=p.den*q.den:=by rw[Int.natAbs_mul,Int.natAbs_natCast,Int.natAbs_natCast]
theorem RB.mul{m n:Nat}{p q:Rat}(hp:RB m p)(hq:RB n q):RB (m+n) (p*q):=by rw[<- Ha];exact RB.of_divInt (nX p q) (by rw[Int.natAbs_mul];exact bj hp.1 hq.1) (by rw[kQ];exact bj hp.2 hq.2)
theorem yd(q:Rat):(q.den:Int)≠0:=by have:=den_pos q;omega
theorem RB.zero:RB 1 0:=⟨x_,x_⟩
theorem Mg(p q:Rat):decide (p.num*(q.den:Int)<q.num*(p.den:Int))=decide (p<q):=by rw[decide_eq_decide,Rat.lt_iff]
structure Ru where
 nm:Str
 one:Nat
 other:Nat
 size:Rat
structure aL where
 rooms:List Rat
 asks:List Ru
noncomputable def aL.n(R:aL):Nat:=R.rooms.length
noncomputable def eM(a:Ru):D:=.tup [.str a.nm,.int a.one,.int a.other,QS a.size]
noncomputable def aP(R:aL):D:=.tup [.lst (R.rooms.map QS),.lst (R.asks.map eM)]
theorem C0(q:Rat):(q.num:Rat)=q*(q.den:Rat):=by
 have h:=Rat.num_divInt_den q;have hd:(q.den:Rat)≠0:=λw=>by have:=Rat.natCast_pos.mpr q.den_pos;rw[w]at this;exact absurd this x_
 rw[Rat.divInt_eq_div]at h;have e:(((q.den:Nat):Int):Rat)=(q.den:Rat):=rfl;rw[e]at h;have e2:q*(q.den:Rat)=(q.num:Rat) / (q.den:Rat)*(q.den:Rat):=by rw[h]
 rw[e2,Rat.div_mul_cancel hd]
theorem C1{q:Rat}{V:Nat}(h0:0<=q)(hv:q<(V:Rat)):q.num.natAbs<V*q.den:=by
 have hd:(0:Rat)<(q.den:Rat):=Rat.natCast_pos.mpr q.den_pos;have h1:q*(q.den:Rat)<(V:Rat)*(q.den:Rat):=Rat.mul_lt_mul_of_pos_right hv hd;rw[<- C0]at h1
 have h2:((q.num:Int):Rat)<(((V*q.den:Nat):Int):Rat):=by
  have e:(((V*q.den:Nat):Int):Rat)=(V:Rat)*(q.den:Rat):=by push_cast;rfl
  rw[e];exact h1
 have h3:q.num<((V*q.den:Nat):Int):=Rat.intCast_lt_intCast.mp h2;have h4:0<=q.num:=Rat.num_nonneg.mpr h0;omega
theorem RB.of_val{q:Rat}{d v:Nat}(h0:0<=q)(hd:q.den<2^d)(hv:q<((2^v:Nat):Rat)):RB (v+d) q:=by refine⟨UB (C1 h0 hv) ?_,UB hd (Nat.pow_le_pow_right x_ xL)⟩;rw[Nat.pow_add];exact Nat.mul_le_mul_left _ (Nat.le_of_lt hd)
structure nY (n:Nat) (a:Ru):Prop where
 one:a.one<n
 other:a.other<n
 ne:a.one≠a.other
 size:0<=a.size
 lt:a.size<((2^300:Nat):Rat)
 nm:PyData.strOk a.nm=true
structure aL.Ok (R:aL):Prop where
 lo:2<=R.n
 hi:R.n<=12
 few:R.asks.length<=20
 room:∀q∈R.rooms,0<q/\RB 60 q
 ask:∀a∈R.asks,nY R.n a
 cd:∃D:Nat,0<D/\D<2^1240/\∀a∈R.asks,a.size.den∣D
theorem aL.Ok.rb{R:aL}(h:R.Ok){a:Ru}(ha:a∈R.asks):RB 1540 a.size:=by obtain⟨D,d0,d1,hd⟩:=h.cd;exact RB.of_val (v:=300) (d:=1240) (h.ask a ha).size (UI (Nat.le_of_dvd d0 (hd a ha)) d1) (h.ask a ha).lt
theorem uu{α:Type}{n:Nat}{f:α->D}:∀xs:List α,(∀x∈xs,QT n (f x)=true)->Eh n (xs.map f)=true
 |[],_=>rfl
 |x::xs,h=>by simp[Eh,h x Uz,uu xs λy hy=>h y (tu _ hy)]
def BC(xs:List D):Prop:=∃(c sd:Int)(t:Bool),xs=[.int c,.int sd,.bl t]/\0<=sd/\sd<2147483647
theorem zX{t b g:Int}(h:b≠0)(e:g=cJ t b):D.tup [.int (t.fdiv g),.int (b.fdiv g)]=QS (Rat.divInt t b):=by subst e;rw[Cr h,IS h];rfl
noncomputable def Mh(qs:List Rat):Nat:=(qs.map (·.den)).foldr (·*·) 1
theorem zY:∀qs:List Rat,0<Mh qs
 |[]=>Nat.one_pos
 |a::t=>Nat.mul_pos (den_pos a) (zY t)
noncomputable def gG(qs:List Rat):Rat:=qs.foldl (·+·) 0
theorem C2(qs:List Rat):∀acc:Rat,qs.foldl (·+·) acc=acc+gG qs:=by
 unfold gG
 induction qs with
 |nil=>intro acc;simp[Rat.add_zero]
 |cons q qs ih=>intro acc;rw[List.foldl_cons,List.foldl_cons,ih,ih (0+q),Rat.zero_add,Rat.add_assoc]
theorem aQ(q:Rat)(qs:List Rat):gG (q::qs)=q+gG qs:=by show(q::qs).foldl (·+·) 0=_;rw[List.foldl_cons,C2,Rat.zero_add]
theorem FO(as bs:List Rat):gG (as++bs)=gG as+gG bs:=by
 induction as with
 |nil=>rw[List.nil_append];show _=(0:Rat)+_;rw[Rat.zero_add]
 |cons a as ih=>rw[List.cons_append,aQ,aQ,ih,Rat.add_assoc]
theorem FP(qs:List Rat):gG (qs.map λq=>-q)=-gG qs:=by
 induction qs with
 |nil=>show(0:Rat)=-0;simp
 |cons q qs ih=>rw[List.map_cons,aQ,aQ,ih,Rat.neg_add]
theorem FQ{α β:Type}(f:α->β)(xs:List α)(l u:Option Int):Cm (xs.map f) l u=(Cm xs l u).map f:=by unfold Cm;rw[UC,<- List.map_drop,<- List.map_take]
theorem FR{xs:List D}{i:Int}{k:L->Prop}:aK (.lst xs) (.int i) k=∃v,Qf xs i=some v/\k (.d v):=rfl
theorem FT{xs:List D}{i:Int}{k:L->Prop}:aK (.tup xs) (.int i) k=∃v,Qf xs i=some v/\k (.d v):=rfl
theorem FU{z:Str}{i:Int}{k:L->Prop}:aK (.str z) (.int i) k=(z.length<=sizeLine/\∃c,Qf z.cps.toList i=some c/\k (.d (.str ⟨#[c]⟩))):=rfl
theorem FV{R:aL}{k:L->Prop}:aK (aP R) (.int 0) k=k (.d (.lst (R.rooms.map QS))):=by show(∃v,Qf _ _=some v/\_)=_;simp only[ya,Option.some.injEq,exists_eq_left']
theorem FW{R:aL}{k:L->Prop}:aK (aP R) (.int 1) k=k (.d (.lst (R.asks.map eM))):=by show(∃v,Qf _ _=some v/\_)=_;simp only[yb,Option.some.injEq,exists_eq_left']
theorem Jx{a:Ru}{k:L->Prop}:aK (eM a) (.int 0) k=k (.d (.str a.nm)):=by show(∃v,Qf _ _=some v/\_)=_;simp only[ya,Option.some.injEq,exists_eq_left']
theorem Jy{a:Ru}{k:L->Prop}:aK (eM a) (.int 1) k=k (.d (.int a.one)):=by show(∃v,Qf _ _=some v/\_)=_;simp only[yb,Option.some.injEq,exists_eq_left']
theorem Jz{a:Ru}{k:L->Prop}:aK (eM a) (.int 2) k=k (.d (.int a.other)):=by show(∃v,Qf _ _=some v/\_)=_;simp only[Md,Option.some.injEq,exists_eq_left']
theorem JA{a:Ru}{k:L->Prop}:aK (eM a) (.int 3) k=k (.d (QS a.size)):=by show(∃v,Qf _ _=some v/\_)=_;simp only[Me,Option.some.injEq,exists_eq_left']
theorem Mi{q:Rat}{k:L->Prop}:aK (QS q) (.int 0) k=k (.d (.int q.num)):=by show(∃v,Qf _ _=some v/\_)=_;simp only[ya,Option.some.injEq,exists_eq_left']
theorem Mj{q:Rat}{k:L->Prop}:aK (QS q) (.int 1) k=k (.d (.int (q.den:Int))):=by show(∃v,Qf _ _=some v/\_)=_;simp only[yb,Option.some.injEq,exists_eq_left']
theorem Hb(q:Rat):QW (QS q)=true:=by simp[QS,QW,rX]
theorem pR{α:Type}{f:α->D}:∀(xs:List α),(∀x∈xs,QW (f x)=true)->rX (xs.map f)=true
 |[],_=>rfl
 |x::xs,h=>by simp[rX,h x Uz,pR xs λy hy=>h y (tu _ hy)]
theorem zZ(qs:List Rat):rX (qs.map QS)=true:=pR _ λq _=>Hb q
theorem C3{α:Type}(f:α->Int)(xs:List α):rX (xs.map λx=>D.int (f x))=true:=pR _ λ_ _=>rfl
theorem C4(R:aL):R.rooms.length=R.n:=rfl
noncomputable def dA(w:Bool):Str:=if w then "on" else "back"
theorem z6:cH (.str "on"):=eL (n:=0) y_ x_
theorem tw:cH (.str "back"):=eL (n:=0) y_ x_
theorem eY(w:Bool):cH (.str (dA w)):=by
 cases w
 . exact tw
 . exact z6
theorem Ml(w:Bool):(dA w="on")=(w=true):=by cases w <;> simp[dA] <;> decide
theorem FY(w:Bool):(dA w="back")=(w=false):=by cases w <;> simp[dA] <;> decide
theorem wk{is:List Nat}{xs:List D}{Z:Ev}{k:Ev->Prop}:cn is (.tup xs) Z k=iS is xs Z k:=rfl
theorem C5{is:List Nat}{a:Ru}{Z:Ev}{k:Ev->Prop}:cn is (eM a) Z k=iS is [.str a.nm,.int a.one,.int a.other,QS a.size] Z k:=rfl
theorem FZ{is:List Nat}{q:Rat}{Z:Ev}{k:Ev->Prop}:cn is (QS q) Z k=iS is [.int q.num,.int (q.den:Int)] Z k:=rfl
theorem F0{α:Type}{xs:List α}{k:Nat}(h:k<=xs.length):Cm xs (some (k:Int)) none=xs.drop k:=by unfold Cm HT.sIx;simp only[if_neg (show ¬((k:Int)<0) by omega),Int.toNat_natCast,Nat.min_eq_left h];rw[List.take_of_length_le];rw[List.length_drop];exact UJ _
theorem ye{xs:List D}{k:List D->Prop}:l9 (.lst xs) k=k xs:=rfl
theorem yf{xs:List D}{k:List D->Prop}:l9 (.tup xs) k=k xs:=rfl
theorem Ba{q:Rat}{k:List D->Prop}:l9 (QS q) k=k [.int q.num,.int (q.den:Int)]:=rfl
theorem C6{xs:List D}{k:L->Prop}:fh [.lst xs] k=k (.d (.int xs.length)):=rfl
theorem C7{xs:List D}{k:L->Prop}:fh [.tup xs] k=k (.d (.int xs.length)):=rfl
theorem C8{x:Str}{k:L->Prop}:fh [.str x] k=(x.length<=sizeLine/\k (.d (.int x.length))):=rfl
theorem F4{q:Rat}{k:L->Prop}:fh [QS q] k=k (.d (.int 2)):=rfl
theorem Bb{R:aL}{k:L->Prop}:fh [aP R] k=k (.d (.int 2)):=rfl
theorem C9{a:Ru}{k:L->Prop}:fh [eM a] k=k (.d (.int 4)):=rfl
theorem yg(q:Rat):mY "tuple" (QS q)=true:=rfl
theorem yh(q:Rat):mY "list" (QS q)=false:=rfl
theorem yi(q:Rat):mY "int" (QS q)=false:=rfl
theorem wo(q:Rat):mY "bool" (QS q)=false:=rfl
theorem yj(q:Rat):mY "str" (QS q)=false:=rfl
theorem uv(R:aL):mY "tuple" (aP R)=true:=rfl
noncomputable def Rv(n:Nat)(f:Nat->Rat):List D:=(List.range n).map λ(t:Nat)=>QS (f t)
theorem JB(n:Nat)(f:Nat->Rat):(Rv n f).length=n:=by simp[Rv]
theorem Hc{n:Nat}{f:Nat->Rat}{t:Nat}(h:t<n):Qf (Rv n f) (t:Int)=some (QS (f t)):=by refine iP ?_;unfold Rv;rw[List.getElem?_map,List.getElem?_range h];rfl
theorem JC(n:Nat)(f:Nat->Rat):Rv n f=((List.range n).map f).map QS:=by unfold Rv;rw[List.map_map];rfl
theorem F5(n:Nat)(f:Nat->Rat):rX (Rv n f)=true:=by rw[JC];exact zZ _
noncomputable def yk(c:Nat×Nat):D:=.tup [.int (c.1:Int),.int (c.2:Int)]
theorem JD{c:Nat×Nat}{k:L->Prop}:aK (yk c) (.int 0) k=k (.d (.int c.1)):=by show(∃v,Qf _ _=some v/\_)=_;simp only[ya,Option.some.injEq,exists_eq_left']
theorem JE{c:Nat×Nat}{k:L->Prop}:aK (yk c) (.int 1) k=k (.d (.int c.2)):=by show(∃v,Qf _ _=some v/\_)=_;simp only[yb,Option.some.injEq,exists_eq_left']
theorem JF(n:Nat)(c:Nat×Nat):QT (n+1) (yk c)=true:=by cases n<;>simp[yk,QT,Eh]
theorem Da(c:Nat×Nat):QW (yk c)=true:=by simp[yk,QW,rX]
theorem Dc(c:Nat×Nat):cH (yk c):=eL (JF 0 c) x_
theorem JG(c d:Nat×Nat):QI (yk c) (yk d)=decide (c=d):=by
 unfold yk;rw[Cv,jY,jY,uj,qa,qa,Bool.and_true,<- Bool.decide_and,decide_eq_decide];constructor
 . rintro⟨h1,h2⟩;exact Prod.ext xL xL
 . rintro rfl;exact⟨rfl,rfl⟩
noncomputable def gP(g:Rat×(Nat×Nat)):D:=.tup [QS g.1,yk g.2]
theorem NM{g:Rat×(Nat×Nat)}{k:L->Prop}:aK (gP g) (.int 0) k=k (.d (QS g.1)):=by show(∃v,Qf _ _=some v/\_)=_;simp only[ya,Option.some.injEq,exists_eq_left']
theorem NN{g:Rat×(Nat×Nat)}{k:L->Prop}:aK (gP g) (.int 1) k=k (.d (yk g.2)):=by show(∃v,Qf _ _=some v/\_)=_;simp only[yb,Option.some.injEq,exists_eq_left']
theorem F6(T:String):mY T .non=(T == "NoneType"):=rfl
theorem JH(T:String)(b:Bool):mY T (.bl b)=(T == "bool" ||T == "int"):=rfl
theorem F7(T:String)(i:Int):mY T (.int i)=(T == "int"):=rfl
theorem F8(T:String)(x:Str):mY T (.str x)=(T == "str"):=rfl
theorem Ga(T:String)(xs:List D):mY T (.tup xs)=(T == "tuple"):=rfl
theorem Gb(T:String)(xs:List D):mY T (.lst xs)=(T == "list"):=rfl
theorem Bc(g:Rat×(Nat×Nat)):mY "tuple" (gP g)=true:=rfl
theorem wq(c:Nat×Nat):mY "tuple" (yk c)=true:=rfl
theorem wu(a:Ru):mY "tuple" (eM a)=true:=rfl
theorem Dd{c:Nat×Nat}{k:L->Prop}:fh [yk c] k=k (.d (.int 2)):=rfl
theorem JI{c:Rat×(Nat×Nat)}{k:L->Prop}:fh [gP c] k=k (.d (.int 2)):=rfl
theorem De(cs:List (Nat×Nat)):rX (cs.map yk)=true:=pR _ λc _=>Da c
end L2
namespace L2
open PySem PySem.Builtin.Str
def Df(c:Nat):Prop:=97<=c/\c<=122
structure OB (z:Str):Prop where
 lo:1<=z.cps.toList.length
 hi:z.cps.toList.length<=8
 let_:∀c∈z.cps.toList,Df c
theorem OB.ok{z:Str}(h:OB z):PyData.strOk z=true:=by unfold PyData.strOk;rw[<- Array.all_toList,List.all_eq_true];intro c hc;have:=h.let_ c hc;unfold Df at this;simp;omega
theorem Gc{q:Rat}(h:RB 60 q):q<((2^300:Nat):Rat):=by
 have h1:=C0 q;have hd:(1:Rat)<=(q.den:Rat):=by have:=q.den_pos;exact_mod_cast this
 have h2:(q.num:Rat)<((2^300:Nat):Rat):=by
  have h3:q.num<((2^300:Nat):Int):=by have:=UB h.1 (Nat.pow_le_pow_right (show 0<2 by decide) (show 60<=300 by decide));omega
  exact Rat.intCast_lt_intCast.mpr h3
 have hV:(0:Rat)<((2^300:Nat):Rat):=Rat.natCast_pos.mpr (Nat.pow_pos x_);generalize ((2^300:Nat):Rat)=V at *;refine Rat.not_le.mp λhq=>?_;have h4:V*1<=q*(q.den:Rat):=Rat.le_trans (Rat.mul_le_mul_of_nonneg_left hd (Rat.le_of_lt hV)) (Rat.mul_le_mul_of_nonneg_right hq (by grind));rw[<- h1]at h4;grind
noncomputable def Ks:List Ru->Nat
 |[]=>1
 |a::as=>a.size.den*Ks as
theorem z7:∀as,0<Ks as
 |[]=>Nat.one_pos
 |a::as=>Nat.mul_pos a.size.den_pos (z7 as)
theorem Dg:∀{as:List Ru},(∀a∈as,RB 60 a.size)->Ks as<=2^(60*as.length)
 |[],_=>UJ 1
 | a::as,h=>by have h1:=(h a Uz).2;have h2:=Dg (as:=as) λp hp=>h p (tu _ hp);show a.size.den*Ks as<=2^(60*(as.length+1));rw[Nat.mul_add,Nat.mul_one,Nat.pow_add,Nat.mul_comm (2^_)];exact Nat.mul_le_mul (Nat.le_of_lt h1) h2
theorem z8:∀{as:List Ru}{a:Ru},a∈as->a.size.den∣Ks as
 | b::as,a,h=>by
  rcases UK.mp h with rfl|h
  . exact Nat.dvd_mul_right _ _
  . exact Nat.dvd_trans (z8 h) (Nat.dvd_mul_left _ _)
theorem NO{as:List Ru}(h:∀a∈as,RB 60 a.size)(hl:as.length<=20):∃D:Nat,0<D/\D<2^1240/\∀a∈as,a.size.den∣D:=by refine⟨Ks as,z7 as,UI (Dg h) (Nat.pow_lt_pow_right x_ xL),λa ha=>z8 ha⟩
end L2
namespace L2
open PySem
noncomputable def Rw(n i j:Nat):List Nat:=(List.range ((j+n-i) % n)).map λs=>(i+s) % n
noncomputable def yl(n i j:Nat):List Nat:=(List.range ((i+n-j) % n)).map λs=>(i+n-1-s) % n
noncomputable def BD(n:Nat)(a:Ru)(w:Bool):List Nat:=if w then Rw n a.one a.other else yl n a.one a.other
theorem uw{n i j:Nat}(hi:i<n)(hj:j<n):(((j:Int)-i).fmod n)=(((j+n-i) % n:Nat):Int):=by
 rw[Int.fmod_eq_emod_of_nonneg _ xL];have e:((j:Int)-i) % n=((j:Int)-i+n) % n:=(Int.add_emod_right _ _).symm;rw[e];have:(j:Int)-i+n=((j+n-i:Nat):Int):=by omega
 rw[this];exact(Int.natCast_emod _ _).symm
theorem Gd{n i s:Nat}:(((i:Int)+s).fmod n)=(((i+s) % n:Nat):Int):=by rw[Int.fmod_eq_emod_of_nonneg _ xL,Int.natCast_emod,Int.natCast_add]
theorem Ge{n i s:Nat}(hn:0<n)(hs:s<n):(((i:Int)-1-s).fmod n)=(((i+n-1-s) % n:Nat):Int):=by
 rw[Int.fmod_eq_emod_of_nonneg _ xL];have e:((i:Int)-1-s) % n=((i:Int)-1-s+n) % n:=(Int.add_emod_right _ _).symm;rw[e];have:(i:Int)-1-s+n=((i+n-1-s:Nat):Int):=by omega
 rw[this];exact(Int.natCast_emod _ _).symm
noncomputable def Rx(n i j:Nat):Nat:=(j+n-i) % n
theorem qt{x n:Nat}(h:x<2*n):x % n=if x<n then x else x-n:=by
 by_cases hx:x<n
 . rw[if_pos hx,Nat.mod_eq_of_lt hx]
 . rw[if_neg hx,Nat.mod_eq_sub_mod xL,Nat.mod_eq_of_lt xL]
theorem tD{n i j:Nat}(hi:i<n)(hj:j<n):Rx n i j=if i<=j then j-i else j+n-i:=by unfold Rx;rw[qt xL];split<;>split<;>omega
theorem Mm(n i j:Nat):(Rw n i j).length=Rx n i j:=by simp[Rw,Rx]
theorem Gf(n i j:Nat):(yl n i j).length=Rx n j i:=by simp[yl,Rx]
theorem JJ{n:Nat}{a:Ru}(h:nY n a)(w:Bool):(BD n a w).length<n:=by
 have h1:=h.one;have h2:=h.other;cases w
 . show(yl n a.one a.other).length<n;rw[Gf];exact Nat.mod_lt _ xL
 . show(Rw n a.one a.other).length<n;rw[Mm];exact Nat.mod_lt _ xL
theorem Dh{n i j:Nat}(hn:0<n):Rx n i j<n:=Nat.mod_lt _ hn
theorem z9{n i s:Nat}(hi:i<n)(hs:s<n):Rx n i ((i+s) % n)=s:=by have h1:=Nat.mod_lt (i+s) (y:=n) xL;rw[tD hi h1,qt xL];split<;>split<;>omega
theorem Aa{n i t:Nat}(hi:i<n)(ht:t<n):(i+Rx n i t) % n=t:=by have h1:=Dh (n:=n) (i:=i) (j:=t) xL;rw[qt xL,tD hi ht];split<;>split<;>omega
theorem JK{n i j:Nat}(hi:i<n)(hj:j<n)(h:i≠j):Rx n i j+Rx n j i=n:=by rw[tD hi hj,tD hj hi];split<;>split<;>omega
theorem He{n i j t:Nat}(hi:i<n):t∈Rw n i j↔t<n/\Rx n i t<Rx n i j:=by
 constructor
 . intro h;obtain⟨s,hs,rfl⟩:=List.mem_map.mp h;have hs:s<Rx n i j:=List.mem_range.mp hs;have:=Dh (n:=n) (i:=i) (j:=j) xL;exact⟨Nat.mod_lt _ xL,by rw[z9 hi xL];exact hs⟩
 . rintro⟨ht,h⟩;exact List.mem_map.mpr ⟨Rx n i t,List.mem_range.mpr h,Aa hi ht⟩
theorem Di{n i s:Nat}(hi:i<n)(hs:s<n):(i+n-1-s) % n=(i+(n-1-s)) % n:=by
 congr 1
 omega
theorem Ab{n i j t:Nat}(hi:i<n)(hj:j<n)(hij:i≠j):t∈yl n i j↔t<n/\¬Rx n i t<Rx n i j:=by
 have hsum:=JK hi hj hij;constructor
 . intro h;obtain⟨s,hs,rfl⟩:=List.mem_map.mp h;have hs:s<Rx n j i:=List.mem_range.mp hs;refine⟨Nat.mod_lt _ xL,?_⟩;rw[Di hi xL,z9 hi xL];omega
 .
  rintro⟨ht,h⟩;have:=Dh (n:=n) (i:=i) (j:=t) xL;refine List.mem_map.mpr ⟨n-1-Rx n i t,List.mem_range.mpr (show _<Rx n j i by omega),?_⟩;rw[Di hi xL];have e:n-1-(n-1-Rx n i t)=Rx n i t:=by omega
  rw[e,Aa hi ht]
noncomputable def tE(n:Nat)(a:Ru)(t:Nat):Bool:=decide (Rx n a.one t<Rx n a.one a.other)
theorem Dj{n:Nat}{a:Ru}(h:nY n a)(w:Bool){t:Nat}(ht:t<n):t∈BD n a w↔(tE n a t == w)=true:=by
 have h1:=h.one;have h2:=h.other;cases w
 . show t∈yl n a.one a.other↔_;rw[Ab h1 h2 h.ne];simp[tE,ht]
 . show t∈Rw n a.one a.other↔_;rw[He h1];simp[tE,ht]
theorem uy(t:Nat):∀(T:List Nat),Qp (.int (t:Int)) (T.map λ(s:Nat)=>D.int (s:Int))=decide (t∈T)
 |[]=>rfl
 | s::T=>by
  have ih:=uy t T;unfold Qp at ih ⊢;rw[List.map_cons,List.any_cons,ih];show(QP (.int (s:Int)) (.int (t:Int)) ||_)=_;have e:QP (.int (s:Int)) (.int (t:Int))=decide (t=s):=by show decide ((s:Int)=(t:Int))=_;rw[decide_eq_decide];omega
  rw[e];simp[Bool.decide_or]
theorem Dk(T:List Nat):(T.map λ(s:Nat)=>D.int (s:Int)).all pA=true:=by rw[List.all_eq_true];intro x hx;obtain⟨s,_,rfl⟩:=List.mem_map.mp hx;rfl
theorem RB.sum{b:Nat}:∀(qs:List Rat),(∀q∈qs,RB b q)->RB (1+(b+1)*qs.length) (gG qs)
 |[],_=>RB.mono (m:=1) ⟨x_,x_⟩ xL
 | q::qs,h=>by have ih:=RB.sum qs λz hz=>h z (tu _ hz);rw[aQ];refine((h q Uz).add ih).mono ?_;rw[List.length_cons,Nat.mul_succ];omega
theorem uz:gG []=0:=rfl
theorem j2(qs:List Rat)(q:Rat):gG (qs++[q])=gG qs+q:=by rw[FO,aQ,uz,Rat.add_zero]
noncomputable def pS(n:Nat)(a:Ru)(p:Rat)(t:Nat):Rat:=if tE n a t then p else a.size-p
noncomputable def iV(n:Nat)(as:List Ru)(ps:List Rat)(t:Nat):Rat:=gG ((as.zip ps).map λx=>pS n x.1 x.2 t)
structure NP (R:aL) (ps:List Rat) (c:Nat):Prop where
 len:ps.length=R.asks.length
 lo:∀x∈R.asks.zip ps,0<=x.2/\x.2<=x.1.size
 rb:∀p∈ps,RB c p
theorem Dl{α β:Type}{xs:List α}{f:α->β}(n:Nat)(h:xs.length=n)(g:Nat->β)(hg:∀k (hk:k<xs.length),g k=f xs[k]):(List.range n).map g=xs.map f:=by subst h;refine List.ext_getElem v6 λj h1 h2=>?_;simp only[List.getElem_map,List.getElem_range];exact hg j (by simpa using h2)
theorem Ac{α:Type}(f g:α->Rat):∀xs:List α,gG (xs.map f)-gG (xs.map g)=gG (xs.map λx=>f x-g x)
 |[]=>by simp only[List.map_nil,uz];grind
 | x::xs=>by have ih:=Ac f g xs;rw[List.map_cons,List.map_cons,List.map_cons,aQ,aQ,aQ,<- ih];grind
theorem qu{α:Type}(f:α->Rat):∀xs:List α,(∀x∈xs,0<=f x)->0<=gG (xs.map f)
 |[],_=>by simp[uz]
 | x::xs,h=>by have ih:=qu f xs λy hy=>h y (tu _ hy);have h1:=h x Uz;rw[List.map_cons,aQ];grind
theorem kR{α:Type}{f g:α->Rat}{xs:List α}(h:∀x∈xs,f x=g x):gG (xs.map f)=gG (xs.map g):=by rw[List.map_congr_left h]
theorem ym{n:Nat}{a:Ru}{p:Rat}(h0:0<=p)(h1:p<=a.size)(t:Nat):0<=pS n a p t/\pS n a p t<=a.size:=by
 unfold pS;split
 . exact⟨h0,h1⟩
 . constructor<;>grind
noncomputable def BI(c:Nat×Nat)(p:Nat):Bool:=decide (c.1<p/\p<=c.2)
noncomputable def apart(c:Nat×Nat)(i j:Nat):Bool:=BI c i != BI c j
noncomputable def JL(as:List Ru)(c:Nat×Nat):Rat:=gG ((as.filter λa=>apart c a.one a.other).map (·.size))
noncomputable def aL.room(R:aL)(t:Nat):Rat:=R.rooms.getD t 0
noncomputable def Mn(R:aL)(c:Nat×Nat):Rat:=R.room c.1+R.room c.2
noncomputable def OC(R:aL)(c:Nat×Nat):Rat:=JL R.asks c / Mn R c
def NQ(n:Nat)(c:Nat×Nat):Prop:=c.1<=c.2/\c.2<n
theorem Bd{q:Rat}{D:Nat}{z:Int}(h0:0<D)(e:q*(D:Rat)=(z:Rat)):q.den∣D:=by
 have hQ:(D:Rat)≠0:=λw=>by have:=Rat.natCast_pos.mpr h0;rw[w]at this;exact absurd this x_
 have e2:q=Rat.divInt z (D:Int):=by rw[Rat.divInt_eq_div];have:((D:Int):Rat)=(D:Rat):=rfl;rw[this,<- e,Rat.mul_div_cancel hQ]
 rw[e2];have:=Rat.den_divInt z (D:Int);rw[this,if_neg (by omega),Int.natAbs_natCast];exact Nat.div_dvd_of_dvd (Nat.gcd_dvd_left _ _)
theorem tF{q:Rat}{D:Nat}(h:q.den∣D):∃z:Int,q*(D:Rat)=(z:Rat):=by obtain⟨m,rfl⟩:=h;refine⟨q.num*(m:Int),?_⟩;rw[Rat.intCast_mul,C0];have e1:((m:Int):Rat)=(m:Rat):=rfl;have e2:((q.den*m:Nat):Rat)=(q.den:Rat)*(m:Rat):=Rat.natCast_mul _ _;rw[e1,e2,Rat.mul_assoc]
theorem Dm{p q:Rat}{D:Nat}(h0:0<D)(hp:p.den∣D)(hq:q.den∣D):(p+q).den∣D:=by obtain⟨a,ha⟩:=tF hp;obtain⟨b,hb⟩:=tF hq;exact Bd (z:=a+b) h0 (by rw[Rat.add_mul,ha,hb,Rat.intCast_add])
theorem Dn{D:Nat}(h0:0<D):∀qs:List Rat,(∀q∈qs,q.den∣D)->(gG qs).den∣D
 |[],_=>by show(0:Rat).den∣D;exact Nat.one_dvd _
 | q::qs,h=>by rw[aQ];exact Dm h0 (h q Uz) (Dn h0 qs λp hp=>h p (tu _ hp))
theorem Do{V:Rat}(hV:0<=V):∀qs:List Rat,(∀q∈qs,q<V)->gG qs<=(qs.length:Rat)*V
 |[],_=>by show(0:Rat)<=_;rw[List.length_nil];show(0:Rat)<=0*V;grind
 | q::qs,h=>by rw[aQ,List.length_cons];have h1:=h q Uz;have h2:=Do hV qs λp hp=>h p (tu _ hp);have e:((qs.length+1:Nat):Rat)=(qs.length:Rat)+1:=Rat.natCast_add _ _;rw[e];grind
def Mo(qs:List Rat):Prop:=Mh qs<2^9000∨∃D:Nat,0<D/\D<2^4400/\∀q∈qs,q.den∣D
theorem Gg(qs:List Rat):fm (qs.map QS)=(List.range qs.length).map λ(t:Nat)=>D.tup [.int (t:Int),QS (qs.getD t 0)]:=by
 unfold fm;refine List.ext_getElem v6 λj h1 h2=>?_;have hj:j<qs.length:=by simpa using h1
 simp[hj]
theorem JM(n:Nat)(f g:Nat->Rat):BB (Rv n f) (Rv n g)=(List.range n).map λ(t:Nat)=>D.tup [QS (f t),QS (g t)]:=by unfold BB Rv;refine List.ext_getElem v6 λj h1 h2=>?_;simp
noncomputable def aL.sz(R:aL)(k:Nat):Rat:=(R.asks.map (·.size)).getD k 0
theorem Gh{R:aL}{k:Nat}(h:k<R.asks.length):R.sz k=R.asks[k].size:=by unfold aL.sz;rw[UE,List.getElem?_map,Ux h];rfl
theorem uA{qs:List Rat}{k:Nat}(h:k<qs.length):qs.getD k 0=qs[k]:=by rw[UE,Ux h];rfl
end L2
namespace My
open PySem L2
noncomputable def aM(R:aL)(j:Nat):Ru:=(R.asks[j]?).getD ⟨"",0,0,0⟩
noncomputable def Ry(R:aL)(j t:Nat):Bool:=tE R.n (aM R j) t
noncomputable def dI(R:aL)(w:Nat->Int)(k g h:Nat):Int:=((List.range (R.asks.length-k)).map λi=>if Ry R (k+i) g != Ry R (k+i) h then w (k+i)else 0).sum
theorem Ad{R:aL}{j:Nat}(h:j<R.asks.length):aM R j=R.asks[j]:=by unfold aM;rw[Ux h];rfl
def O9(R:aL)(w f:Nat->Int)(k:Nat):Prop:=∀g h,g<R.n->h<R.n->dI R w k g h<=f g+f h/\(f g+f h-dI R w k g h) % 2=0
noncomputable def NR(R:aL)(w f:Nat->Int)(k:Nat)(p:Int)(t:Nat):Int:=f t-if Ry R k t then p else w k-p
noncomputable def Rz(i j:Int):Int:=if j<i then j else i
noncomputable def RA(R:aL)(k:Nat):List Nat:=(PySem.W.sortI ((BD R.n (aM R k) true).map λ(t:Nat)=>(t:Int))).map Int.toNat
noncomputable def Pa(R:aL)(w f:Nat->Int)(k g h:Nat):Int:=f g+f h-dI R w (k+1) g h
noncomputable def Mp(R:aL)(w f:Nat->Int)(k:Nat)(acc:Int)(g:Nat)(hs:List Nat):Int:=hs.foldl (λt h=>if decide (g<=h)then Rz t (Pa R w f k g h)else t) acc
noncomputable def Mq(R:aL)(w f:Nat->Int)(k:Nat)(gs:List Nat):Int:=gs.foldl (λt g=>Mp R w f k t g (RA R k)) (2*w k)
noncomputable def Mr(R:aL)(w f:Nat->Int)(k:Nat):Int:=(Mq R w f k (RA R k)).fdiv 2
noncomputable def RC(R:aL)(w f:Nat->Int):Nat->Nat->Int
 |0=>f
 |k+1=>NR R w (RC R w f k) k (Mr R w (RC R w f k) k)
noncomputable def RD(R:aL)(w f:Nat->Int)(k:Nat):Int:=Mr R w (RC R w f k) k
theorem yn{t b:Int}(h:b≠0):(Rat.divInt t b).den∣b.natAbs:=by rw[Rat.den_divInt,if_neg h];exact Nat.div_dvd_of_dvd (by rw[Int.gcd];exact Nat.gcd_dvd_left _ _)
theorem yo(p q:Rat):(p*q).den∣p.den*q.den:=by
 have e:p*q=Rat.divInt (p.num*q.num) ((p.den:Int)*q.den):=by rw[<- Rat.divInt_mul_divInt,Rat.num_divInt_den,Rat.num_divInt_den]
 rw[e];have:=yn (t:=p.num*q.num) (b:=(p.den:Int)*q.den) (Int.mul_ne_zero (yd _) (yd _));rwa [Int.natAbs_mul,Int.natAbs_natCast,Int.natAbs_natCast]at this
theorem Gi(q:Rat):(q.num:Rat)=q*(q.den:Rat):=by
 have h:((q.den:Int):Rat)≠0:=λe=>yd q (by
  have:((q.den:Int):Rat)=((0:Int):Rat):=e
  exact Rat.intCast_inj.mp this)
 have e:q=(q.num:Rat) / ((q.den:Int):Rat):=by
  conv=>lhs;rw[<- Rat.num_divInt_den q,Rat.divInt_eq_div]
 have:=Rat.div_mul_cancel (a:=(q.num:Rat)) h;rw[<- e]at this;exact this.symm
noncomputable def RE(qs:List Rat):Nat:=qs.foldl (λb q=>Nat.lcm b q.den) 1
noncomputable def wx(u:Nat)(q:Rat):Int:=q.num*((u / q.den:Nat):Int)
theorem wy{u:Nat}{q:Rat}(h:q.den∣u):((wx u q:Int):Rat)=q*(u:Rat):=by obtain⟨c,rfl⟩:=h;unfold wx;rw[Nat.mul_div_cancel_left _ (den_pos q),Rat.intCast_mul,Gi,Rat.intCast_natCast,Rat.natCast_mul,Rat.mul_assoc]
noncomputable def Ms(R:aL):List Rat:=R.asks.map (·.size)
noncomputable def NS(R:aL)(q:Rat):List Rat:=R.rooms.map λr=>q*r
noncomputable def RF(R:aL)(q:Rat):Nat:=RE (Ms R++NS R q)
noncomputable def Hf(R:aL)(q:Rat):Nat:=2*RF R q
noncomputable def wI(R:aL)(q:Rat)(j:Nat):Int:=wx (Hf R q) (aM R j).size
noncomputable def RG(R:aL)(q:Rat)(t:Nat):Int:=wx (Hf R q) (q*R.room t)
noncomputable def pI(R:aL)(q:Rat)(k:Nat):Int:=RD R (wI R q) (RG R q) k
end My
set_option exponentiation.threshold 2000
namespace L2
open PySem
noncomputable def kT(w:Bool):D:=.str (dA w)
theorem Be{g:Tg}{b:W Fl}{so:Fl->Ev->Prop}{enc:Nat->D}(n:Nat)(I:Nat->Ev->Prop)(Z:Ev)(h0:I 0 Z)
  (step:∀j Z,j<n->I j Z->∀Q:Fl->Ev->Prop,(∀Z',I (j+1) Z'->Q .nx Z')->(∀Z',I (j+1) Z'->Q .ct Z')->(∀Z',so .nx Z'->Q .bk Z')->(∀r Z',so (.rt r) Z'->Q (.rt r) Z')->g (enc j) Z λZ1=>b Z1 Q)
  (done:∀Z,I n Z->so .nx Z):d6 g b ((List.range n).map enc) Z so:=by
 refine dE _ (λj Z=>I j Z) Z h0 ?_ ?_
 .
  intro j x Z hj hI Q h1 h2 h3 h4;have hj':j<n:=by have:=(UA.mp hj).1;simpa using this
  have ex:x=enc j:=by rw[List.getElem?_map,List.getElem?_range hj']at hj;exact(Option.some.inj hj).symm
  subst ex;exact step j Z hj' hI Q h1 h2 h3 h4
 .
  intro Z hI;have e:((List.range n).map enc).length=n:=by simp
  rw[e]at hI;exact done Z hI
end L2
set_option exponentiation.threshold 5000
namespace My
open PySem L2
structure LB (R:aL) (ps:List Rat):Prop where
 p:∀p∈ps,RB 4100 p
 ld:∀k t,RB 4100 (iV R.n (R.asks.take k) (ps.take k) t)
 st:∀(k:Nat)(h1:k<R.asks.length)(h2:k<ps.length)(t:Nat),RB 4100 (pS R.n R.asks[k] ps[k] t)
 sm:∀t,Mo ((R.asks.zip ps).map λx=>pS R.n x.1 x.2 t)
theorem LB.all{R:aL}{ps:List Rat}(h:LB R ps)(hl:ps.length=R.asks.length)(t:Nat):RB 4100 (iV R.n R.asks ps t):=by have:=h.ld R.asks.length t;rwa [List.take_of_length_le (UJ _),List.take_of_length_le xL]at this
noncomputable def zI(R:aL)(q:Rat)(t j:Nat):Int:=if tE R.n (aM R j) t then pI R q j else wI R q j-pI R q j
noncomputable def yp:D->Bool
 |.tup [.int i,.int j]=>decide (1<=j) && decide ((Int.gcd i j:Int)=1)
 |_=>false
theorem Dp{d:D}(h:∀i j,d≠.tup [.int i,.int j]):yp d=false:=by
 unfold yp;split
 . rename_i i j;exact absurd rfl (h i j)
 . rfl
mutual
noncomputable def BE:D->Nat
 |.tup xs=>max xs.length (yq xs)
 |.lst xs=>max xs.length (yq xs)
 |_=>0
noncomputable def yq:List D->Nat
 |[]=>0
 |x::xs=>max (BE x) (yq xs)
end
theorem Ae{n:Nat}:∀{xs:List D},(∀x∈xs,BE x<=n)->yq xs<=n
 |[],_=>Nat.zero_le _
 | y::ys,h=>by simp only[yq];have:=h y Uz;have:=Ae (xs:=ys) λx hx=>h x (tu _ hx);omega
theorem Hg{n:Nat}(h:n<=99):n<=sizeLine:=Nat.le_trans h x_
theorem JN(q:Rat):BE (QS q)=2:=by simp[QS,BE,yq]
theorem Gj(a:Ru):BE (eM a)=4:=by have:=JN a.size;simp[eM,BE,yq,this]
theorem Dq{as:List Ru}{n:Nat}(h:as.length<=n)(h2:4<=n):BE (.lst (as.map eM))<=n:=by
 simp only[BE,UC];have:=Ae (n:=4) (xs:=as.map eM) λx hx=>by obtain⟨q,_,rfl⟩:=List.mem_map.mp hx;rw[Gj];exact UJ _
 omega
structure RH (n:Nat) (d:D):Prop where
 dep:zN d<n
 wid:BE d<=99
theorem RH.mono{n m:Nat}{d:D}(h:RH n d)(hm:n<=m):RH m d:=⟨UB h.dep hm,h.wid⟩
theorem JO(q:Rat):zN (QS q)=1:=by simp[QS,zN,xU]
theorem Gk(a:Ru):zN (eM a)=2:=by have:=JO a.size;simp[eM,zN,xU,this]
theorem Gm{xs:List D}{n:Nat}(h:∀x∈xs,zN x<=n):zN (.lst xs)<=n+1:=by simp only[zN];have:=zO h;omega
theorem Dr(as:List Ru):zN (.lst (as.map eM))<=3:=Gm λx hx=>by obtain⟨q,_,rfl⟩:=List.mem_map.mp hx;rw[Gk];exact UJ _
theorem RH.asks{as:List Ru}(h:as.length<=99):RH 4 (.lst (as.map eM)):=⟨by have:=Dr as;omega,Dq h x_⟩
end My
set_option exponentiation.threshold 5000
namespace My
open PySem L2
structure Pb where
 top:Rat
 strict:Bool
 elder:List (Option Bool)
 most:Nat
noncomputable def fu(ws:List Bool):D:=.lst (ws.map λw=>D.str (dA w))
noncomputable def Mt(x:Option Bool×Option Bool):Bool:=match x.1 with
 |none=>false
 |some a=>x.2 == some (!a)
noncomputable def NT(el ws:List (Option Bool)):List Nat:=((el.zip ws).zipIdx.filter λx=>Mt x.1).map (·.2)
theorem JP{a b:Bool}:dA a=dA b↔a=b:=by cases a<;>cases b<;>simp[dA]<;>decide
noncomputable def NU(st:Bool)(load bound:Int):Bool:=decide (bound<load) ||(st && decide (load=bound))
end My
set_option exponentiation.threshold 5000
namespace My
open PySem L2
noncomputable def OD:Nat->(Nat->Int)->Int
 |0,_=>0
 |n+1,f=>OD n f+f n
inductive Tr where
 |turned
 |cut (c:Nat×Nat)
 |split (k:Nat) (a b:Tr)
noncomputable def RI(R:aL)(fixed:List (Option Bool))(c:Nat×Nat)(i:Nat):Int:=match fixed.getD i none with
 |none=>if apart c (aM R i).one (aM R i).other then 1 else 0
 |some b=>(if Ry R i c.1 == b then 1 else 0)+if Ry R i c.2 == b then 1 else 0
noncomputable def NV(R:aL)(q:Rat)(fixed:List (Option Bool))(c:Nat×Nat):Int:=OD R.asks.length λi=>wI R q i*RI R fixed c i
def Tr.Ok(R:aL)(w:Pb):List (Option Bool)->Tr->Prop
 |fixed,.turned=>w.most<(NT w.elder fixed).length
 |fixed,.cut c=>NQ R.n c/\NU w.strict (NV R w.top fixed c) (RG R w.top c.1+RG R w.top c.2)=true
 |fixed,.split k a b=>k<fixed.length/\fixed.getD k none=none/\Tr.Ok R w (fixed.set k (some true)) a/\Tr.Ok R w (fixed.set k (some false)) b
end My
set_option exponentiation.threshold 5000
namespace My
open PySem L2
noncomputable def Tr.size:Tr->Nat
 |.turned=>1
 |.cut _=>1
 |.split _ a b=>a.size+b.size+1
end My
set_option exponentiation.threshold 5000
namespace My
open PySem L2
noncomputable def wz:Nat->List (List Bool)
 |0=>[[]]
 |n+1=>(wz n).map (·++[true])++(wz n).map (·++[false])
theorem uB(n:Nat):(wz n).length=2^n:=by
 induction n with
 |zero=>rfl
 |succ n ih=>rw[wz,List.length_append,UC,UC,ih,Nat.pow_succ];omega
theorem uC{n:Nat}{ws:List Bool}:ws∈wz n↔ws.length=n:=by
 induction n generalizing ws with
 |zero=>simp[wz]
 | succ n ih =>
  rw[wz,List.mem_append,List.mem_map,List.mem_map];constructor
  . rintro (⟨v,hv,rfl⟩|⟨v,hv,rfl⟩)<;>simp[ih.mp hv]
  .
   intro h;have hn:ws≠[]:=λz=>by rw[z]at h;simp at h
   have e:=List.dropLast_concat_getLast hn;have hd:ws.dropLast∈wz n:=ih.mpr (by rw[List.length_dropLast,h];rfl);cases eb:ws.getLast hn
   . exact .inr ⟨_,hd,by rw[eb]at e;exact e⟩
   . exact .inl ⟨_,hd,by rw[eb]at e;exact e⟩
end My
set_option exponentiation.threshold 5000
namespace My
open PySem L2
theorem Af{h:Ru->D}{caps:Ev}{te:W L}{k:List D->Ev->Prop}:∀(as:List Ru)(acc:List D)(l1 l2 l3 l4:L),
  (∀a∈as,∀Q:Ev->D->Prop,Q (.d (.str a.nm)::.d (.int (a.one:Int))::.d (.int (a.other:Int))::.d (QS a.size)::caps) (h a)->te (.d (.str a.nm)::.d (.int (a.one:Int))::.d (.int (a.other:Int))::.d (QS a.size)::caps) λr Z3=>Qv r λy=>Q Z3 y) ->
  (∀l1 l2 l3 l4,k (acc++as.map h) (l1::l2::l3::l4::caps))->dz (cn [0,1,2,3]) g6 te (as.map eM) (l1::l2::l3::l4::caps) acc k
 |[],acc,l1,l2,l3,l4,_,PR=>by have:=PR l1 l2 l3 l4;simpa[dz]using this
 | a::as,acc,l1,l2,l3,l4,step,PR=>by show dz (cn [0,1,2,3]) g6 te (eM a::as.map eM) (l1::l2::l3::l4::caps) acc k;unfold dz;show te (.d (.str a.nm)::.d (.int (a.one:Int))::.d (.int (a.other:Int))::.d (QS a.size)::caps) _;refine step a Uz (λZ y=>dz (cn [0,1,2,3]) g6 te (as.map eM) Z (acc++[y]) k) ?_;exact Af as (acc++[h a]) _ _ _ _ (λb hb=>step b (tu _ hb)) (by simpa using PR)
end My
set_option exponentiation.threshold 5000
namespace My
open PySem L2
theorem wB:∀(as bs:List Bool),PyData.eqvAll (fQ (as.map λw=>D.str (dA w))) (fQ (bs.map λw=>D.str (dA w)))=decide (as=bs)
 |[],[]=>by simp[uj]
 |[],b::bs=>by simp[fQ,PyData.eqvAll]
 |a::as,[]=>by simp[fQ,PyData.eqvAll]
 | a::as,b::bs=>by rw[List.map_cons,List.map_cons,jY,wB as bs,Ct];simp[JP]
theorem Gn(as bs:List Bool):QI (fu as) (fu bs)=decide (as=bs):=by unfold fu;rw[Cw,wB]
theorem uD(ws:List Bool):QT 1 (fu ws)=true:=by unfold fu;simp only[QT];exact uu ws λw _=>by cases w<;>decide +kernel
theorem tG(ws:List Bool):cH (fu ws):=eL (uD ws) x_
theorem Bf(ws:List Bool):(QH (fu ws)).depth<=62:=Nat.le_trans (uh 1 _ (uD ws)).2 x_
theorem Gp(x:List Bool)(l:List (List Bool)):AQ (fu x) (l.map fu)=decide (x∈l):=by
 unfold AQ
 induction l with
 |nil=>simp
 | cons y l ih =>
  rw[List.map_cons,List.any_cons,ih,Gn,<- Bool.decide_or,decide_eq_decide,UK];exact⟨λh=>h.imp Eq.symm id,λh=>h.imp Eq.symm id⟩
theorem Ds(l:List (List Bool)):∀z∈l.map fu,cH z:=λz hz=>by obtain⟨x,_,rfl⟩:=List.mem_map.mp hz;exact tG x
end My
set_option exponentiation.threshold 5000
namespace My
open PySem L2
structure g8 where
 k:Nat
 kw:Bool
 l:Nat
 lw:Bool
 am:Rat
noncomputable def RJ(s:g8):D:=.tup [.int (s.k:Int),.str (dA s.kw),.int (s.l:Int),.str (dA s.lw),QS s.am]
noncomputable def RK(R:aL)(ps:List Rat)(k:Nat)(w:Bool):Rat:=if w then R.sz k-ps.getD k 0 else ps.getD k 0
noncomputable def RL(R:aL)(ps:List Rat)(k:Nat)(kw:Bool)(l:Nat)(lw:Bool):Rat:=if RK R ps l lw<RK R ps k kw then RK R ps l lw else RK R ps k kw
noncomputable def RM(p:Rat)(w:Bool)(am:Rat):Rat:=if w then p+am else p-am
noncomputable def RN(ps:List Rat)(s:g8):List Rat:=(ps.set s.k (RM (ps.getD s.k 0) s.kw s.am)).set s.l (RM ((ps.set s.k (RM (ps.getD s.k 0) s.kw s.am)).getD s.l 0) s.lw s.am)
noncomputable def lg(n:Nat)(a:Ru)(aw:Bool)(b:Ru)(bw:Bool):Bool:=!((BD n a aw).any λt=>decide (t∈BD n b bw))
noncomputable def bJ(n:Nat)(a b:Ru):Bool×Bool:=if lg n a true b true then(true,true)else if lg n a true b false then(true,false)else if lg n a false b true then(false,true)else(false,false)
structure d8 (R:aL) (ps:List Rat):Prop where
 ok:R.Ok
 len:ps.length=R.asks.length
 lo:∀k,k<ps.length->0<=ps.getD k 0/\ps.getD k 0<=R.sz k
 cd:∃D:Nat,0<D/\D<2^1500/\(∀a∈R.asks,a.size.den∣D)/\∀p∈ps,p.den∣D
theorem jE{R:aL}{k:Nat}(h:k<R.asks.length):R.sz k=R.asks[k].size:=by unfold aL.sz;rw[UE,List.getElem?_map,Ux h];rfl
theorem bC{ps:List Rat}{k:Nat}(h:k<ps.length):ps.getD k 0=ps[k]:=by rw[UE,Ux h];rfl
theorem RO{a b c:Rat}(h1:a<=b)(h2:b<c):a<c:=by rw[<- Rat.not_le]at h2 ⊢;exact λz=>h2 (Rat.le_trans z h1)
theorem uE{q:Rat}{D:Nat}(h0:0<=q)(h1:q<((2^300:Nat):Rat))(d0:0<D)(d1:D<2^1500)(hd:q.den∣D):RB 1800 q:=RB.of_val (v:=300) (d:=1500) h0 (UI (Nat.le_of_dvd d0 hd) d1) h1
theorem d8.sz_rb{R:aL}{ps:List Rat}(h:d8 R ps){k:Nat}(hk:k<ps.length):RB 1800 (R.sz k):=by
 have hk':k<R.asks.length:=by rw[<- h.len];exact hk
 rw[jE hk'];exact(h.ok.rb (UD hk')).mono x_
theorem d8.rb{R:aL}{ps:List Rat}(h:d8 R ps){k:Nat}(hk:k<ps.length):RB 1800 (ps.getD k 0):=by
 obtain⟨D,d0,d1,_,hd⟩:=h.cd;have hk':k<R.asks.length:=by rw[<- h.len];exact hk
 obtain⟨h1,h2⟩:=h.lo k hk;refine uE h1 (RO h2 ?_) d0 d1 (hd _ (by rw[bC hk];exact UD hk));rw[jE hk'];exact(h.ok.ask _ (UD hk')).lt
theorem mf{p q:Rat}{D:Nat}(d0:0<D)(h1:p.den∣D)(h2:q.den∣D):(p+q).den∣D:=by
 have e:p+q=Rat.divInt (wx D p+wx D q) (D:Int):=by
  have hD:((D:Int):Rat)≠0:=by have:(0:Rat)<(D:Rat):=Rat.natCast_pos.mpr d0;intro z;rw[show((D:Int):Rat)=(D:Rat)from rfl]at z;rw[z]at this;exact absurd this x_
  rw[Rat.divInt_eq_div,Rat.intCast_add,wy h1,wy h2,<- Rat.add_mul,Rat.div_def,Rat.mul_assoc,show((D:Nat):Rat)=((D:Int):Rat)from rfl,Rat.mul_inv_cancel _ hD,Rat.mul_one]
 rw[e];have:=yn (t:=wx D p+wx D q) (b:=(D:Int)) xL;simpa using this
theorem mh{p q:Rat}{D:Nat}(d0:0<D)(h1:p.den∣D)(h2:q.den∣D):(p-q).den∣D:=by rw[Rat.sub_eq_add_neg];exact mf d0 h1 (by rw[Rat.neg_den];exact h2)
theorem d8.ns{R:aL}{ps:List Rat}(h:d8 R ps){k:Nat}(hk:k<ps.length)(w:Bool):0<=RK R ps k w/\RK R ps k w<=R.sz k:=by
 obtain⟨h1,h2⟩:=h.lo k hk;unfold RK;cases w
 . exact⟨h1,h2⟩
 .
  have h3:=(Rat.le_iff_sub_nonneg _ _).mp h2;refine⟨h3,?_⟩;show R.sz k-ps.getD k 0<=R.sz k;rw[Rat.le_iff_sub_nonneg];have:R.sz k-(R.sz k-ps.getD k 0)=ps.getD k 0:=by rw[Rat.sub_eq_add_neg,Rat.sub_eq_add_neg,Rat.neg_add,Rat.neg_neg,<- Rat.add_assoc,Rat.add_neg_cancel,Rat.zero_add]
  rw[this];exact h1
noncomputable def eh(a:Ru):Nat:=min a.one a.other
noncomputable def eZ(a:Ru):Nat:=max a.one a.other
noncomputable def RP(a:Ru):Bool:=decide (a.one<a.other)
theorem tH{n:Nat}{a:Ru}(h:nY n a){t:Nat}(ht:t<n):(tE n a t == RP a)=true↔eh a<=t/\t<eZ a:=by
 have h1:=h.one;have h2:=h.other;have h3:=h.ne;unfold tE eh eZ RP;rw[tD h1 ht,tD h1 h2];rw[beq_iff_eq,decide_eq_decide];by_cases h4:a.one<a.other
 .
  rw[if_pos (show a.one<=a.other by omega)];by_cases h5:a.one<=t
  . rw[if_pos h5];omega
  . rw[if_neg h5];omega
 .
  rw[if_neg (show ¬a.one<=a.other by omega)];by_cases h5:a.one<=t
  . rw[if_pos h5];omega
  . rw[if_neg h5];omega
theorem uF{n:Nat}{a b:Ru}(ha:nY n a)(hb:nY n b){aw bw:Bool}(h:∀t,t<n->(tE n a t == aw)=true->(tE n b t == bw)=true->False):lg n a aw b bw=true:=by
 unfold lg;rw[Bool.not_eq_true',List.any_eq_false];intro t ht;rw[decide_eq_true_iff];intro hb'
 have htn:t<n:=by
  cases aw
  . exact((Ab ha.one ha.other ha.ne).mp ht).1
  . exact((He ha.one).mp ht).1
 exact h t htn ((Dj ha aw htn).mp ht) ((Dj hb bw htn).mp hb')
theorem wD{n:Nat}{a:Ru}(h:nY n a){t:Nat}(ht:t<n):(tE n a t == !RP a)=true↔¬(eh a<=t/\t<eZ a):=by rw[<- tH h ht];cases tE n a t<;>cases RP a<;>simp
noncomputable def Mu(a b:Ru):Bool:=decide (eh a<eh b/\eh b<eZ a/\eZ a<eZ b) ||decide (eh b<eh a/\eh a<eZ b/\eZ b<eZ a)
theorem Gq{n:Nat}{a b:Ru}(ha:nY n a)(hb:nY n b)(h:Mu a b=false):lg n a (bJ n a b).1 b (bJ n a b).2=true:=by
 have ex:∃aw bw,lg n a aw b bw=true:=by
  unfold Mu at h;rw[Bool.or_eq_false_iff,decide_eq_false_iff_not,decide_eq_false_iff_not]at h;have la:eh a<eZ a:=by have:=ha.ne;unfold eh eZ;omega
  have lb:eh b<eZ b:=by have:=hb.ne;unfold eh eZ;omega
  by_cases h1:eZ a<=eh b∨eZ b<=eh a
  . refine⟨RP a,RP b,uF ha hb λt ht p q=>?_⟩;have p:=(tH ha ht).mp p;have q:=(tH hb ht).mp q;omega
  .
   by_cases h2:eh b<=eh a/\eZ a<=eZ b
   . refine⟨RP a,!RP b,uF ha hb λt ht p q=>?_⟩;have p:=(tH ha ht).mp p;have q:=(wD hb ht).mp q;omega
   . refine⟨!RP a,RP b,uF ha hb λt ht p q=>?_⟩;have p:=(wD ha ht).mp p;have q:=(tH hb ht).mp q;omega
 unfold bJ;split
 . assumption
 .
  split
  . assumption
  .
   split
   . assumption
   .
    obtain⟨aw,bw,e⟩:=ex
    cases aw<;>cases bw<;>first|exact e|contradiction
noncomputable def RQ(R:aL)(ps:List Rat)(k l:Nat)(w:Bool×Bool):g8:=⟨k,w.1,l,w.2,RL R ps k w.1 l w.2⟩
theorem d8.ms{R:aL}{ps:List Rat}(h:d8 R ps){k l:Nat}(hk:k<ps.length)(hl:l<ps.length)(kw lw:Bool):0<=RL R ps k kw l lw/\RL R ps k kw l lw<=RK R ps k kw/\RL R ps k kw l lw<=RK R ps l lw/\(RL R ps k kw l lw=RK R ps k kw∨RL R ps k kw l lw=RK R ps l lw):=by
 have h1:=h.ns hk kw;have h2:=h.ns hl lw;unfold RL;split
 . rename_i hlt;exact⟨h2.1,Rat.le_of_lt hlt,Rat.le_refl,.inr rfl⟩
 . rename_i hlt;exact⟨h1.1,Rat.le_refl,Rat.not_lt.mp hlt,.inl rfl⟩
noncomputable def RR(R:aL)(k l:Nat):Bool:=Mu (aM R k) (aM R l)
noncomputable def RS(cr:Nat->Nat->Bool):List Nat->Option (Nat×Nat)
 |[]=>none
 | k::ks=>match ks.find? (λl=>!cr k l)with
  |some l=>some (k,l)
  |none=>RS cr ks
noncomputable def yr:Option (Nat×Nat)->D
 |none=>.non
 |some (k,l)=>.tup [.int (k:Int),.int (l:Int)]
theorem bH{R:aL}{k:Nat}(h:k<R.asks.length):aM R k=R.asks[k]:=by unfold aM;rw[Ux h];rfl
end My
set_option exponentiation.threshold 5000
namespace My
open PySem L2
noncomputable def RT(R:aL)(ps:List Rat)(k:Nat):Bool:=decide (0<ps.getD k 0) && decide (ps.getD k 0<R.sz k)
noncomputable def RU(R:aL)(ps:List Rat):List Nat:=(List.range ps.length).filter (RT R ps)
theorem jt{R:aL}{ps:List Rat}{k:Nat}(h:k∈RU R ps):k<ps.length/\RT R ps k=true:=by obtain⟨h1,h2⟩:=List.mem_filter.mp h;exact⟨List.mem_range.mp h1,h2⟩
theorem qv(R:aL)(ps:List Rat):(RU R ps).Pairwise (· < ·):=List.Pairwise.filter _ List.pairwise_lt_range
theorem pT{cr:Nat->Nat->Bool}:∀{ks:List Nat}{k l:Nat},ks.Pairwise (· < ·)->RS cr ks=some (k,l)->k∈ks/\l∈ks/\k<l/\cr k l=false
 |[],_,_,_,h=>by cases h
 | a::ks,k,l,hp,h=>by
  obtain⟨p1,p2⟩:=List.pairwise_cons.mp hp;unfold RS at h
  cases e:ks.find? (λl=>!cr a l)with
  | none =>
   rw[e]at h;obtain⟨h1,h2,h3,h4⟩:=pT p2 h;exact⟨tu _ h1,tu _ h2,h3,h4⟩
  | some m =>
   rw[e]at h;cases h;have hm:=List.mem_of_find?_eq_some e;have hc:=List.find?_some e;exact⟨Uz,tu _ hm,p1 _ hm,by simpa using hc⟩
theorem Ag{cr:Nat->Nat->Bool}:∀{ks:List Nat},ks.Pairwise (· < ·)->RS cr ks=none->∀k l,k∈ks->l∈ks->k<l->cr k l=true
 |[],_,_,_,_,hk,_,_=>by cases hk
 | a::ks,hp,h,k,l,hk,hl,hkl=>by
  obtain⟨p1,p2⟩:=List.pairwise_cons.mp hp;unfold RS at h
  cases e:ks.find? (λl=>!cr a l)with
  |some m=>rw[e]at h;cases h
  | none =>
   rw[e]at h;rcases UK.mp hk with ek|hk'
   .
    subst ek;rcases UK.mp hl with el|hl'
    . omega
    . have:=List.find?_eq_none.mp e l hl';simpa using this
   .
    rcases UK.mp hl with el|hl'
    . have:=p1 k hk';omega
    . exact Ag p2 h k l hk' hl' hkl
theorem JQ(p s:Rat):p+(s-p)=s:=by rw[Rat.sub_eq_add_neg,<- Rat.add_assoc,Rat.add_comm p s,Rat.add_assoc,Rat.add_neg_cancel,Rat.add_zero]
theorem Dt(p:Rat):p-p=0:=by rw[Rat.sub_eq_add_neg,Rat.add_neg_cancel]
theorem JR{p a:Rat}(h:a<=p):0<=p-a:=(Rat.le_iff_sub_nonneg _ _).mp h
theorem Gr{p a:Rat}(h:0<=a):p-a<=p:=by rw[Rat.le_iff_sub_nonneg,Rat.sub_eq_add_neg,Rat.sub_eq_add_neg,Rat.neg_add,Rat.neg_neg,<- Rat.add_assoc,Rat.add_neg_cancel,Rat.zero_add];exact h
theorem JS{p a:Rat}(h1:0<=p)(h2:0<=a):0<=p+a:=Rat.add_nonneg h1 h2
structure Mv (R:aL) (ps:List Rat) (s:g8):Prop where
 k:s.k<ps.length
 l:s.l<ps.length
 kl:s.k≠s.l
 nn:0<=s.am
 kn:s.am<=RK R ps s.k s.kw
 ln:s.am<=RK R ps s.l s.lw
theorem j3(ps:List Rat)(s:g8):(RN ps s).length=ps.length:=by simp[RN]
theorem wF{ps:List Rat}{s:g8}(hk:s.k<ps.length)(hl:s.l<ps.length)(hkl:s.k≠s.l)(i:Nat):(RN ps s).getD i 0=if i=s.k then RM (ps.getD s.k 0) s.kw s.am else if i=s.l then RM (ps.getD s.l 0) s.lw s.am else ps.getD i 0:=by
 have e0:(ps.set s.k (RM (ps.getD s.k 0) s.kw s.am)).getD s.l 0=ps.getD s.l 0:=by rw[UE,List.getElem?_set_ne hkl,<- UE]
 unfold RN;rw[e0,UE];by_cases h1:i=s.k
 . subst h1;rw[if_pos rfl,List.getElem?_set_ne (Ne.symm hkl),List.getElem?_set_self hk];rfl
 .
  rw[if_neg h1];by_cases h2:i=s.l
  . subst h2;rw[if_pos rfl,List.getElem?_set_self (by simpa using hl)];rfl
  . rw[if_neg h2,List.getElem?_set_ne (Ne.symm h2),List.getElem?_set_ne (Ne.symm h1),UE]
theorem Ah{R:aL}{ps:List Rat}{k:Nat}{w:Bool}{am:Rat}(h1:0<=ps.getD k 0)(h2:ps.getD k 0<=R.sz k)(a0:0<=am)(a1:am<=RK R ps k w):0<=RM (ps.getD k 0) w am/\RM (ps.getD k 0) w am<=R.sz k:=by
 unfold RK at a1;unfold RM
 cases w with
 | true =>
  simp only[if_true]at a1 ⊢;refine⟨JS h1 a0,?_⟩;have:=(Rat.add_le_add_left (c:=ps.getD k 0)).mpr a1;rwa [JQ]at this
 | false =>
  simp only[Bool.false_eq_true,if_false]at a1 ⊢;exact⟨JR a1,Rat.le_trans (Gr a0) h2⟩
theorem d8.slid{R:aL}{ps:List Rat}{s:g8}(h:d8 R ps)(hs:Mv R ps s)(hd:∀D:Nat,0<D->(∀a∈R.asks,a.size.den∣D)->(∀p∈ps,p.den∣D)->s.am.den∣D):d8 R (RN ps s):=by
 refine⟨h.ok,by rw[j3];exact h.len,λi hi=>?_,?_⟩
 .
  rw[j3]at hi;rw[wF hs.k hs.l hs.kl];split
  . rename_i e;subst e;exact Ah (h.lo _ hs.k).1 (h.lo _ hs.k).2 hs.nn hs.kn
  .
   split
   . rename_i e;subst e;exact Ah (h.lo _ hs.l).1 (h.lo _ hs.l).2 hs.nn hs.ln
   . exact h.lo i hi
 .
  obtain⟨D,d0,d1,da,dp⟩:=h.cd;have dm:=hd D d0 da dp;have dk:∀k,k<ps.length->(ps.getD k 0).den∣D:=λk hk=>dp _ (by rw[bC hk];exact UD hk)
  have db:∀(k:Nat)(w:Bool),k<ps.length->(RM (ps.getD k 0) w s.am).den∣D:=λk w hk=>by
   unfold RM;cases w
   . exact mh d0 (dk k hk) dm
   . exact mf d0 (dk k hk) dm
  refine⟨D,d0,d1,da,λp hp=>?_⟩;obtain⟨i,hi,rfl⟩:=List.getElem_of_mem hp;rw[<- bC hi,wF hs.k hs.l hs.kl];rw[j3]at hi;split
  . exact db _ _ hs.k
  .
   split
   . exact db _ _ hs.l
   . exact dk i hi
theorem Ai{R:aL}{ps:List Rat}(h:d8 R ps){k:Nat}(hk:k<ps.length)(w:Bool){D:Nat}(d0:0<D)(da:∀a∈R.asks,a.size.den∣D)(dp:∀p∈ps,p.den∣D):(RK R ps k w).den∣D:=by
 have hk':k<R.asks.length:=by rw[<- h.len];exact hk
 have e1:(ps.getD k 0).den∣D:=dp _ (by rw[bC hk];exact UD hk);unfold RK;cases w
 . exact e1
 . refine mh d0 ?_ e1;rw[jE hk'];exact da _ (UD hk')
theorem Hh{R:aL}{ps:List Rat}(h:d8 R ps){k l:Nat}(hk:k<ps.length)(hl:l<ps.length)(hkl:k≠l)(w:Bool×Bool):Mv R ps (RQ R ps k l w):=by obtain⟨m1,m2,m3,_⟩:=h.ms hk hl w.1 w.2;exact⟨hk,hl,hkl,m1,m2,m3⟩
theorem Hi{R:aL}{ps:List Rat}(h:d8 R ps){k l:Nat}(hk:k<ps.length)(hl:l<ps.length)(hkl:k≠l)(w:Bool×Bool):d8 R (RN ps (RQ R ps k l w)):=by
 refine h.slid (Hh h hk hl hkl w) λD d0 da dp=>?_;show(RL R ps k w.1 l w.2).den∣D;rcases(h.ms hk hl w.1 w.2).2.2.2 with e|e
 . rw[e];exact Ai h hk _ d0 da dp
 . rw[e];exact Ai h hl _ d0 da dp
theorem Hj{R:aL}{ps:List Rat}{k:Nat}{w:Bool}:¬(0<RM (ps.getD k 0) w (RK R ps k w)/\RM (ps.getD k 0) w (RK R ps k w)<R.sz k):=by
 unfold RM RK
 cases w with
 | true =>
  simp only[if_true];rw[JQ];exact λz=>Rat.lt_irrefl z.2
 | false =>
  simp only[Bool.false_eq_true,if_false];rw[Dt];exact λz=>Rat.lt_irrefl z.1
theorem yt{p q:Nat->Bool}:∀{l:List Nat}{x:Nat},(∀y∈l,q y=true->p y=true)->x∈l->p x=true->q x=false->(l.filter q).length<(l.filter p).length
 |[],_,_,hx,_,_=>by cases hx
 | a::l,x,h,hx,hp,hq=>by
  have le:∀m:List Nat,(∀y∈m,q y=true->p y=true)->(m.filter q).length<=(m.filter p).length:=λm hm=>by
   induction m with
   |nil=>exact UJ _
   | cons b m ih =>
    have ih:=ih λy hy=>hm y (tu _ hy);have hb:=hm b Uz;rw[List.filter_cons,List.filter_cons];cases e1:q b<;>cases e2:p b<;>simp_all<;>omega
  have h':∀y∈l,q y=true->p y=true:=λy hy=>h y (tu _ hy);rw[List.filter_cons,List.filter_cons];rcases UK.mp hx with rfl|hx
  . rw[hp,hq];have:=le l h';simp;omega
  . have ih:=yt h' hx hp hq;have hb:=h a Uz;cases e1:q a<;>cases e2:p a<;>simp_all<;>omega
theorem Aj{R:aL}{ps:List Rat}(h:d8 R ps){k l:Nat}(hk:k∈RU R ps)(hl:l∈RU R ps)(hkl:k≠l)(w:Bool×Bool):(RU R (RN ps (RQ R ps k l w))).length<(RU R ps).length:=by
 obtain⟨hk1,hk2⟩:=jt hk;obtain⟨hl1,hl2⟩:=jt hl;have at_:=wF (s:=RQ R ps k l w) hk1 hl1 hkl;unfold RU;rw[j3]
 have up:∀y∈List.range ps.length,RT R (RN ps (RQ R ps k l w)) y=true->RT R ps y=true:=λy _ hy=>by
  unfold RT at hy ⊢;rw[at_]at hy;by_cases e1:y=k
  . subst e1;exact hk2
  .
   by_cases e2:y=l
   . subst e2;exact hl2
   . rw[if_neg (show ¬y=(RQ R ps k l w).k from e1),if_neg (show ¬y=(RQ R ps k l w).l from e2)]at hy;exact hy
 rcases(h.ms hk1 hl1 w.1 w.2).2.2.2 with e|e
 . refine yt up (List.mem_range.mpr hk1) hk2 ?_;unfold RT;rw[at_,if_pos (show k=(RQ R ps k l w).k from rfl)];show(decide (0<RM (ps.getD k 0) w.1 (RL R ps k w.1 l w.2)) && decide (RM (ps.getD k 0) w.1 (RL R ps k w.1 l w.2)<R.sz k))=false;rw[e];have:=Hj (R:=R) (ps:=ps) (k:=k) (w:=w.1);rw[<- Bool.not_eq_true,Bool.and_eq_true,UG,UG];exact this
 . refine yt up (List.mem_range.mpr hl1) hl2 ?_;unfold RT;rw[at_,if_neg (show ¬l=(RQ R ps k l w).k from Ne.symm hkl),if_pos (show l=(RQ R ps k l w).l from rfl)];show(decide (0<RM (ps.getD l 0) w.2 (RL R ps k w.1 l w.2)) && decide (RM (ps.getD l 0) w.2 (RL R ps k w.1 l w.2)<R.sz l))=false;rw[e];have:=Hj (R:=R) (ps:=ps) (k:=l) (w:=w.2);rw[<- Bool.not_eq_true,Bool.and_eq_true,UG,UG];exact this
noncomputable def Ak(R:aL)(ps:List Rat):Option g8:=(RS (RR R) (RU R ps)).map λp=>RQ R ps p.1 p.2 (bJ R.n (aM R p.1) (aM R p.2))
noncomputable def tI(R:aL):Nat->List Rat->List g8
 |0,_=>[]
 | n+1,ps=>match Ak R ps with
  |none=>[]
  |some s=>s::tI R n (RN ps s)
theorem wG{R:aL}{ps:List Rat}(h:d8 R ps){k:Nat}(hk:k<ps.length)(w:Bool):RB 3700 (RK R ps k w):=by
 unfold RK;cases w
 . exact(h.rb hk).mono x_
 . exact((h.sz_rb hk).sub (h.rb hk)).mono x_
end My
set_option exponentiation.threshold 5000
namespace My
open PySem L2
noncomputable def QO(R:aL)(ps:List Rat)(s:g8):Bool:=!decide (s.k=s.l) && (lg R.n (aM R s.k) s.kw (aM R s.l) s.lw && (decide (0<s.am) && !decide (RL R ps s.k s.kw s.l s.lw<s.am)))
theorem Hl{R:aL}{ps:List Rat}{k:Nat}(h:RT R ps k=true)(w:Bool):0<RK R ps k w:=by
 unfold RT at h;rw[Bool.and_eq_true,UG,UG]at h;unfold RK;cases w
 . exact h.1
 . show 0<R.sz k-ps.getD k 0;have:=h.2;rw[<- Rat.not_le]at this ⊢;intro z;apply this;have:=(Rat.add_le_add_left (c:=ps.getD k 0)).mpr z;rw[JQ,Rat.add_zero]at this;exact this
theorem uG{R:aL}{ps:List Rat}{s:g8}(h:d8 R ps)(e:Ak R ps=some s):Mv R ps s/\QO R ps s=true/\d8 R (RN ps s)/\(RU R (RN ps s)).length<(RU R ps).length/\RB 4000 s.am/\s.k∈RU R ps/\s.l∈RU R ps:=by
 unfold Ak at e
 cases e1:RS (RR R) (RU R ps)with
 |none=>rw[e1]at e;cases e
 | some p =>
  obtain⟨k,l⟩:=p;rw[e1]at e;obtain⟨hk,hl,hkl,hc⟩:=pT (qv R ps) e1;obtain⟨hk1,hk2⟩:=jt hk;obtain⟨hl1,hl2⟩:=jt hl;have hk':k<R.asks.length:=by rw[<- h.len];exact hk1
  have hl':l<R.asks.length:=by rw[<- h.len];exact hl1
  have hkl':k≠l:=by omega
  have ee:RQ R ps k l (bJ R.n (aM R k) (aM R l))=s:=Option.some.inj e;subst ee;refine⟨Hh h hk1 hl1 hkl' _,?_,Hi h hk1 hl1 hkl' _,Aj h hk hl hkl' _,?_,hk,hl⟩
  .
   unfold QO;show(!decide (k=l) && (lg R.n (aM R k) (bJ R.n (aM R k) (aM R l)).1 (aM R l) (bJ R.n (aM R k) (aM R l)).2 && (decide (0<RL R ps k (bJ R.n (aM R k) (aM R l)).1 l (bJ R.n (aM R k) (aM R l)).2) && !decide (RL R ps k (bJ R.n (aM R k) (aM R l)).1 l (bJ R.n (aM R k) (aM R l)).2<RL R ps k (bJ R.n (aM R k) (aM R l)).1 l (bJ R.n (aM R k) (aM R l)).2))))=true;rw[decide_eq_false hkl',Gq (by rw[bH hk'];exact h.ok.ask _ (UD hk')) (by rw[bH hl'];exact h.ok.ask _ (UD hl')) hc,decide_eq_false (Rat.lt_irrefl),decide_eq_true]
   . rfl
   .
    rcases(h.ms hk1 hl1 (bJ R.n (aM R k) (aM R l)).1 (bJ R.n (aM R k) (aM R l)).2).2.2.2 with z|z
    . rw[z];exact Hl hk2 _
    . rw[z];exact Hl hl2 _
  .
   show RB 4000 (RL R ps k _ l _);rcases(h.ms hk1 hl1 (bJ R.n (aM R k) (aM R l)).1 (bJ R.n (aM R k) (aM R l)).2).2.2.2 with z|z
   . rw[z];exact(wG h hk1 _).mono x_
   . rw[z];exact(wG h hl1 _).mono x_
theorem Du{R:aL}:∀(m:Nat)(ps:List Rat),d8 R ps->(tI R m ps).length<=(RU R ps).length
 |0,_,_=>Nat.zero_le _
 | m+1,ps,h=>by
  unfold tI
  cases e:Ak R ps with
  |none=>exact Nat.zero_le _
  | some s =>
   obtain⟨_,_,h2,h3,_⟩:=uG h e;have:=Du m (RN ps s) h2;simp only[List.length_cons];omega
end My
set_option exponentiation.threshold 5000
namespace My
open PySem L2
end My
set_option exponentiation.threshold 5000
namespace My
open PySem L2
theorem Gs{n V W:Nat}(h:n*W<V):(n:Rat)*(W:Rat)<(V:Rat):=by
 have h1:(((n*W:Nat):Int):Rat)<((V:Int):Rat):=Rat.intCast_lt_intCast.mpr xL;have h2:(((n*W:Nat):Int):Rat)=(n:Rat)*(W:Rat):=by push_cast;rfl
 rw[<- h2];exact h1
theorem Pc{q:Rat}(h:RB 60 q):q<((2^60:Nat):Rat):=by
 rw[Rat.lt_iff];have h1:=h.1;have h2:=q.den_pos;have e1:((2^60:Nat):Rat).num=((2^60:Nat):Int):=rfl;have e2:((2^60:Nat):Rat).den=1:=rfl;rw[e1,e2];have h3:q.num<((2^60:Nat):Int):=by omega
 have h4:((2^60:Nat):Int)*1<=((2^60:Nat):Int)*(q.den:Int):=Int.mul_le_mul_of_nonneg_left xL xL;omega
theorem wH(R:aL):fm (R.asks.map eM)=(List.range R.asks.length).map λ(k:Nat)=>D.tup [.int (k:Int),eM (aM R k)]:=by
 apply List.ext_getElem?;intro k;by_cases hk:k<R.asks.length
 . rw[List.getElem?_map,List.getElem?_range hk];simp[fm,hk,aM]
 . rw[List.getElem?_eq_none (by simp[fm];omega),List.getElem?_eq_none (by simp;omega)]
theorem JT{R:aL}{ps:List Rat}(h:d8 R ps):(∀k t,RB 1900 (iV R.n (R.asks.take k) (ps.take k) t))/\∀t,RB 1900 (iV R.n R.asks ps t):=by
 obtain⟨D,d0,d1,da,dp⟩:=h.cd
 have key:∀k t,RB 1900 (iV R.n (R.asks.take k) (ps.take k) t):=λk t=>by
  unfold iV;have hz:∀ x∈(R.asks.take k).zip (ps.take k),∃ i,i < R.asks.length/\x=(R.asks.getD i ⟨"",0,0,0⟩,ps.getD i 0):=λx hx=>by obtain⟨i,hi,rfl⟩:=List.getElem_of_mem hx;rw[List.length_zip,List.length_take,List.length_take,h.len]at hi;refine⟨i,xL,?_⟩;rw[List.getElem_zip,List.getElem_take,List.getElem_take,UE,Ux xL,bC (by rw[h.len];omega)];rfl
  have hs:∀x∈(R.asks.take k).zip (ps.take k),0<=pS R.n x.1 x.2 t/\pS R.n x.1 x.2 t<((2^300:Nat):Rat)/\(pS R.n x.1 x.2 t).den∣D:=λx hx=>by
   obtain⟨i,hi,rfl⟩:=hz x hx;obtain⟨l0,l1⟩:=h.lo i (by rw[h.len];exact hi);rw[jE hi]at l1;have e:R.asks.getD i ⟨"",0,0,0⟩=R.asks[i]:=by rw[UE,Ux hi]; rfl
   rw[e];have hd1:=da _ (UD hi);have hd2:(ps.getD i 0).den∣D:=by rw[bC (by rw[h.len];exact hi)];exact dp _ (UD _)
   have b:=ym (n:=R.n) (a:=R.asks[i]) l0 l1 t;refine⟨b.1,RO b.2 (h.ok.ask _ (UD hi)).lt,?_⟩;show(pS R.n R.asks[i] (ps.getD i 0) t).den∣D;unfold pS;split
   . exact hd2
   . exact mh d0 hd1 hd2
  refine RB.of_val (v:=400) (d:=1500) (qu _ _ λx hx=>(hs x hx).1) ?_ ?_
  . refine UI (Nat.le_of_dvd d0 (Dn d0 _ λq hq=>?_)) d1;obtain⟨x,hx,rfl⟩:=List.mem_map.mp hq;exact(hs x hx).2.2
  .
   refine Rat.not_le.mp λhge=>?_;have h1:=Do (V:=((2^300:Nat):Rat)) x_ (((R.asks.take k).zip (ps.take k)).map λx=>pS R.n x.1 x.2 t) λq hq=>by obtain⟨x,hx,rfl⟩:=List.mem_map.mp hq;exact(hs x hx).2.1
   rw[UC]at h1
   have h2:=Gs (n:=((R.asks.take k).zip (ps.take k)).length) (V:=2^400) (W:=2^300) (by
    have:=h.ok.few;have hl:((R.asks.take k).zip (ps.take k)).length<=20:=by rw[List.length_zip,List.length_take];omega
    exact UI (Nat.mul_le_mul_right _ hl) x_)
   exact absurd (Rat.le_trans hge h1) (Rat.not_le.mpr h2)
 refine⟨key,λt=>?_⟩;have:=key R.asks.length t;rwa [List.take_of_length_le (UJ _),List.take_of_length_le (by rw[h.len];exact UJ _)]at this
noncomputable def vk:D->Bool
 |.str z=>decide (z=Str.ofString "on") ||decide (z=Str.ofString "back")
 |_=>false
theorem JU(z:Str):Qp (.str z) [.str (Str.ofString "on"),.str (Str.ofString "back")]=vk (.str z):=by
 have e1:(Str.ofString "on" == z)=decide (z=Str.ofString "on"):=by rw[Bool.eq_iff_iff,beq_iff_eq,decide_eq_true_iff]; exact eq_comm
 have e2:(Str.ofString "back" == z)=decide (z=Str.ofString "back"):=by rw[Bool.eq_iff_iff,beq_iff_eq,decide_eq_true_iff]; exact eq_comm
 show(Str.ofString "on" == z ||(Str.ofString "back" == z ||false))=_;rw[e1,e2,Bool.or_false];rfl
theorem Dv{h:D->D}{caps:Ev}{te:W L}{k:List D->Ev->Prop}(xs:List D)(acc:List D)(l:L)
  (step:∀a∈xs,∀Q:Ev->D->Prop,Q (.d a::caps) (h a)->te (.d a::caps) λr Z3=>Qv r λy=>Q Z3 y)
  (PR:∀l',k (acc++xs.map h) (l'::caps)):dz (bu 0) g6 te xs (l::caps) acc k:=by
 have:=gO (enc:=id) (h:=h) xs acc l step PR;rwa [List.map_id]at this
structure Pt (n:Nat) (d:D):Prop where
 dep:zN d<=n
 wid:BE d<=99
 same:zU (20+n) d=true
theorem Pt.int(i:Int):Pt 0 (.int i):=⟨by simp[zN],by simp[BE],by simp[zU]⟩
theorem Pt.str(z:Str):Pt 0 (.str z):=⟨by simp[zN],by simp[BE],by simp[zU]⟩
end My
set_option exponentiation.threshold 5000
namespace My
open PySem L2
noncomputable def mi:D->Option Bool
 |.str z=>if z=dA true then some true else if z=dA false then some false else none
 |_=>none
noncomputable def qw:D->Option Nat
 |.int i=>if 0<=i then some i.toNat else none
 |_=>none
noncomputable def wJ(d:D):Option Rat:=match d with
 |.tup [.int i,.int j]=>if yp (.tup [.int i,.int j])then some (Rat.divInt i j)else none
 |_=>none
noncomputable def se:D->Option g8
 | .tup [a,b,c,d,e]=>match qw a,mi b,qw c,mi d,wJ e with
  |some k,some kw,some l,some lw,some am=>some ⟨k,kw,l,lw,am⟩
  |_,_,_,_,_=>none
 |_=>none
theorem uH{d:D}{w:Bool}(h:mi d=some w):d=.str (dA w):=by
 unfold mi at h;split at h
 .
  split at h
  . rename_i e;cases h;rw[e]
  .
   split at h
   . rename_i e;cases h;rw[e]
   . cases h
 . cases h
theorem qx(w:Bool):mi (.str (dA w))=some w:=by cases w<;>decide +kernel
theorem uI(d:D):vk d=(mi d).isSome:=by
 unfold vk mi
 cases d with
 | str z =>
  have e1:dA true=Str.ofString "on":=rfl;have e2:dA false=Str.ofString "back":=rfl;rw[<- e1,<- e2];by_cases h1:z=dA true
  . simp[h1]
  .
   by_cases h2:z=dA false
   . simp[h1,h2];split<;>rfl
   . simp[h1,h2]
 |_=>rfl
theorem Al{d:D}{k:Nat}(h:qw d=some k):d=.int (k:Int):=by
 unfold qw at h;split at h
 .
  split at h
  .
   cases h
   congr 1
   omega
  . cases h
 . cases h
theorem Dw(k:Nat):qw (.int (k:Int))=some k:=by
 show(if(0:Int)<=(k:Int)then some ((k:Int)).toNat else none)=_
 rw[if_pos (by omega)];rfl
theorem Gu{d:D}{q:Rat}(h:wJ d=some q):d=QS q:=by
 unfold wJ at h;split at h
 .
  rename_i i j;split at h
  .
   rename_i e;cases h;show D.tup [.int i,.int j]=_;have e':(decide (1<=j) && decide ((Int.gcd i j:Int)=1))=true:=e;rw[Bool.and_eq_true,UG,UG]at e';obtain⟨h1,h2⟩:=e';have h3:Nat.gcd i.natAbs j.natAbs=1:=Int.ofNat_inj.mp h2;obtain⟨m,rfl⟩:=Int.eq_ofNat_of_zero_le (show 0<=j by omega);have hm:m≠0:=by omega
   have h3':i.natAbs.Coprime m:=by rw[Int.natAbs_natCast]at h3;exact h3
   have em:Rat.divInt i (m:Int)=Rat.mk' i m hm h3':=by rw[Rat.mk_eq_divInt]
   rw[em];rfl
  . cases h
 . cases h
theorem Gv(q:Rat):yp (QS q)=true:=by unfold QS yp;have h1:=q.den_pos;have h2:=q.reduced;unfold Nat.Coprime at h2;rw[Bool.and_eq_true,UG,UG];refine⟨xL,?_⟩;show((Nat.gcd q.num.natAbs ((q.den:Int)).natAbs:Nat):Int)=1;rw[Int.natAbs_natCast,h2];rfl
theorem Gw(q:Rat):wJ (QS q)=some q:=by
 show(if yp (.tup [.int q.num,.int (q.den:Int)])then some (Rat.divInt q.num (q.den:Int))else none)=_
 rw[show yp (.tup [.int q.num,.int (q.den:Int)])=true from Gv q,if_pos rfl,Rat.num_divInt_den]
theorem JV(d:D):yp d=(wJ d).isSome:=by
 by_cases h:∃i j,d=.tup [.int i,.int j]
 .
  obtain⟨i,j,rfl⟩:=h
  show _=(if yp (.tup [.int i,.int j])then some (Rat.divInt i j)else none).isSome
  cases e:yp (.tup [.int i,.int j])<;>rfl
 .
  have hn:∀i j,d≠.tup [.int i,.int j]:=λi j e=>h ⟨i,j,e⟩;rw[Dp hn];unfold wJ;split
  . exact absurd rfl (hn _ _)
  . rfl
theorem qy(s:g8):se (RJ s)=some s:=by simp only[RJ,se,Dw,qx,Gw]
theorem Dx{d:D}{s:g8}(h:se d=some s):d=RJ s:=by
 unfold se at h;split at h
 .
  split at h
  . rename_i h1 h2 h3 h4 h5;cases h;rw[Al h1,uH h2,Al h3,uH h4,Gu h5];rfl
  . cases h
 . cases h
noncomputable def sf(n:Nat)(d:D):Bool:=match se d with
 |some s=>decide (s.k<n) && decide (s.l<n)
 |none=>false
noncomputable def qz(d:D)(n:Int):Bool:=match d with
 |.int i=>decide (0<=i/\i<n)
 |_=>false
theorem Am(d:D)(n:Nat):qz d (n:Int)=match qw d with|some k=>decide (k<n)|none=>false:=by
 unfold qz qw
 cases d with
 | int i =>
  by_cases h:0<=i
  . simp only[h,if_true,true_and];rw[decide_eq_decide];omega
  . simp only[h,if_false,false_and,decide_false]
 |_=>rfl
theorem JW(n:Nat)(a b c d e:D):sf n (.tup [a,b,c,d,e])=(qz a n && (qz c n && (vk b && (vk d && yp e)))):=by
 rw[Am,Am,uI,uI,JV];unfold sf
 have e0:se (.tup [a,b,c,d,e])=match qw a,mi b,qw c,mi d,wJ e with
  |some k,some kw,some l,some lw,some am=>some ⟨k,kw,l,lw,am⟩
  |_,_,_,_,_=>none:=rfl
 rw[e0];cases qw a<;>cases mi b<;>cases qw c<;>cases mi d<;>cases wJ e<;>simp
theorem Dy{n:Nat}{xs:List D}(h:xs.length≠5):sf n (.tup xs)=false:=by
 have:se (.tup xs)=none:=by
  unfold se;split
  . rename_i eq;cases eq;exact absurd rfl h
  . rfl
 unfold sf;rw[this]
theorem Gx{n:Nat}{d:D}(h:∀xs,d≠.tup xs):sf n d=false:=by
 have:se d=none:=by
  unfold se;split
  . exact absurd rfl (h _)
  . rfl
 unfold sf;rw[this]
theorem Pd{xs:List D}(h:xs.length=5):∃a b c d e,xs=[a,b,c,d,e]:=by
 match xs,h with
 |[a,b,c,d,e],_=>exact⟨a,b,c,d,e,rfl⟩
noncomputable def RV(R:aL)(ps:List Rat)(d:D):Bool:=match se d with
 |some s=>decide (s.k<ps.length) && (decide (s.l<ps.length) && QO R ps s)
 |none=>false
theorem Hm{R:aL}{ps:List Rat}{s:g8}(hk:s.k<ps.length)(hl:s.l<ps.length):RV R ps (RJ s)=QO R ps s:=by unfold RV;rw[qy];simp[hk,hl]
theorem Hn{R:aL}{ps:List Rat}{d:D}(h:RV R ps d=true):∃s,d=RJ s/\s.k<ps.length/\s.l<ps.length/\QO R ps s=true:=by
 unfold RV at h;split at h
 . rename_i s e;rw[Bool.and_eq_true,Bool.and_eq_true,UG,UG]at h;exact⟨s,Dx e,h.1,h.2.1,h.2.2⟩
 . cases h
end My
set_option exponentiation.threshold 5000
namespace My
open PySem L2
noncomputable def RW(b:Bool)(q:Rat):Rat:=if b then q else -q
theorem Dz{R:aL}{ps:List Rat}{s:g8}(h:d8 R ps)(e:Ak R ps=some s){D:Nat}(d0:0<D)(da:∀a∈R.asks,a.size.den∣D)(dp:∀p∈ps,p.den∣D):s.am.den∣D:=by
 unfold Ak at e
 cases e1:RS (RR R) (RU R ps)with
 |none=>rw[e1]at e;cases e
 | some p =>
  obtain⟨k,l⟩:=p;rw[e1]at e;obtain⟨hk,hl,hkl,hc⟩:=pT (qv R ps) e1;obtain⟨hk1,hk2⟩:=jt hk;obtain⟨hl1,hl2⟩:=jt hl;have ee:RQ R ps k l (bJ R.n (aM R k) (aM R l))=s:=Option.some.inj e;subst ee;show(RL R ps k _ l _).den∣D;rcases(h.ms hk1 hl1 (bJ R.n (aM R k) (aM R l)).1 (bJ R.n (aM R k) (aM R l)).2).2.2.2 with z|z
  . rw[z];exact Ai h hk1 _ d0 da dp
  . rw[z];exact Ai h hl1 _ d0 da dp
theorem Ho{n:Nat}{q:Rat}(h:RB n q):RB n (-q):=by
 refine⟨?_,?_⟩
 . rw[Rat.neg_num,Int.natAbs_neg];exact h.1
 . rw[Rat.neg_den];exact h.2
noncomputable def Hq(n:Nat)(d:D):Bool:=match d with
 |.lst xs=>decide (xs.length=n) && xs.all vk
 |_=>false
end My
set_option exponentiation.threshold 5000
namespace My
open PySem L2
noncomputable def DA(R:aL):Nat->List Rat->List Rat
 |0,ps=>ps
 | m+1,ps=>match Ak R ps with
  |none=>ps
  |some s=>DA R m (RN ps s)
end My
set_option exponentiation.threshold 5000
namespace My
open PySem L2
noncomputable def RX(a:Ru):Nat:=min a.one a.other
noncomputable def RY(R:aL)(k:Nat):Nat:=RX (R.asks.getD k ⟨"",0,0,0⟩)
noncomputable def si(R:aL)(k:Nat):Bool:=decide ((R.asks.getD k ⟨"",0,0,0⟩).one < (R.asks.getD k ⟨"",0,0,0⟩).other)
noncomputable def RZ(R:aL)(ks:List Nat)(g:Rat):Rat:=ks.foldl (λg k=>if g<R.sz k then R.sz k else g) g
noncomputable def cu(R:aL)(ks:List Nat):Rat:=RZ R ks 0*(1 / 2)
noncomputable def bo(R:aL)(ps:List Rat)(k:Nat)(w:Bool):Rat:=(if w=si R k then R.sz k else 0)-(if si R k=true then ps.getD k 0 else R.sz k-ps.getD k 0)
noncomputable def R0(R:aL)(ps:List Rat)(hf t:Rat)(k:Nat):Bool:=if hf<t+bo R ps k (si R k)then !si R k else si R k
noncomputable def R1(R:aL)(ps:List Rat)(hf:Rat):Rat->List Bool->List Nat->List Bool
 |_,ws,[]=>ws
 |t,ws,k::os=>R1 R ps hf (t+bo R ps k (R0 R ps hf t k)) (ws.set k (R0 R ps hf t k)) os
noncomputable def R3(R:aL)(ps:List Rat):List Bool:=(R.asks.zip ps).map λx=>decide (x.2=x.1.size)
noncomputable def R4(R:aL)(ps:List Rat)(ks:List Nat)(ws:List Bool)(k:Nat):Bool:=decide (k∈ks) ||decide (R.sz k=0) ||decide (ws.getD k true=decide (ps.getD k 0=R.sz k))
noncomputable def R5(hf:Rat):Rat->List Rat->Bool
 |_,[]=>true
 |t,g::gs=>!(decide (hf<t+g) ||decide (t+g<0-hf)) && R5 hf (t+g) gs
noncomputable def R6(R:aL)(ps:List Rat)(ws:List Bool)(os:List Nat):List Rat:=os.map λk=>bo R ps k (ws.getD k true)
theorem DB(R:aL)(k:Nat):R.asks.getD k ⟨"",0,0,0⟩=aM R k:=by unfold aM;rw[UE]
theorem j4(R:aL)(k:Nat):RY R k=eh (aM R k):=by unfold RY RX eh;rw[DB]
theorem DC(R:aL)(k:Nat):si R k=RP (aM R k):=by unfold si RP;rw[DB]
theorem DD(R:aL):∀(ks:List Nat)(g:Rat),g<=RZ R ks g/\∀k∈ks,R.sz k<=RZ R ks g
 |[],g=>⟨Rat.le_refl,λk h=>by cases h⟩
 | k::ks,g=>by
  obtain⟨h1,h2⟩:=DD R ks (if g<R.sz k then R.sz k else g)
  have e:RZ R (k::ks) g=RZ R ks (if g<R.sz k then R.sz k else g):=rfl
  rw[e]
  have a:g<=(if g<R.sz k then R.sz k else g)/\R.sz k<=(if g<R.sz k then R.sz k else g):=by
   split
   . rename_i h;exact⟨Rat.le_of_lt h,Rat.le_refl⟩
   . rename_i h;exact⟨Rat.le_refl,Rat.not_lt.mp h⟩
  refine⟨Rat.le_trans a.1 h1,λx hx=>?_⟩;rcases UK.mp hx with rfl|hx
  . exact Rat.le_trans a.2 h1
  . exact h2 x hx
theorem An(R:aL)(ks:List Nat):cu R ks+cu R ks=RZ R ks 0:=by unfold cu;grind
theorem JX(R:aL)(ks:List Nat):0<=cu R ks:=by have:=(DD R ks 0).1;have:=An R ks;grind
theorem JY(R:aL)(ks:List Nat){k:Nat}(h:k∈ks):R.sz k<=cu R ks+cu R ks:=by rw[An];exact(DD R ks 0).2 k h
theorem Hr{R:aL}{ps:List Rat}{hf:Rat}:∀(os:List Nat)(t:Rat)(ws:List Bool),(R1 R ps hf t ws os).length=ws.length
 |[],_,_=>rfl
 | k::os,t,ws=>by show(R1 R ps hf _ (ws.set k _) os).length=_;rw[Hr,List.length_set]
theorem Hs{R:aL}{ps:List Rat}{hf:Rat}:∀(os:List Nat)(t:Rat)(ws:List Bool){j:Nat},j∉os->(R1 R ps hf t ws os).getD j true=ws.getD j true
 |[],_,_,_,_=>rfl
 | k::os,t,ws,j,h=>by show(R1 R ps hf _ (ws.set k _) os).getD j true=_;rw[Hs os _ _ (λz=>h (tu _ z)),UE,List.getElem?_set_ne (λz=>h (by simp[z])),UE]
theorem JZ{R:aL}{ps:List Rat}{k:Nat}(h0:0<=ps.getD k 0)(h1:ps.getD k 0<=R.sz k):0<=bo R ps k (si R k)/\bo R ps k (!si R k)=bo R ps k (si R k)-R.sz k/\bo R ps k (!si R k)<=0:=by unfold bo;cases si R k<;>simp<;>grind
theorem Mw{R:aL}{ps:List Rat}{hf:Rat}:∀(os:List Nat)(t:Rat)(ws:List Bool),os.Nodup->(∀k∈os,k<ws.length/\0<=ps.getD k 0/\ps.getD k 0<=R.sz k/\R.sz k<=hf+hf)->0-hf<=t->t<=hf->R5 hf t (R6 R ps (R1 R ps hf t ws os) os)=true
 |[],_,_,_,_,_,_=>rfl
 | k::os,t,ws,hn,h,t0,t1=>by
  obtain⟨n1,n2⟩:=List.nodup_cons.mp hn;obtain⟨hk,p0,p1,s1⟩:=h k Uz;obtain⟨g0,g1,g2⟩:=JZ p0 p1;have ew:(R1 R ps hf t ws (k::os)).getD k true=R0 R ps hf t k:=by show(R1 R ps hf _ (ws.set k _) os).getD k true=_;rw[Hs os _ _ n1,UE,List.getElem?_set_self hk];rfl
  have eg:R6 R ps (R1 R ps hf t ws (k::os)) (k::os)=bo R ps k (R0 R ps hf t k)::R6 R ps (R1 R ps hf (t+bo R ps k (R0 R ps hf t k)) (ws.set k (R0 R ps hf t k)) os) os:=by show bo R ps k _::_=_;rw[ew];rfl
  rw[eg]
  have b:0-hf<=t+bo R ps k (R0 R ps hf t k)/\t+bo R ps k (R0 R ps hf t k)<=hf:=by
   unfold R0;split
   . grind
   . rename_i c;have:=Rat.not_lt.mp c;grind
  show(!(decide (hf<t+bo R ps k (R0 R ps hf t k)) ||decide (t+bo R ps k (R0 R ps hf t k)<0-hf)) && _)=true;rw[decide_eq_false (Rat.not_lt.mpr b.2),decide_eq_false (Rat.not_lt.mpr b.1)];exact Mw os _ _ n2 (λj hj=>by rw[List.length_set];exact h j (tu _ hj)) b.1 b.2
theorem DE{as bs:List Rat}(h:as.Perm bs):gG as=gG bs:=by
 induction h with
 |nil=>rfl
 |cons x _ ih=>rw[aQ,aQ,ih]
 |swap x y l=>rw[aQ,aQ,aQ,aQ];grind
 |trans _ _ a b=>rw[a,b]
theorem Ao{R:aL}{ps:List Rat}(h:ps.length=R.asks.length)(t:Nat):iV R.n R.asks ps t=gG ((List.range R.asks.length).map λk=>pS R.n (aM R k) (ps.getD k 0) t):=by
 unfold iV
 congr 1
 refine List.ext_getElem (by simp[h]) λj h1 h2=>?_;have hj:j<R.asks.length:=by simpa using h2
 rw[List.getElem_map,List.getElem_zip,List.getElem_map,List.getElem_range,bH hj,bC xL]
theorem Ap{R:aL}{qs:List Rat}{os:List Nat}(hc:RS (RR R) (RU R qs)=none)(op:os.Perm (RU R qs))(ow:os.Pairwise λi j=>RY R i<=RY R j) :
  os.Pairwise λi j=>eh (aM R i)<eh (aM R j)/\eh (aM R j)<eZ (aM R i)/\eZ (aM R i)<eZ (aM R j):=by
 have hn:os.Nodup:=op.nodup_iff.mpr ((qv R qs).imp λh=>Nat.ne_of_lt h);have cr:=Ag (qv R qs) hc;have ow2:os.Pairwise λi j=>RY R i<=RY R j/\i≠j:=List.Pairwise.and ow hn;refine List.Pairwise.imp_of_mem (λ{i j} hi hj h=>?_) ow2;obtain⟨h1,h2⟩:=h;rw[j4,j4]at h1
 have c:RR R i j=true∨RR R j i=true:=by
  rcases Nat.lt_or_gt_of_ne h2 with q|q
  . exact .inl (cr i j (op.mem_iff.mp hi) (op.mem_iff.mp hj) q)
  . exact .inr (cr j i (op.mem_iff.mp hj) (op.mem_iff.mp hi) q)
 unfold RR Mu at c;simp only[Bool.or_eq_true,UG]at c;omega
theorem Ht{R:aL}{qs:List Rat}(hS:d8 R qs):(R3 R qs).length=R.asks.length:=by have:=hS.len;unfold R3;rw[UC,List.length_zip];omega
theorem J1{R:aL}{qs:List Rat}(hS:d8 R qs){os:List Nat}(op:os.Perm (RU R qs)):R5 (cu R (RU R qs)) 0 (R6 R qs (R1 R qs (cu R (RU R qs)) 0 (R3 R qs) os) os)=true:=by have hn:os.Nodup:=op.nodup_iff.mpr ((qv R qs).imp λh=>Nat.ne_of_lt h);have h0:=JX R (RU R qs);refine Mw os 0 _ hn (λk hk=>?_) (by grind) h0;have hk':=(jt (op.mem_iff.mp hk)).1;have lo:=hS.lo k hk';exact⟨by rw[Ht hS,<- hS.len];exact hk',lo.1,lo.2,JY R _ (op.mem_iff.mp hk)⟩
theorem Aq{f:Nat->Nat}:∀{as bs:List Nat},as.Pairwise (λi j=>f i<f j)->bs.Pairwise (λi j=>f i<=f j)->as.Perm bs->as=bs
 |[],bs,_,_,p=>(List.Perm.nil_eq p)
 |a::as,[],_,_,p=>absurd p.length_eq v6
 | a::as,b::bs,ha,hb,p=>by
  obtain⟨a1,a2⟩:=List.pairwise_cons.mp ha;obtain⟨b1,b2⟩:=List.pairwise_cons.mp hb
  have e:a=b:=by
   rcases UK.mp (p.mem_iff.mp (Uz (a:=a) (l:=as)))with q|q
   . exact q
   .
    rcases UK.mp (p.mem_iff.mpr (Uz (a:=b) (l:=bs)))with r|r
    . exact r.symm
    . have:=a1 b r;have:=b1 a q;omega
  subst e;rw[Aq a2 b2 p.cons_inv]
theorem uJ{R:aL}{qs:List Rat}{os os':List Nat}(hc:RS (RR R) (RU R qs)=none)(op:os.Perm (RU R qs))(ow:os.Pairwise λi j=>RY R i<=RY R j)(op':os'.Perm (RU R qs))(ow':os'.Pairwise λi j=>RY R i<=RY R j):os=os':=by refine Aq (f:=RY R) ((Ap hc op ow).imp λh=>?_) ow' (op.trans op'.symm);rw[j4,j4];exact h.1
end My
set_option exponentiation.threshold 5000
namespace My
open PySem L2
structure oX (R:aL) (h:Nat):Prop where
 ok:R.Ok
 rb:∀a∈R.asks,RB 60 a.size
 pos:∀a∈R.asks,0<a.size
 few:R.asks.length<=5
 ne:0<R.asks.length
 h5:h<=5
 hn:2*h<=R.n
 ends:∀a∈R.asks,eh a<h/\eZ a=eh a+h
 nd:(R.asks.map eh).Nodup
structure di (R:aL) (h:Nat) (ps:List Rat):Prop where
 ch:oX R h
 sl:d8 R ps
 pt:∀k,k<R.asks.length->0<ps.getD k 0/\ps.getD k 0<R.sz k
 v:∀k,k<R.asks.length->R.sz k<((2^60:Nat):Rat)
section
variable{R:aL}{h:Nat}{ps:List Rat}
theorem di.all(c:di R h ps):RU R ps=List.range R.asks.length:=by unfold RU;rw[c.sl.len,List.filter_eq_self];intro k hk;have:=c.pt k (List.mem_range.mp hk);unfold RT;rw[Bool.and_eq_true,UG,UG];exact this
theorem oX.lo(c:oX R h){k:Nat}(hk:k<R.asks.length):eh (aM R k)<h/\eZ (aM R k)=eh (aM R k)+h:=by rw[bH hk];exact c.ends _ (UD hk)
theorem oX.inj(c:oX R h){k l:Nat}(hk:k<R.asks.length)(hl:l<R.asks.length)(e:eh (aM R k)=eh (aM R l)):k=l:=by rw[bH hk,bH hl]at e;exact(List.getElem_inj c.nd (i:=k) (j:=l) (h₀:=by simpa using hk) (h₁:=by simpa using hl)).mp (by simpa using e)
theorem di.cross(c:di R h ps):RS (RR R) (RU R ps)=none:=by
 have key:∀k l,k<R.asks.length->l<R.asks.length->k≠l->RR R k l=true:=λk l hk hl hkl=>by have a:=c.ch.lo hk;have b:=c.ch.lo hl;have n:eh (aM R k)≠eh (aM R l):=λe=>hkl (c.ch.inj hk hl e);unfold RR Mu;rw[Bool.or_eq_true,UG,UG];omega
 have all:∀ks:List Nat,ks.Pairwise (· < ·)->(∀k∈ks,k<R.asks.length)->RS (RR R) ks=none:=by
  intro ks
  induction ks with
  |nil=>exact λ_ _=>rfl
  | cons a ks ih =>
   intro hp hk;obtain⟨p1,p2⟩:=List.pairwise_cons.mp hp;unfold RS;have e:ks.find? (λl=>!RR R a l)=none:=by rw[List.find?_eq_none];intro l hl;rw[key a l (hk a Uz) (hk l (tu _ hl)) (Nat.ne_of_lt (p1 l hl))];decide
   rw[e];exact ih p2 λk hk'=>hk k (tu _ hk')
 exact all _ (qv R ps) λk hk=>by rw[<- c.sl.len];exact(jt hk).1
theorem di.kw(c:di R h ps)(ws:List Bool):(List.range R.asks.length).all (R4 R ps (RU R ps) ws)=true:=by rw[List.all_eq_true];intro k hk;unfold R4;rw[c.all,decide_eq_true hk];rfl
theorem di.gn(c:di R h ps){k:Nat}(hk:k<R.asks.length)(w:Bool) : -((2^60:Nat):Rat)<=bo R ps k w/\bo R ps k w<=((2^60:Nat):Rat):=by have a:=c.pt k hk;have b:=c.v k hk;generalize ((2^60:Nat):Rat)=V at *;unfold bo;constructor<;>(split<;>split<;>grind)
theorem di.df(c:di R h ps){ws:List Bool}{xs:List Rat}{os:List Nat}(hx:xs.length=R.asks.length)(hxk:∀k,k<R.asks.length->xs.getD k 0=if ws.getD k true then R.sz k else 0)(op:os.Perm (List.range R.asks.length)){t:Nat}(ht:t<R.n) :
  iV R.n R.asks xs t-iV R.n R.asks ps t=gG (os.map λk=>if eh (aM R k)<=t/\t<eh (aM R k)+h then bo R ps k (ws.getD k true)else-bo R ps k (ws.getD k true)):=by
 rw[Ao hx,Ao c.sl.len,Ac,DE (op.map _)];refine kR λk hk=>?_;have hk:=List.mem_range.mp hk;have ha:=c.ch.ok.ask _ (UD hk);have oi:=tH ha ht;have sz:(aM R k).size=R.sz k:=by rw[bH hk,jE hk]
 rw[<- bH hk]at oi;rw[hxk k hk,<- (c.ch.lo hk).2];unfold pS bo;rw[DC,sz];by_cases o:eh (aM R k)<=t/\t<eZ (aM R k)
 . rw[if_pos o];have e:=oi.mpr o;rw[beq_iff_eq]at e;rw[e];cases RP (aM R k)<;>cases ws.getD k true<;>simp<;>grind
 .
  rw[if_neg o];have e:tE R.n (aM R k) t=!RP (aM R k):=by have:¬(tE R.n (aM R k) t == RP (aM R k))=true:=λz=>o (oi.mp z);rw[beq_iff_eq]at this;exact Bool.eq_not_of_ne this
  rw[e];cases RP (aM R k)<;>cases ws.getD k true<;>simp<;>grind
noncomputable def DF(R:aL)(g:Nat->Rat)(os:List Nat)(t:Nat):Rat:=gG (os.map λk=>if eh (aM R k)<t then g k else 0)
theorem DG(g:Nat->Rat)(t:Nat):∀os:List Nat,gG (os.map λk=>if eh (aM R k)<=t then g k else-g k)=DF R g os (t+1)+DF R g os (t+1)-gG (os.map g)
 | []=>by show(0:Rat)=0+0-0;grind
 | k::os=>by
  have ih:=DG g t os;unfold DF at ih ⊢;rw[List.map_cons,List.map_cons,List.map_cons,aQ,aQ,aQ,ih];by_cases e:eh (aM R k)<=t
  . rw[if_pos e,if_pos (by omega)];grind
  . rw[if_neg e,if_neg (by omega)];grind
theorem di.at(c:di R h ps){ws:List Bool}{xs:List Rat}{os:List Nat}(hx:xs.length=R.asks.length)(hxk:∀k,k<R.asks.length->xs.getD k 0=if ws.getD k true then R.sz k else 0)(op:os.Perm (List.range R.asks.length)){t:Nat}(ht:t<h) :
  iV R.n R.asks xs t-iV R.n R.asks ps t=DF R (λk=>bo R ps k (ws.getD k true)) os (t+1)+DF R (λk=>bo R ps k (ws.getD k true)) os (t+1)-gG (os.map λk=>bo R ps k (ws.getD k true)) /\
  iV R.n R.asks xs (t+h)-iV R.n R.asks ps (t+h)=0-(DF R (λk=>bo R ps k (ws.getD k true)) os (t+1)+DF R (λk=>bo R ps k (ws.getD k true)) os (t+1)-gG (os.map λk=>bo R ps k (ws.getD k true))):=by
 have hn:=c.ch.hn;rw[c.df hx hxk op (show t<R.n by omega),c.df hx hxk op (show t+h<R.n by omega),<- DG (R:=R)];have hk:∀k∈os,k<R.asks.length:=λk hk=>List.mem_range.mp (op.mem_iff.mp hk);constructor
 .
  refine kR λk hm=>?_;have:=c.ch.lo (hk k hm);by_cases e:eh (aM R k)<=t
  . rw[if_pos e,if_pos ⟨e,xL⟩]
  . rw[if_neg e,if_neg (λz=>e z.1)]
 .
  have e0:∀q:Rat,0-q=-q:=λq=>by grind
  rw[e0,<- FP,List.map_map];refine kR λk hm=>?_;have:=c.ch.lo (hk k hm)
  show _=-(if eh (aM R k)<=t then _ else _)
  by_cases e:eh (aM R k)<=t
  . rw[if_pos e,if_neg (by omega)]
  . rw[if_neg e,if_pos ⟨xL,xL⟩];grind
theorem Mx{q:Rat}{D:Nat}(h0 : -((2^300:Nat):Rat)<q)(h1:q<((2^300:Nat):Rat))(d0:0<D)(d1:D<2^1500)(hd:q.den∣D):RB 1800 q:=by
 by_cases c:0<=q
 . exact uE c h1 d0 d1 hd
 . have n:RB 1800 (-q):=uE (by grind) (by grind) d0 d1 (by rw[Rat.neg_den];exact hd);have:=Ho n;rwa [Rat.neg_neg]at this
end
end My
set_option exponentiation.threshold 1000
namespace Hd
open PySem PySem.W PyProof.Rows
noncomputable abbrev pr:Program:=PySem.Challenge.pw_ringloads_k40_whole_chains_rounded
noncomputable def top(i:Nat):Stmt:=pr.main.body.getD i (.Pass ⟨0,0,0,0⟩)
noncomputable def inCls(st:Stmt)(j:Nat):Stmt:=match st with
 |.ClassDef _ _ _ b ..=>b.getD j (.Pass ⟨0,0,0,0⟩)
 |_=>.Pass ⟨0,0,0,0⟩
noncomputable def DH(s:Stmt):Str:=match s with
 |.FunctionDef n ..=>n
 |_=>""
noncomputable def Mz(s:Stmt):Arguments:=match s with
 |.FunctionDef _ a _ _ _ _ _ _ _ _=>a
 |_=>{posonlyargs:=[],args:=[],vararg:=none,kwonlyargs:=[],kw_defaults:=[],kwarg:=none,defaults:=[] }
noncomputable def NW(s:Stmt):List Stmt:=match s with
 |.FunctionDef _ _ b _ _ _ _ _ _ _=>b
 |_=>[]
noncomputable def MA(s:Stmt):Scope:=match s with
 |.FunctionDef _ _ _ _ _ _ sc _ _ _=>sc
 |_=>{kind:=.function,names:=[],isGenerator:=false,isCoroutine:=false}
noncomputable def OE(s:Stmt):Pos:=match s with
 |.FunctionDef _ _ _ _ _ _ _ _ _ p=>p
 |_=>⟨0,0,0,0⟩
noncomputable def Hu (st:Stmt) (q:Str) (g:Addr) (md cd:Value):FuncData:={ name:=DH st,qualname:=q,params:=Mz st,body:=.stmts (NW st),scope:=MA st,globals:=g,closure:=[],defaults:=.none,kwdefaults:=.none,doc:=.none,pyModule:=md,annotations:=none,code:=cd,closureTuple:=.none,builtins:=0 }
noncomputable def kh(P:Params)(x:Str):Int:=PySem.PyData.keyHash P x
noncomputable def MB(vs:List Value):Obj:=⟨.type "tuple",none,.seq vs.toArray 0,#[]⟩
noncomputable def DI(vs:List Value):Obj:=⟨.none,none,.fields vs.toArray,#[]⟩
noncomputable def OF:Nat->List Str->List Value
 |_,[]=>[]
 |t,x::r=>.str x t::OF (t+1) r
noncomputable def MC(st:Stmt)(a t:Nat)(v1 v2:Value)(tm u:Nat):Obj:=⟨.type "code",none,.fields #[.str (DH st) t,.str (DH st) (t+1),.str "/claim/cut.py" (t+2),.int (OE st).line 0,.int (Mz st).args.length 0,.int 0 0,.int 0 0,.int 3 0,.ref a,.bool true,.int 181 0,.ref (a+1),.none,v1,v2,.ref tm,.int u 0,.int (OE st).line 0,.str "/claim/cut.py" (u+1)],#[]⟩
noncomputable def R7(st:Stmt)(md:Value)(cd:Nat):Obj:=⟨.type "function",none,.func (Hu st (DH st) 3 md (.ref cd)),#[]⟩
noncomputable def R8(st:Stmt):Obj:=⟨.none,none,.func (Hu st (DH st) 0 .none .none),#[]⟩
noncomputable def bz(st:Stmt)(a t:Nat)(vs:List Str)(md:Value):List Obj:=[MB [],DI [],MB (OF (t+3) vs),MB [],R8 st,MC st a t (.ref (a+2)) (.ref (a+3)) (a+4) (t+3+vs.length),R7 st md (a+5)]
noncomputable def qC(st:Stmt)(a t:Nat)(md:Value):List Obj:=[MB [],DI [],R8 st,MC st a t .none .none (a+2) (t+3),R7 st md (a+3)]
noncomputable def yu (P:Params) (nm:Value) (es:List DictEntry) (n:Nat):Obj:=⟨.type "dict",none,.dict (([⟨kh P "__name__",.str "__name__" 165,nm⟩,⟨kh P "__doc__",.str "__doc__" 166,.none⟩,⟨kh P "__package__",.str "__package__" 167,.none⟩,⟨kh P "__loader__",.str "__loader__" 168,.builtin "__main__.__loader__#opaque"⟩,⟨kh P "__spec__",.str "__spec__" 169,.none⟩,⟨kh P "__annotations__",.str "__annotations__" 170,.ref 6⟩,⟨kh P "__builtins__",.str "__builtins__" 171,.ref 4⟩,⟨kh P "__file__",.str "__file__" 173,.str "/claim/cut.py" 172⟩,⟨kh P "__cached__",.str "__cached__" 174,.none⟩]:List DictEntry)++es).toArray n,#[]⟩
noncomputable def Pe:Obj:=⟨.type "code",none,.fields #[.str "<module>" 182,.str "<module>" 183,.str "/claim/cut.py" 184,.int 1 0,.int 0 0,.int 0 0,.int 0 0,.int 0 0,.ref 11,.bool false,.int 181 0,.ref 12,.none,.none,.none,.none,.int 185 0,.int 1 0,.str "/claim/cut.py" 186],#[]⟩
noncomputable def Pf:Obj:=⟨.type "frame",none,.plain,#[some (.ref 13),some (.ref 3),some (.ref 3),none,some (.str "__main__" 164),none,some (.ref 0)]⟩
noncomputable def J2(P:Params):List Obj:=[boot_o_0 P,boot_o_1 P,boot_o_2 P,boot_o_3 P,boot_o_4 P,boot_o_5 P,boot_o_6 P,boot_o_7 P,boot_o_8 P,boot_o_9 P,boot_o_10 P,MB [],DI [],Pe,Pf]
noncomputable def qD:Life:=⟨[],[],[],0,[],[],false,#[],[],0,false,false,false,0,[2000,10,10],false,0,true,[],[],0,false⟩
noncomputable def NX(l:List (Nat×Obj))(b:Nat):Option Obj:=@List.rec (Nat×Obj) (λ_=>Option Obj) none (λx _ ih=>bif Nat.beq x.1 b then some x.2 else ih) l
noncomputable def MD(P:Params)(ob:Params->Nat->Obj)(b:Nat):Obj:=bif b.blt 15 then(J2 P).getD b default else ob P b
noncomputable def Pg(l:List Nat)(b:Nat):Bool:=@List.rec Nat (λ_=>Bool) false (λx _ ih=>@Bool.rec (λ_=>Bool) ih true (Nat.beq x b)) l
noncomputable def Hv(ks:List Nat)(P:Params)(ov:List (Nat×Obj))(ob:Params->Nat->Obj)(b j:Nat):Obj:=@Bool.rec (λ_=>Obj) (MD P ob b) ((NX ov b).getD default) (Pg ks b)
noncomputable def L0(n:Nat)(f:Nat->Obj)(a b j:Nat):BT:=.nil
noncomputable def L1(n:Nat)(f:Nat->Obj)(a b j:Nat):BT:=@Bool.rec (λ_=>BT) .nil (.node (f b) (L0 n f (2*a) (a+b) j) (L0 n f (2*a) (2*a+b) j)) (b.blt n)
noncomputable def L2(n:Nat)(f:Nat->Obj)(a b j:Nat):BT:=@Bool.rec (λ_=>BT) .nil (.node (f b) (L1 n f (2*a) (a+b) j) (L1 n f (2*a) (2*a+b) j)) (b.blt n)
noncomputable def L3(n:Nat)(f:Nat->Obj)(a b j:Nat):BT:=@Bool.rec (λ_=>BT) .nil (.node (f b) (L2 n f (2*a) (a+b) j) (L2 n f (2*a) (2*a+b) j)) (b.blt n)
noncomputable def L4(n:Nat)(f:Nat->Obj)(a b j:Nat):BT:=@Bool.rec (λ_=>BT) .nil (.node (f b) (L3 n f (2*a) (a+b) j) (L3 n f (2*a) (2*a+b) j)) (b.blt n)
noncomputable def L5(n:Nat)(f:Nat->Obj)(a b j:Nat):BT:=@Bool.rec (λ_=>BT) .nil (.node (f b) (L4 n f (2*a) (a+b) j) (L4 n f (2*a) (2*a+b) j)) (b.blt n)
noncomputable def L6(n:Nat)(f:Nat->Obj)(a b j:Nat):BT:=@Bool.rec (λ_=>BT) .nil (.node (f b) (L5 n f (2*a) (a+b) j) (L5 n f (2*a) (2*a+b) j)) (b.blt n)
noncomputable def L7(n:Nat)(f:Nat->Obj)(a b j:Nat):BT:=@Bool.rec (λ_=>BT) .nil (.node (f b) (L6 n f (2*a) (a+b) j) (L6 n f (2*a) (2*a+b) j)) (b.blt n)
noncomputable def L8(n:Nat)(f:Nat->Obj)(a b j:Nat):BT:=@Bool.rec (λ_=>BT) .nil (.node (f b) (L7 n f (2*a) (a+b) j) (L7 n f (2*a) (2*a+b) j)) (b.blt n)
noncomputable def L9(n:Nat)(f:Nat->Obj)(a b j:Nat):BT:=@Bool.rec (λ_=>BT) .nil (.node (f b) (L8 n f (2*a) (a+b) j) (L8 n f (2*a) (2*a+b) j)) (b.blt n)
noncomputable def R9(n:Nat)(f:Nat->Obj)(a b j:Nat):BT:=@Bool.rec (λ_=>BT) .nil (.node (f b) (L9 n f (2*a) (a+b) j) (L9 n f (2*a) (2*a+b) j)) (b.blt n)
noncomputable def Sb(n:Nat)(f:Nat->Obj)(a b j:Nat):BT:=@Bool.rec (λ_=>BT) .nil (.node (f b) (R9 n f (2*a) (a+b) j) (R9 n f (2*a) (2*a+b) j)) (b.blt n)
noncomputable def Sd(n:Nat)(f:Nat->Obj)(a b j:Nat):BT:=@Bool.rec (λ_=>BT) .nil (.node (f b) (Sb n f (2*a) (a+b) j) (Sb n f (2*a) (2*a+b) j)) (b.blt n)
theorem qE{p:Program}{w:World}{m:Nat}{ann:Option Value}{b n:Nat}{s:SharedT}{t:Thread}{r:Option (Flow×SharedT×Code×Pos)}(h:Fast.tw10110043849684766642 Fast.tw14364793385576792824 p w m ann b n s t=r):segRunT treeTable p w m ann b n s t=r:=by rw[Fast.te10110043849684766642,Fast.te14364793385576792824];exact h
theorem ME{p:Program}{w:World}{m:Nat}{ann:Option Value}{n:Nat}{s:Shared}{t:Thread}{r:Option Shared}(h:Fast.tw14082659384304107361 Fast.tw14364793385576792824 p w m ann n s t=r):topRun treeTable p w m ann n s t=r:=by rw[Fast.te14082659384304107361,Fast.te14364793385576792824];exact h
theorem MF:denote treeTable=Fast.tw11892475500146522536 Fast.tw14364793385576792824:=by rw[<- Fast.te11892475500146522536,<- Fast.te14364793385576792824]
theorem NY{p:Program}{w:World}{m:Nat}{ann:Option Value}{n:Nat}{s:Shared}{t:Thread}{r:Option (Shared×Thread)}(h:Fast.tw15667345088766844465 Fast.tw14364793385576792824 p w m ann n s t=r):topGo treeTable p w m ann n s t=r:=by rw[Fast.te15667345088766844465,Fast.te14364793385576792824];exact h
theorem J3{b b':List Stmt}(e:b=b'){tb:String->Option Builtin}{p:Program}{w:World}{m:Nat}{ann:Option Value}{n:Nat}{s:Shared}{env:Env}{c:Code}{ps:Pos}{B:List Frame}{r:Option Shared}(h:topRun tb p w m ann n s (restOf b' env c ps B)=r):topRun tb p w m ann n s (restOf b env c ps B)=r:=by rw[e];exact h
noncomputable def f1(P:Params):List Obj:=bz (top 1) 15 189 ["one","other","rest"] (.str "ringloads.divisors" 187)
noncomputable def f3(P:Params):List Obj:=[(Obj.mk (.type "tuple") none (.seq #[(.type "ValueError")] 0) #[]),
 (Obj.mk (.type "builtin_function_or_method") none (.fields #[(.builtin "type.__prepare__"),(.type "type")]) #[]),
 (Obj.mk (.type "dict") none (.dict #[(DictEntry.mk (kh P "__module__") (.str "__module__" 207) (.str "ringloads.errors" 198)),(DictEntry.mk (kh P "__qualname__") (.str "__qualname__" 209) (.str "LoadError" 208)),(DictEntry.mk (kh P "__firstlineno__") (.str "__firstlineno__" 211) (.int 9 210)),(DictEntry.mk (kh P "__init__") (.str "__init__" 219) (.ref 35)),(DictEntry.mk (kh P "__static_attributes__") (.str "__static_attributes__" 220) (.ref 36))] 5) #[]),
 (Obj.mk (.type "tuple") none (.seq #[] 0) #[]),
 (Obj.mk .none none (.fields #[(.int 11 0),(.int 4 0),(.ref 34)]) #[]),
 (Obj.mk (.type "code") none (.fields #[(.str "LoadError" 202),(.str "LoadError" 203),(.str "/claim/cut.py" 204),(.int 9 0),(.int 0 0),(.int 0 0),(.int 0 0),(.int 0 0),(.ref 25),(.bool false),(.int 181 0),(.ref 26),.none,.none,.none,.none,(.int 205 0),(.int 9 0),(.str "/claim/cut.py" 206)]) #[]),
 (Obj.mk (.type "frame") none .plain #[(some (.ref 27)),(some (.ref 3)),(some (.ref 24)),none,(some (.str "ringloads.errors" 198)),none,(some (.ref 0))]),
 (Obj.mk (.type "tuple") none (.seq #[] 0) #[]),
 (Obj.mk .none none (.fields #[]) #[]),
 (Obj.mk (.type "tuple") none (.seq #[(.str "self" 215),(.str "text" 216)] 0) #[]),
 (Obj.mk (.type "tuple") none (.seq #[] 0) #[]),
 (Obj.mk .none none (.func (Hu (inCls (top 3) 0) "LoadError.__init__" 0 .none .none)) #[]),
 (Obj.mk (.type "code") none (.fields #[(.str "__init__" 212),(.str "LoadError.__init__" 213),(.str "/claim/cut.py" 214),(.int 11 0),(.int 2 0),(.int 0 0),(.int 0 0),(.int 3 0),(.ref 29),(.bool true),(.int 181 0),(.ref 30),.none,(.ref 31),(.ref 32),(.ref 33),(.int 217 0),(.int 11 0),(.str "/claim/cut.py" 218)]) #[]),
 (Obj.mk (.type "function") none (.func (Hu (inCls (top 3) 0) "LoadError.__init__" 3 (.str "ringloads.errors" 198) (.ref 34))) #[]),
 (Obj.mk (.type "tuple") none (.seq #[] 0) #[]),
 (Obj.mk (.type "dict") none (.dict #[(DictEntry.mk (kh P "__module__") (.str "__module__" 207) (.str "ringloads.errors" 198)),(DictEntry.mk (kh P "__firstlineno__") (.str "__firstlineno__" 211) (.int 9 210)),(DictEntry.mk (kh P "__init__") (.str "__init__" 219) (.ref 35)),(DictEntry.mk (kh P "__static_attributes__") (.str "__static_attributes__" 220) (.ref 36)),(DictEntry.mk (kh P "__weakref__") (.str "__weakref__" 222) (.ref 39)),(DictEntry.mk (kh P "__doc__") (.str "__doc__" 223) .none)] 3) #[]),
 (Obj.mk (.type "type") none (.cls (PySem.ClassData.mk "LoadError" [(.type "ValueError")] [(.ref 38),(.type "ValueError"),(.type "Exception"),(.type "BaseException"),(.type "object")] 37 "LoadError" true [] [(.ref 58)] false none false)) #[(some (.ref 22)),none,(some (.str "LoadError" 200)),(some (.str "LoadError" 208)),(some (.builtin "ValueError.__new__")),(some (.bool true))]),
 (Obj.mk (.type "getset_descriptor") none (.fields #[(.str "__weakref__" 221),(.ref 38),(.builtin "ExceptionGroup.__weakref__"),.none]) #[]),
 (Obj.mk (.type "super") none (.fields #[(.ref 38),(.ref 38),(.ref 38)]) #[]),
 (Obj.mk (.type "builtin_function_or_method") none (.fields #[(.builtin "object.__init_subclass__"),(.ref 38)]) #[])]
noncomputable def f4(P:Params):List Obj:=[(Obj.mk (.type "tuple") none (.seq #[(.ref 38)] 0) #[]),
 (Obj.mk (.type "builtin_function_or_method") none (.fields #[(.builtin "type.__prepare__"),(.type "type")]) #[]),
 (Obj.mk (.type "dict") none (.dict #[(DictEntry.mk (kh P "__module__") (.str "__module__" 233) (.str "ringloads.errors" 198)),(DictEntry.mk (kh P "__qualname__") (.str "__qualname__" 235) (.str "NoSlide" 234)),(DictEntry.mk (kh P "__firstlineno__") (.str "__firstlineno__" 237) (.int 13 236)),(DictEntry.mk (kh P "__init__") (.str "__init__" 245) (.ref 55)),(DictEntry.mk (kh P "__static_attributes__") (.str "__static_attributes__" 247) (.ref 56))] 5) #[]),
 (Obj.mk (.type "tuple") none (.seq #[] 0) #[]),
 (Obj.mk .none none (.fields #[(.int 15 0),(.int 4 0),(.ref 54)]) #[]),
 (Obj.mk (.type "code") none (.fields #[(.str "NoSlide" 228),(.str "NoSlide" 229),(.str "/claim/cut.py" 230),(.int 13 0),(.int 0 0),(.int 0 0),(.int 0 0),(.int 0 0),(.ref 45),(.bool false),(.int 181 0),(.ref 46),.none,.none,.none,.none,(.int 231 0),(.int 13 0),(.str "/claim/cut.py" 232)]) #[]),
 (Obj.mk (.type "frame") none .plain #[(some (.ref 47)),(some (.ref 3)),(some (.ref 44)),none,(some (.str "ringloads.errors" 198)),none,(some (.ref 0))]),
 (Obj.mk (.type "tuple") none (.seq #[] 0) #[]),
 (Obj.mk .none none (.fields #[]) #[]),
 (Obj.mk (.type "tuple") none (.seq #[(.str "self" 241),(.str "number" 242)] 0) #[]),
 (Obj.mk (.type "tuple") none (.seq #[] 0) #[]),
 (Obj.mk .none none (.func (Hu (inCls (top 4) 0) "NoSlide.__init__" 0 .none .none)) #[]),
 (Obj.mk (.type "code") none (.fields #[(.str "__init__" 238),(.str "NoSlide.__init__" 239),(.str "/claim/cut.py" 240),(.int 15 0),(.int 2 0),(.int 0 0),(.int 0 0),(.int 3 0),(.ref 49),(.bool true),(.int 181 0),(.ref 50),.none,(.ref 51),(.ref 52),(.ref 53),(.int 243 0),(.int 15 0),(.str "/claim/cut.py" 244)]) #[]),
 (Obj.mk (.type "function") none (.func (Hu (inCls (top 4) 0) "NoSlide.__init__" 3 (.str "ringloads.errors" 198) (.ref 54))) #[]),
 (Obj.mk (.type "tuple") none (.seq #[(.str "number" 246)] 0) #[]),
 (Obj.mk (.type "dict") none (.dict #[(DictEntry.mk (kh P "__module__") (.str "__module__" 233) (.str "ringloads.errors" 198)),(DictEntry.mk (kh P "__firstlineno__") (.str "__firstlineno__" 237) (.int 13 236)),(DictEntry.mk (kh P "__init__") (.str "__init__" 245) (.ref 55)),(DictEntry.mk (kh P "__static_attributes__") (.str "__static_attributes__" 247) (.ref 56)),(DictEntry.mk (kh P "__doc__") (.str "__doc__" 248) .none)] 2) #[]),
 (Obj.mk (.type "type") none (.cls (PySem.ClassData.mk "NoSlide" [(.ref 38)] [(.ref 58),(.ref 38),(.type "ValueError"),(.type "Exception"),(.type "BaseException"),(.type "object")] 57 "NoSlide" true [] [] false none false)) #[(some (.ref 42)),none,(some (.str "NoSlide" 226)),(some (.str "NoSlide" 234)),(some (.builtin "ValueError.__new__")),(some (.bool true))]),
 (Obj.mk (.type "super") none (.fields #[(.ref 58),(.ref 58),(.ref 58)]) #[]),
 (Obj.mk (.type "builtin_function_or_method") none (.fields #[(.builtin "object.__init_subclass__"),(.ref 58)]) #[])]
noncomputable def f6(P:Params):List Obj:=bz (top 6) 61 253 ["thing"] (.str "ringloads.names" 251)
noncomputable def f7(P:Params):List Obj:=bz (top 7) 68 260 ["thing","many"] (.str "ringloads.names" 251)
noncomputable def f8(P:Params):List Obj:=bz (top 8) 75 268 ["thing"] (.str "ringloads.names" 251)
noncomputable def f9(P:Params):List Obj:=bz (top 9) 82 275 ["thing"] (.str "ringloads.names" 251)
noncomputable def Se(P:Params):List Obj:=[(Obj.mk (.type "tuple") none (.seq #[(.int 0 284),(.int 1 285)] 0) #[])]
noncomputable def Sf(P:Params):List Obj:=bz (top 12) 90 287 ["top","bottom","shared"] (.str "ringloads.ratios" 282)
noncomputable def Sg(P:Params):List Obj:=bz (top 13) 97 296 ["one","other"] (.str "ringloads.ratios" 282)
noncomputable def Sh(P:Params):List Obj:=bz (top 14) 104 304 ["one","other"] (.str "ringloads.ratios" 282)
noncomputable def Si(P:Params):List Obj:=bz (top 15) 111 312 ["one","other"] (.str "ringloads.ratios" 282)
noncomputable def Sj(P:Params):List Obj:=bz (top 16) 118 320 ["one","other"] (.str "ringloads.ratios" 282)
noncomputable def Sl(P:Params):List Obj:=bz (top 17) 125 328 ["one","other"] (.str "ringloads.ratios" 282)
noncomputable def Sn(P:Params):List Obj:=bz (top 18) 132 336 ["one","other"] (.str "ringloads.ratios" 282)
noncomputable def So(P:Params):List Obj:=bz (top 19) 139 344 ["some","whole","one"] (.str "ringloads.ratios" 282)
noncomputable def Sq(P:Params):List Obj:=bz (top 21) 146 355 ["ring","k"] (.str "ringloads.crossing" 353)
noncomputable def Sr(P:Params):List Obj:=bz (top 22) 153 363 ["ring","k"] (.str "ringloads.crossing" 353)
noncomputable def Ss(P:Params):List Obj:=bz (top 23) 160 371 ["ring","k","l","low","high","first","last"] (.str "ringloads.crossing" 353)
noncomputable def Su(P:Params):List Obj:=qC (top 24) 167 384 (.str "ringloads.crossing" 353)
noncomputable def Sv(P:Params):List Obj:=bz (top 25) 172 390 ["ring","some","number","k","l"] (.str "ringloads.crossing" 353)
noncomputable def Sw(P:Params):List Obj:=bz (top 29) 179 407 ["thing"] (.str "ringloads.ways" 401)
noncomputable def Sx(P:Params):List Obj:=bz (top 30) 186 414 ["way"] (.str "ringloads.ways" 401)
noncomputable def Sy(P:Params):List Obj:=qC (top 31) 193 421 (.str "ringloads.ways" 401)
noncomputable def Sz(P:Params):List Obj:=bz (top 32) 198 427 ["ring","k","way","tie","places","one","other","lies_on"] (.str "ringloads.ways" 401)
noncomputable def SA(P:Params):List Obj:=bz (top 34) 205 443 ["ring","sending","k","tie"] (.str "ringloads.loads" 441)
noncomputable def SB(P:Params):List Obj:=qC (top 35) 212 453 (.str "ringloads.loads" 441)
noncomputable def SC(P:Params):List Obj:=qC (top 36) 217 459 (.str "ringloads.loads" 441)
noncomputable def SD(P:Params):List Obj:=qC (top 38) 222 467 (.str "ringloads.sendings" 465)
noncomputable def SE(P:Params):List Obj:=qC (top 39) 227 473 (.str "ringloads.sendings" 465)
noncomputable def SG(P:Params):List Obj:=bz (top 41) 232 481 ["ring","sending","thing","slid","number","slide"] (.str "ringloads.slides" 479)
noncomputable def SH(P:Params):List Obj:=bz (top 42) 239 493 ["ring","sending","thing"] (.str "ringloads.slides" 479)
noncomputable def SI(P:Params):List Obj:=bz (top 43) 246 502 ["thing","asks"] (.str "ringloads.slides" 479)
noncomputable def SJ(P:Params):List Obj:=qC (top 44) 253 510 (.str "ringloads.slides" 479)
noncomputable def SK(P:Params):List Obj:=bz (top 45) 258 516 ["ring","sending","k","way"] (.str "ringloads.slides" 479)
noncomputable def SL(P:Params):List Obj:=bz (top 46) 265 526 ["ring","sending","slide"] (.str "ringloads.slides" 479)
noncomputable def SN(P:Params):List Obj:=bz (top 47) 272 535 ["sending","slide","slid"] (.str "ringloads.slides" 479)
noncomputable def SO(P:Params):List Obj:=bz (top 48) 279 544 ["part","way","amount"] (.str "ringloads.slides" 479)
noncomputable def SQ(P:Params):List Obj:=bz (top 49) 286 553 ["ring","sending","slid","slides","pair","slide"] (.str "ringloads.slides" 479)
noncomputable def SR(P:Params):List Obj:=bz (top 50) 293 565 ["ring","sending","k","l","ways","slide"] (.str "ringloads.slides" 479)
noncomputable def SS(P:Params):List Obj:=bz (top 51) 300 577 ["ring","k","l","ways"] (.str "ringloads.slides" 479)
noncomputable def SU(P:Params):List Obj:=[(Obj.mk (.type "tuple") none (.seq #[(.int 1 589),(.int 2 590)] 0) #[])]
noncomputable def SV(P:Params):List Obj:=bz (top 54) 308 592 ["ring","sending","thing","slid","parted"] (.str "ringloads.rounding" 587)
noncomputable def SW(P:Params):List Obj:=bz (top 55) 315 603 ["ring","slid","parted","ways","k","ask"] (.str "ringloads.rounding" 587)
noncomputable def SX(P:Params):List Obj:=bz (top 56) 322 615 ["ask","part"] (.str "ringloads.rounding" 587)
noncomputable def SY(P:Params):List Obj:=bz (top 57) 329 623 ["ring","slid","parted","ways","half","whole","k"] (.str "ringloads.rounding" 587)
noncomputable def SZ(P:Params):List Obj:=bz (top 58) 336 636 ["ring","some","greatest","k"] (.str "ringloads.rounding" 587)
noncomputable def S8(P:Params):List Obj:=[(Obj.mk (.type "tuple") none (.seq #[] 0) #[]),
 (Obj.mk .none none (.fields #[]) #[]),
 (Obj.mk (.type "tuple") none (.seq #[(.str "ring" 649),(.str "some" 650)] 0) #[]),
 (Obj.mk (.type "tuple") none (.seq #[(.str "ring" 651)] 0) #[]),
 (Obj.mk .none none (.func (Hu (top 59) "by_lesser_place" 0 .none .none)) #[]),
 (Obj.mk (.type "code") none (.fields #[(.str "by_lesser_place" 646),(.str "by_lesser_place" 647),(.str "/claim/cut.py" 648),(.int 194 0),(.int 2 0),(.int 0 0),(.int 0 0),(.int 3 0),(.ref 343),(.bool true),(.int 181 0),(.ref 344),.none,(.ref 345),(.ref 346),(.ref 347),(.int 652 0),(.int 194 0),(.str "/claim/cut.py" 653)]) #[]),
 (Obj.mk (.type "function") none (.func (Hu (top 59) "by_lesser_place" 3 (.str "ringloads.rounding" 587) (.ref 348))) #[])]
noncomputable def S9(P:Params):List Obj:=bz (top 60) 350 655 ["ring","k"] (.str "ringloads.rounding" 587)
noncomputable def Ta(P:Params):List Obj:=bz (top 61) 357 663 ["ring","sending","k","way","size","rising"] (.str "ringloads.rounding" 587)
noncomputable def Tb(P:Params):List Obj:=bz (top 62) 364 675 ["ring","sending","slides"] (.str "ringloads.rounding" 587)
noncomputable def Tc(P:Params):List Obj:=qC (top 63) 371 684 (.str "ringloads.rounding" 587)
noncomputable def Td(P:Params):List Obj:=qC (top 65) 376 692 (.str "ringloads.gains" 690)
noncomputable def Te(P:Params):List Obj:=bz (top 67) 381 700 ["_law_script","_law_k","_law_cell"] (.str "law_ringloads_k40_whole_chains_rounded" 698)
noncomputable def Tf(P:Params):List Obj:=bz (top 68) 388 709 ["_law_state","_law_many","_law_digit","_law_drawn","_law_turn"] (.str "law_ringloads_k40_whole_chains_rounded" 698)
noncomputable def Th(P:Params):List Obj:=bz (top 69) 395 720 ["_law_top","_law_bottom","_law_one","_law_share"] (.str "law_ringloads_k40_whole_chains_rounded" 698)
noncomputable def Ti(P:Params):List Obj:=bz (top 70) 402 730 ["_law_state","_law_least","_law_kind","_law_bottom","_law_top"] (.str "law_ringloads_k40_whole_chains_rounded" 698)
noncomputable def Tj(P:Params):List Obj:=bz (top 71) 409 741 ["_law_one","_law_other"] (.str "law_ringloads_k40_whole_chains_rounded" 698)
noncomputable def Tn(P:Params):List Obj:=bz (top 72) 416 749 ["_law_one","_law_other"] (.str "law_ringloads_k40_whole_chains_rounded" 698)
noncomputable def To(P:Params):List Obj:=bz (top 73) 423 757 ["_law_one","_law_other"] (.str "law_ringloads_k40_whole_chains_rounded" 698)
noncomputable def Tp(P:Params):List Obj:=qC (top 74) 430 765 (.str "law_ringloads_k40_whole_chains_rounded" 698)
noncomputable def Tq(P:Params):List Obj:=bz (top 75) 435 771 ["_law_asks","_law_sending","_law_ways","_law_rows","_law_k","_law_ask","_law_gain"] (.str "law_ringloads_k40_whole_chains_rounded" 698)
noncomputable def Ts(P:Params):List Obj:=bz (top 76) 442 784 ["_law_asks","_law_rows","_law_most","_law_name","_law_one","_law_other","_law_size","_law_total","_law_place","_law_gain"] (.str "law_ringloads_k40_whole_chains_rounded" 698)
noncomputable def Tt(P:Params):List Obj:=bz (top 77) 449 800 ["_law_rows","_law_half","_law_gains","_law_whole","_law_place","_law_gain","_law_first","_law_there","_law_due"] (.str "law_ringloads_k40_whole_chains_rounded" 698)
noncomputable def Tu(P:Params):List Obj:=qC (top 78) 456 815 (.str "law_ringloads_k40_whole_chains_rounded" 698)
noncomputable def Tv(P:Params):List Obj:=bz (top 79) 461 821 ["_law_ring","_law_half","_law_sending","_law_asks","_law_some","_law_ways","_law_rows","_law_due","_law_slides","_law_told"] (.str "law_ringloads_k40_whole_chains_rounded" 698)
noncomputable def Tw(P:Params):List Obj:=bz (top 80) 468 837 ["_law_script","_law_rooms","_law_asks","_law_half","_law_ring","_law_k","_law_state","_law_sending","_law_even","_law_name","_law_one","_law_other","_law_size","_law_share"] (.str "law_ringloads_k40_whole_chains_rounded" 698)
noncomputable def Ph(P:Params)(b:Nat):Obj:=(bif b.blt 90 then(bif b.blt 68 then(bif b.blt 42 then(bif b.blt 22 then(f1 P).getD (b-15) default else(f3 P).getD (b-22) default)else(bif b.blt 61 then(f4 P).getD (b-42) default else(f6 P).getD (b-61) default))else(bif b.blt 82 then(bif b.blt 75 then(f7 P).getD (b-68) default else(f8 P).getD (b-75) default)else(bif b.blt 89 then(f9 P).getD (b-82) default else(Se P).getD (b-89) default)))else(bif b.blt 118 then(bif b.blt 104 then(bif b.blt 97 then(Sf P).getD (b-90) default else(Sg P).getD (b-97) default)else(bif b.blt 111 then(Sh P).getD (b-104) default else(Si P).getD (b-111) default))else(bif b.blt 132 then(bif b.blt 125 then(Sj P).getD (b-118) default else(Sl P).getD (b-125) default)else(bif b.blt 139 then(Sn P).getD (b-132) default else(So P).getD (b-139) default))))
noncomputable def NZ(P:Params)(b:Nat):Obj:=(bif b.blt 172 then(bif b.blt 160 then(bif b.blt 153 then(Sq P).getD (b-146) default else(Sr P).getD (b-153) default)else(bif b.blt 167 then(Ss P).getD (b-160) default else(Su P).getD (b-167) default))else(bif b.blt 186 then(bif b.blt 179 then(Sv P).getD (b-172) default else(Sw P).getD (b-179) default)else(bif b.blt 193 then(Sx P).getD (b-186) default else(Sy P).getD (b-193) default)))
noncomputable def N0(P:Params)(b:Nat):Obj:=(bif b.blt 222 then(bif b.blt 212 then(bif b.blt 205 then(Sz P).getD (b-198) default else(SA P).getD (b-205) default)else(bif b.blt 217 then(SB P).getD (b-212) default else(SC P).getD (b-217) default))else(bif b.blt 232 then(bif b.blt 227 then(SD P).getD (b-222) default else(SE P).getD (b-227) default)else(bif b.blt 239 then(SG P).getD (b-232) default else(bif b.blt 246 then(SH P).getD (b-239) default else(SI P).getD (b-246) default))))
noncomputable def Pi(P:Params)(b:Nat):Obj:=bif b.blt 198 then NZ P b else N0 P b
noncomputable def Tz(P:Params)(b:Nat):Obj:=bif b.blt 146 then Ph P b else Pi P b
noncomputable def N1(P:Params)(b:Nat):Obj:=(bif b.blt 279 then(bif b.blt 265 then(bif b.blt 258 then(SJ P).getD (b-253) default else(SK P).getD (b-258) default)else(bif b.blt 272 then(SL P).getD (b-265) default else(SN P).getD (b-272) default))else(bif b.blt 293 then(bif b.blt 286 then(SO P).getD (b-279) default else(SQ P).getD (b-286) default)else(bif b.blt 300 then(SR P).getD (b-293) default else(SS P).getD (b-300) default)))
noncomputable def N4(P:Params)(b:Nat):Obj:=(bif b.blt 329 then(bif b.blt 315 then(bif b.blt 308 then(SU P).getD (b-307) default else(SV P).getD (b-308) default)else(bif b.blt 322 then(SW P).getD (b-315) default else(SX P).getD (b-322) default))else(bif b.blt 343 then(bif b.blt 336 then(SY P).getD (b-329) default else(SZ P).getD (b-336) default)else(bif b.blt 350 then(S8 P).getD (b-343) default else(bif b.blt 357 then(S9 P).getD (b-350) default else(Ta P).getD (b-357) default))))
noncomputable def Pj(P:Params)(b:Nat):Obj:=bif b.blt 307 then N1 P b else N4 P b
noncomputable def N5(P:Params)(b:Nat):Obj:=(bif b.blt 388 then(bif b.blt 376 then(bif b.blt 371 then(Tb P).getD (b-364) default else(Tc P).getD (b-371) default)else(bif b.blt 381 then(Td P).getD (b-376) default else(Te P).getD (b-381) default))else(bif b.blt 402 then(bif b.blt 395 then(Tf P).getD (b-388) default else(Th P).getD (b-395) default)else(bif b.blt 409 then(Ti P).getD (b-402) default else(Tj P).getD (b-409) default)))
noncomputable def N6(P:Params)(b:Nat):Obj:=(bif b.blt 442 then(bif b.blt 430 then(bif b.blt 423 then(Tn P).getD (b-416) default else(To P).getD (b-423) default)else(bif b.blt 435 then(Tp P).getD (b-430) default else(Tq P).getD (b-435) default))else(bif b.blt 456 then(bif b.blt 449 then(Ts P).getD (b-442) default else(Tt P).getD (b-449) default)else(bif b.blt 461 then(Tu P).getD (b-456) default else(bif b.blt 468 then(Tv P).getD (b-461) default else(Tw P).getD (b-468) default))))
noncomputable def Pk(P:Params)(b:Nat):Obj:=bif b.blt 416 then N5 P b else N6 P b
noncomputable def TB(P:Params)(b:Nat):Obj:=bif b.blt 364 then Pj P b else Pk P b
noncomputable def ob(P:Params)(b:Nat):Obj:=bif b.blt 253 then Tz P b else TB P b
noncomputable def J4(P:Params):List DictEntry:=[(DictEntry.mk (kh P "greatest_shared") (.str "greatest_shared" 197) (.ref 21)),
 (DictEntry.mk (kh P "LoadError") (.str "LoadError" 225) (.ref 38)),
 (DictEntry.mk (kh P "NoSlide") (.str "NoSlide" 250) (.ref 58)),
 (DictEntry.mk (kh P "is_whole") (.str "is_whole" 259) (.ref 67)),
 (DictEntry.mk (kh P "is_number_below") (.str "is_number_below" 267) (.ref 74)),
 (DictEntry.mk (kh P "are_two_wholes") (.str "are_two_wholes" 274) (.ref 81)),
 (DictEntry.mk (kh P "is_ratio") (.str "is_ratio" 281) (.ref 88)),
 (DictEntry.mk (kh P "NOUGHT") (.str "NOUGHT" 286) (.ref 89)),
 (DictEntry.mk (kh P "lowest") (.str "lowest" 295) (.ref 96)),
 (DictEntry.mk (kh P "plus") (.str "plus" 303) (.ref 103)),
 (DictEntry.mk (kh P "minus") (.str "minus" 311) (.ref 110)),
 (DictEntry.mk (kh P "times") (.str "times" 319) (.ref 117)),
 (DictEntry.mk (kh P "under") (.str "under" 327) (.ref 124)),
 (DictEntry.mk (kh P "greater") (.str "greater" 335) (.ref 131)),
 (DictEntry.mk (kh P "lesser") (.str "lesser" 343) (.ref 138)),
 (DictEntry.mk (kh P "sum_of") (.str "sum_of" 352) (.ref 145)),
 (DictEntry.mk (kh P "lesser_place") (.str "lesser_place" 362) (.ref 152)),
 (DictEntry.mk (kh P "greater_place") (.str "greater_place" 370) (.ref 159)),
 (DictEntry.mk (kh P "do_cross") (.str "do_cross" 383) (.ref 166)),
 (DictEntry.mk (kh P "parted_in") (.str "parted_in" 389) (.ref 171)),
 (DictEntry.mk (kh P "first_side_by_side") (.str "first_side_by_side" 400) (.ref 178)),
 (DictEntry.mk (kh P "ON") (.str "ON" 404) (.str "on" 403)),
 (DictEntry.mk (kh P "BACK") (.str "BACK" 406) (.str "back" 405)),
 (DictEntry.mk (kh P "is_way") (.str "is_way" 413) (.ref 185)),
 (DictEntry.mk (kh P "other_way") (.str "other_way" 420) (.ref 192)),
 (DictEntry.mk (kh P "ties_of") (.str "ties_of" 426) (.ref 197)),
 (DictEntry.mk (kh P "is_over") (.str "is_over" 440) (.ref 204)),
 (DictEntry.mk (kh P "sent_over") (.str "sent_over" 452) (.ref 211)),
 (DictEntry.mk (kh P "load_of") (.str "load_of" 458) (.ref 216)),
 (DictEntry.mk (kh P "loads_of") (.str "loads_of" 464) (.ref 221)),
 (DictEntry.mk (kh P "are_ways") (.str "are_ways" 472) (.ref 226)),
 (DictEntry.mk (kh P "sent_by") (.str "sent_by" 478) (.ref 231)),
 (DictEntry.mk (kh P "slid_by") (.str "slid_by" 492) (.ref 238)),
 (DictEntry.mk (kh P "is_slide") (.str "is_slide" 501) (.ref 245)),
 (DictEntry.mk (kh P "has_form_of_slide") (.str "has_form_of_slide" 509) (.ref 252)),
 (DictEntry.mk (kh P "share_no_tie") (.str "share_no_tie" 515) (.ref 257)),
 (DictEntry.mk (kh P "not_sent") (.str "not_sent" 525) (.ref 264)),
 (DictEntry.mk (kh P "most_slid") (.str "most_slid" 534) (.ref 271)),
 (DictEntry.mk (kh P "slid_once") (.str "slid_once" 543) (.ref 278)),
 (DictEntry.mk (kh P "part_behind") (.str "part_behind" 552) (.ref 285)),
 (DictEntry.mk (kh P "slides_for") (.str "slides_for" 564) (.ref 292)),
 (DictEntry.mk (kh P "greatest_slide") (.str "greatest_slide" 576) (.ref 299)),
 (DictEntry.mk (kh P "ways_apart") (.str "ways_apart" 586) (.ref 306)),
 (DictEntry.mk (kh P "HALF") (.str "HALF" 591) (.ref 307)),
 (DictEntry.mk (kh P "lets_rounding") (.str "lets_rounding" 602) (.ref 314)),
 (DictEntry.mk (kh P "keeps_whole_asks") (.str "keeps_whole_asks" 614) (.ref 321)),
 (DictEntry.mk (kh P "nearest_way") (.str "nearest_way" 622) (.ref 328)),
 (DictEntry.mk (kh P "keeps_within") (.str "keeps_within" 635) (.ref 335)),
 (DictEntry.mk (kh P "half_of_greatest") (.str "half_of_greatest" 645) (.ref 342)),
 (DictEntry.mk (kh P "by_lesser_place") (.str "by_lesser_place" 654) (.ref 349)),
 (DictEntry.mk (kh P "rising_way") (.str "rising_way" 662) (.ref 356)),
 (DictEntry.mk (kh P "gain_of") (.str "gain_of" 674) (.ref 363)),
 (DictEntry.mk (kh P "rounding_of") (.str "rounding_of" 683) (.ref 370)),
 (DictEntry.mk (kh P "rounded_ways") (.str "rounded_ways" 689) (.ref 375)),
 (DictEntry.mk (kh P "gains_of") (.str "gains_of" 697) (.ref 380)),
 (DictEntry.mk (kh P "_law_begun") (.str "_law_begun" 708) (.ref 387)),
 (DictEntry.mk (kh P "_law_take") (.str "_law_take" 719) (.ref 394)),
 (DictEntry.mk (kh P "_law_low") (.str "_law_low" 729) (.ref 401)),
 (DictEntry.mk (kh P "_law_amount") (.str "_law_amount" 740) (.ref 408)),
 (DictEntry.mk (kh P "_law_plus") (.str "_law_plus" 748) (.ref 415)),
 (DictEntry.mk (kh P "_law_minus") (.str "_law_minus" 756) (.ref 422)),
 (DictEntry.mk (kh P "_law_under") (.str "_law_under" 764) (.ref 429)),
 (DictEntry.mk (kh P "_law_chain") (.str "_law_chain" 770) (.ref 434)),
 (DictEntry.mk (kh P "_law_sums") (.str "_law_sums" 783) (.ref 441)),
 (DictEntry.mk (kh P "_law_bounded") (.str "_law_bounded" 799) (.ref 448)),
 (DictEntry.mk (kh P "_law_gains_right") (.str "_law_gains_right" 814) (.ref 455)),
 (DictEntry.mk (kh P "_law_all_ways") (.str "_law_all_ways" 820) (.ref 460)),
 (DictEntry.mk (kh P "_law_right") (.str "_law_right" 836) (.ref 467)),
 (DictEntry.mk (kh P "law") (.str "law" 856) (.ref 474))]
noncomputable def TF:List Value:=[(.int 2 0),(.int 0 0),(.ref 20),(.int 9 0),(.int 0 0),(.ref 27),(.int 13 0),(.int 0 0),(.ref 47),(.int 19 0),(.int 0 0),(.ref 66),(.int 21 0),(.int 0 0),(.ref 73),(.int 23 0),(.int 0 0),(.ref 80),(.int 25 0),(.int 0 0),(.ref 87),(.int 29 0),(.int 0 0),(.ref 95),(.int 34 0),(.int 0 0),(.ref 102),(.int 36 0),(.int 0 0),(.ref 109),(.int 38 0),(.int 0 0),(.ref 116),(.int 40 0),(.int 0 0),(.ref 123),(.int 42 0),(.int 0 0),(.ref 130),(.int 44 0),(.int 0 0),(.ref 137),(.int 46 0),(.int 0 0),(.ref 144),(.int 52 0),(.int 0 0),(.ref 151),(.int 54 0),(.int 0 0),(.ref 158),(.int 56 0),(.int 0 0),(.ref 165),(.int 62 0),(.int 0 0),(.ref 170),(.int 64 0),(.int 0 0),(.ref 177),(.int 73 0),(.int 0 0),(.ref 184),(.int 75 0),(.int 0 0),(.ref 191),(.int 77 0),(.int 0 0),(.ref 196),(.int 84 0),(.int 0 0),(.ref 203),(.int 91 0),(.int 0 0),(.ref 210),(.int 95 0),(.int 0 0),(.ref 215),(.int 97 0),(.int 0 0),(.ref 220),(.int 100 0),(.int 0 0),(.ref 225),(.int 104 0),(.int 0 0),(.ref 230),(.int 107 0),(.int 0 0),(.ref 237),(.int 116 0),(.int 0 0),(.ref 244),(.int 122 0),(.int 0 0),(.ref 251),(.int 128 0),(.int 0 0),(.ref 256),(.int 131 0),(.int 0 0),(.ref 263),(.int 133 0),(.int 0 0),(.ref 270),(.int 135 0),(.int 0 0),(.ref 277),(.int 140 0),(.int 0 0),(.ref 284),(.int 142 0),(.int 0 0),(.ref 291),(.int 152 0),(.int 0 0),(.ref 298),(.int 156 0),(.int 0 0),(.ref 305),(.int 163 0),(.int 0 0),(.ref 313),(.int 174 0),(.int 0 0),(.ref 320),(.int 179 0),(.int 0 0),(.ref 327),(.int 181 0),(.int 0 0),(.ref 334),(.int 189 0),(.int 0 0),(.ref 341),(.int 194 0),(.int 0 0),(.ref 348),(.int 196 0),(.int 0 0),(.ref 355),(.int 198 0),(.int 0 0),(.ref 362),(.int 202 0),(.int 0 0),(.ref 369),(.int 205 0),(.int 0 0),(.ref 374),(.int 217 0),(.int 0 0),(.ref 379),(.int 221 0),(.int 0 0),(.ref 386),(.int 226 0),(.int 0 0),(.ref 393),(.int 237 0),(.int 0 0),(.ref 400),(.int 245 0),(.int 0 0),(.ref 407),(.int 249 0),(.int 0 0),(.ref 414),(.int 251 0),(.int 0 0),(.ref 421),(.int 253 0),(.int 0 0),(.ref 428),(.int 255 0),(.int 0 0),(.ref 433),(.int 273 0),(.int 0 0),(.ref 440),(.int 281 0),(.int 0 0),(.ref 447),(.int 292 0),(.int 0 0),(.ref 454),(.int 305 0),(.int 0 0),(.ref 459),(.int 310 0),(.int 0 0),(.ref 466),(.int 324 0),(.int 0 0),(.ref 473)]
noncomputable def TH(P:Params):List (Nat×Obj):=[(12,DI (TF.take 0))]
noncomputable def T0(P:Params):BT:=Sd 15 (λb=>Hv [12] P (TH P) ob b 0) 1 0 0
noncomputable abbrev S0(w:World)(os:OsState):SharedT:=⟨T0 w.params,15,qD,#[],⟨0,0,0,0⟩,187,os⟩
noncomputable def TJ(P:Params):List (Nat×Obj):=[(3,yu P (.str "ringloads.errors" 198) ((J4 P).take 2) 11),(12,DI (TF.take 6)),(38,(Obj.mk (.type "type") none (.cls (PySem.ClassData.mk "LoadError" [(.type "ValueError")] [(.ref 38),(.type "ValueError"),(.type "Exception"),(.type "BaseException"),(.type "object")] 37 "LoadError" true [] [] false none false)) #[(some (.ref 22)),none,(some (.str "LoadError" 200)),(some (.str "LoadError" 208)),(some (.builtin "ValueError.__new__")),(some (.bool true))]))]
noncomputable def T1(P:Params):BT:=Sd 42 (λb=>Hv [3,12,38] P (TJ P) ob b 1) 1 0 1
noncomputable abbrev S1(w:World)(os:OsState):SharedT:=⟨T1 w.params,42,qD,#[],⟨0,0,0,0⟩,226,os⟩
noncomputable def TK(P:Params):List (Nat×Obj):=[(3,yu P (.str "ringloads.ratios" 282) ((J4 P).take 8) 17),(12,DI (TF.take 21))]
noncomputable def T2(P:Params):BT:=Sd 90 (λb=>Hv [3,12] P (TK P) ob b 2) 1 0 2
noncomputable abbrev S2(w:World)(os:OsState):SharedT:=⟨T2 w.params,90,qD,#[],⟨0,0,0,0⟩,287,os⟩
noncomputable def TL(P:Params):List (Nat×Obj):=[(3,yu P (.str "ringloads.crossing" 353) ((J4 P).take 20) 29),(12,DI (TF.take 57))]
noncomputable def T3(P:Params):BT:=Sd 172 (λb=>Hv [3,12] P (TL P) ob b 3) 1 0 3
noncomputable abbrev S3(w:World)(os:OsState):SharedT:=⟨T3 w.params,172,qD,#[],⟨0,0,0,0⟩,390,os⟩
noncomputable def TM(P:Params):List (Nat×Obj):=[(3,yu P (.str "ringloads.slides" 479) ((J4 P).take 33) 42),(12,DI (TF.take 90))]
noncomputable def T4(P:Params):BT:=Sd 239 (λb=>Hv [3,12] P (TM P) ob b 4) 1 0 4
noncomputable abbrev S4(w:World)(os:OsState):SharedT:=⟨T4 w.params,239,qD,#[],⟨0,0,0,0⟩,493,os⟩
noncomputable def TN(P:Params):List (Nat×Obj):=[(3,yu P (.str "ringloads.rounding" 587) ((J4 P).take 46) 55),(12,DI (TF.take 126))]
noncomputable def T5(P:Params):BT:=Sd 322 (λb=>Hv [3,12] P (TN P) ob b 5) 1 0 5
noncomputable abbrev S5(w:World)(os:OsState):SharedT:=⟨T5 w.params,322,qD,#[],⟨0,0,0,0⟩,615,os⟩
noncomputable def TQ(P:Params):List (Nat×Obj):=[(3,yu P (.str "law_ringloads_k40_whole_chains_rounded" 698) ((J4 P).take 58) 67),(12,DI (TF.take 162))]
noncomputable def T6(P:Params):BT:=Sd 402 (λb=>Hv [3,12] P (TQ P) ob b 6) 1 0 6
noncomputable abbrev S6(w:World)(os:OsState):SharedT:=⟨T6 w.params,402,qD,#[],⟨0,0,0,0⟩,730,os⟩
noncomputable def TR(P:Params):List (Nat×Obj):=[(3,yu P (.str "law_ringloads_k40_whole_chains_rounded" 698) ((J4 P).take 69) 78),(12,DI (TF.take 195))]
noncomputable def T7(P:Params):BT:=Sd 475 (λb=>Hv [3,12] P (TR P) ob b 7) 1 0 7
noncomputable abbrev S7(w:World)(os:OsState):SharedT:=⟨T7 w.params,475,qD,#[],⟨0,0,0,0⟩,857,os⟩
noncomputable abbrev env:Env:={scope:=pr.main.scope,locals:=mainNs,globals:=mainNs,cells:=[],code:=.ref 13,frame:=some 14}
noncomputable abbrev cE:Code:=.body (behindTheImports pr) env
noncomputable abbrev B:List Frame:=[topFrame ⟨0,0,0,0⟩]
noncomputable def OG:List Stmt:=(pr.main.body.drop 0).take 4
theorem TU(w:World)(os:OsState):segRunT treeTable pr w 11 (some (.ref 6)) 1 267 (S0 w os) (piecesOf OG env cE ⟨0,0,0,0⟩ B)=some (.next,S1 w os,cE,⟨9,0,12,39⟩):=qE z_
noncomputable def OH:List Stmt:=(pr.main.body.drop 4).take 8
theorem TV(w:World)(os:OsState):segRunT treeTable pr w 11 (some (.ref 6)) 1 393 (S1 w os) (piecesOf OH env cE ⟨9,0,12,39⟩ B)=some (.next,S2 w os,cE,⟨28,0,28,6⟩):=qE z_
noncomputable def OI:List Stmt:=(pr.main.body.drop 12).take 13
theorem TX(w:World)(os:OsState):segRunT treeTable pr w 11 (some (.ref 6)) 1 373 (S2 w os) (piecesOf OI env cE ⟨28,0,28,6⟩ B)=some (.next,S3 w os,cE,⟨62,0,63,102⟩):=qE z_
noncomputable def OJ:List Stmt:=(pr.main.body.drop 25).take 17
theorem TY(w:World)(os:OsState):segRunT treeTable pr w 11 (some (.ref 6)) 1 378 (S3 w os) (piecesOf OJ env cE ⟨62,0,63,102⟩ B)=some (.next,S4 w os,cE,⟨107,0,115,15⟩):=qE z_
noncomputable def OK:List Stmt:=(pr.main.body.drop 42).take 14
theorem TZ(w:World)(os:OsState):segRunT treeTable pr w 11 (some (.ref 6)) 1 401 (S4 w os) (piecesOf OK env cE ⟨107,0,115,15⟩ B)=some (.next,S5 w os,cE,⟨174,0,178,15⟩):=qE z_
noncomputable def OL:List Stmt:=(pr.main.body.drop 56).take 14
theorem T8(w:World)(os:OsState):segRunT treeTable pr w 11 (some (.ref 6)) 1 390 (S5 w os) (piecesOf OL env cE ⟨174,0,178,15⟩ B)=some (.next,S6 w os,cE,⟨237,0,244,62⟩):=qE z_
noncomputable def OM:List Stmt:=(pr.main.body.drop 70).take 11
theorem T9(w:World)(os:OsState):segRunT treeTable pr w 11 (some (.ref 6)) 1 366 (S6 w os) (piecesOf OM env cE ⟨237,0,244,62⟩ B)=some (.next,S7 w os,cE,⟨324,0,336,15⟩):=qE z_
noncomputable abbrev H1(P:Params):Heap:=absHeap (T7 P) 475 qD
theorem pre(w:World)(os:OsState):topGo treeTable pr w 11 (some (.ref 6)) 12 ⟨boot_heap w.params,#[],boot_drawn,boot_toks,os⟩ (topStub pr)=some (⟨⟨⟨J2 w.params⟩,qD⟩,#[],⟨0,0,0,0⟩,187,os⟩,⟨denote treeTable cE,cE,⟨0,0,0,0⟩,B⟩):=by rw[MF];exact NY z_
theorem HI(w:World)(os:OsState):segRun treeTable pr w 11 (some (.ref 6)) 1 1 ⟨⟨⟨J2 w.params⟩,qD⟩,#[],⟨0,0,0,0⟩,187,os⟩ (blockOf (behindTheImports pr) env cE ⟨0,0,0,0⟩ B)=some (.next,(S0 w os).abs,cE,⟨0,0,0,0⟩):=by kernel_rfl
theorem PR(w:World)(os:OsState):topRun treeTable pr w 11 (some (.ref 6)) 2 (S7 w os).abs ⟨doneF .next,cE,⟨324,0,336,15⟩,B⟩=some ⟨H1 w.params,#[],⟨0,0,0,0⟩,857,os⟩:=ME z_
theorem J5:behindTheImports pr=(OG++(OH++(OI++(OJ++(OK++(OL++(OM++[]))))))):=by kernel_rfl
theorem run(w:World)(os:OsState):topRun treeTable pr w 11 (some (.ref 6)) (12+(1+(267+(393+(373+(378+(401+(390+(366+2))))))))) ⟨boot_heap w.params,#[],boot_drawn,boot_toks,os⟩ (topStub pr)=some ⟨H1 w.params,#[],⟨0,0,0,0⟩,857,os⟩ :=
 go_top (pre w os) (piece_block (HI w os) (J3 J5 (piece_app (segRun_of (TU w os)) (piece_app (segRun_of (TV w os)) (piece_app (segRun_of (TX w os)) (piece_app (segRun_of (TY w os)) (piece_app (segRun_of (TZ w os)) (piece_app (segRun_of (T8 w os)) (piece_app (segRun_of (T9 w os)) (piece_nil (PR w os)))))))))))
noncomputable abbrev q:Program:=view pr [59,80]
noncomputable def loose:List Str:=(["greatest_shared","LoadError","NoSlide","is_whole","is_number_below","are_two_wholes","is_ratio","NOUGHT","lowest","plus","minus","times","under","greater","lesser","sum_of","lesser_place","greater_place","do_cross","parted_in","first_side_by_side","ON","BACK","is_way","other_way","ties_of","is_over","sent_over","load_of","loads_of","are_ways","sent_by","slid_by","is_slide","has_form_of_slide","share_no_tie","not_sent","most_slid","slid_once","part_behind","slides_for","greatest_slide","ways_apart","HALF","lets_rounding","keeps_whole_asks","nearest_way","keeps_within","half_of_greatest","rising_way","gain_of","rounding_of","rounded_ways","gains_of","_law_begun","_law_take","_law_low","_law_amount","_law_plus","_law_minus","_law_under","_law_chain","_law_sums","_law_bounded","_law_gains_right","_law_all_ways","_law_right"]:List String).map Str.ofString
noncomputable def Kf(P:Params):Frag:=(3,((TR P).getD 0 (0,default)).2)::[(2,boot_o_2 P),(20,(f1 P).getD 5 default),(21,(f1 P).getD 6 default),(22,(f3 P).getD 0 default),(23,(f3 P).getD 1 default),(24,(f3 P).getD 2 default),(25,(f3 P).getD 3 default),(26,(f3 P).getD 4 default),(27,(f3 P).getD 5 default),(28,(f3 P).getD 6 default),(29,(f3 P).getD 7 default),(30,(f3 P).getD 8 default),(31,(f3 P).getD 9 default),(32,(f3 P).getD 10 default),(33,(f3 P).getD 11 default),(34,(f3 P).getD 12 default),(35,(f3 P).getD 13 default),(36,(f3 P).getD 14 default),(37,(f3 P).getD 15 default),(38,(f3 P).getD 16 default),(39,(f3 P).getD 17 default),(40,(f3 P).getD 18 default),(41,(f3 P).getD 19 default),(42,(f4 P).getD 0 default),(43,(f4 P).getD 1 default),(44,(f4 P).getD 2 default),(45,(f4 P).getD 3 default),(46,(f4 P).getD 4 default),(47,(f4 P).getD 5 default),(48,(f4 P).getD 6 default),(49,(f4 P).getD 7 default),(50,(f4 P).getD 8 default),(51,(f4 P).getD 9 default),(52,(f4 P).getD 10 default),(53,(f4 P).getD 11 default),(54,(f4 P).getD 12 default),(55,(f4 P).getD 13 default),(56,(f4 P).getD 14 default),(57,(f4 P).getD 15 default),(58,(f4 P).getD 16 default),(59,(f4 P).getD 17 default),(60,(f4 P).getD 18 default),(66,(f6 P).getD 5 default),(67,(f6 P).getD 6 default),(73,(f7 P).getD 5 default),(74,(f7 P).getD 6 default),(80,(f8 P).getD 5 default),(81,(f8 P).getD 6 default),(87,(f9 P).getD 5 default),(88,(f9 P).getD 6 default),(89,(Se P).getD 0 default),(95,(Sf P).getD 5 default),(96,(Sf P).getD 6 default),(102,(Sg P).getD 5 default),(103,(Sg P).getD 6 default),(109,(Sh P).getD 5 default),(110,(Sh P).getD 6 default),(116,(Si P).getD 5 default),(117,(Si P).getD 6 default),(123,(Sj P).getD 5 default),(124,(Sj P).getD 6 default),(130,(Sl P).getD 5 default),(131,(Sl P).getD 6 default),(137,(Sn P).getD 5 default),(138,(Sn P).getD 6 default),(144,(So P).getD 5 default),(145,(So P).getD 6 default),(151,(Sq P).getD 5 default),(152,(Sq P).getD 6 default),(158,(Sr P).getD 5 default),(159,(Sr P).getD 6 default),(165,(Ss P).getD 5 default),(166,(Ss P).getD 6 default),(170,(Su P).getD 3 default),(171,(Su P).getD 4 default),(177,(Sv P).getD 5 default),(178,(Sv P).getD 6 default),(184,(Sw P).getD 5 default),(185,(Sw P).getD 6 default),(191,(Sx P).getD 5 default),(192,(Sx P).getD 6 default),(196,(Sy P).getD 3 default),(197,(Sy P).getD 4 default),(203,(Sz P).getD 5 default),(204,(Sz P).getD 6 default),(210,(SA P).getD 5 default),(211,(SA P).getD 6 default),(215,(SB P).getD 3 default),(216,(SB P).getD 4 default),(220,(SC P).getD 3 default),(221,(SC P).getD 4 default),(225,(SD P).getD 3 default),(226,(SD P).getD 4 default),(230,(SE P).getD 3 default),(231,(SE P).getD 4 default),(237,(SG P).getD 5 default),(238,(SG P).getD 6 default),(244,(SH P).getD 5 default),(245,(SH P).getD 6 default),(251,(SI P).getD 5 default),(252,(SI P).getD 6 default),(256,(SJ P).getD 3 default),(257,(SJ P).getD 4 default),(263,(SK P).getD 5 default),(264,(SK P).getD 6 default),(270,(SL P).getD 5 default),(271,(SL P).getD 6 default),(277,(SN P).getD 5 default),(278,(SN P).getD 6 default),(284,(SO P).getD 5 default),(285,(SO P).getD 6 default),(291,(SQ P).getD 5 default),(292,(SQ P).getD 6 default),(298,(SR P).getD 5 default),(299,(SR P).getD 6 default),(305,(SS P).getD 5 default),(306,(SS P).getD 6 default),(307,(SU P).getD 0 default),(313,(SV P).getD 5 default),(314,(SV P).getD 6 default),(320,(SW P).getD 5 default),(321,(SW P).getD 6 default),(327,(SX P).getD 5 default),(328,(SX P).getD 6 default),(334,(SY P).getD 5 default),(335,(SY P).getD 6 default),(341,(SZ P).getD 5 default),(342,(SZ P).getD 6 default),(348,(S8 P).getD 5 default),(349,(S8 P).getD 6 default),(355,(S9 P).getD 5 default),(356,(S9 P).getD 6 default),(362,(Ta P).getD 5 default),(363,(Ta P).getD 6 default),(369,(Tb P).getD 5 default),(370,(Tb P).getD 6 default),(374,(Tc P).getD 3 default),(375,(Tc P).getD 4 default),(379,(Td P).getD 3 default),(380,(Td P).getD 4 default),(386,(Te P).getD 5 default),(387,(Te P).getD 6 default),(393,(Tf P).getD 5 default),(394,(Tf P).getD 6 default),(400,(Th P).getD 5 default),(401,(Th P).getD 6 default),(407,(Ti P).getD 5 default),(408,(Ti P).getD 6 default),(414,(Tj P).getD 5 default),(415,(Tj P).getD 6 default),(421,(Tn P).getD 5 default),(422,(Tn P).getD 6 default),(428,(To P).getD 5 default),(429,(To P).getD 6 default),(433,(Tp P).getD 3 default),(434,(Tp P).getD 4 default),(440,(Tq P).getD 5 default),(441,(Tq P).getD 6 default),(447,(Ts P).getD 5 default),(448,(Ts P).getD 6 default),(454,(Tt P).getD 5 default),(455,(Tt P).getD 6 default),(459,(Tu P).getD 3 default),(460,(Tu P).getD 4 default),(466,(Tv P).getD 5 default),(467,(Tv P).getD 6 default),(473,(Tw P).getD 5 default),(474,(Tw P).getD 6 default)]
noncomputable abbrev as:List Addr:=[3,2,20,21,22,23,24,25,26,27,28,29,30,31,32,33,34,35,36,37,38,39,40,41,42,43,44,45,46,47,48,49,50,51,52,53,54,55,56,57,58,59,60,66,67,73,74,80,81,87,88,89,95,96,102,103,109,110,116,117,123,124,130,131,137,138,144,145,151,152,158,159,165,166,170,171,177,178,184,185,191,192,196,197,203,204,210,211,215,216,220,221,225,226,230,231,237,238,244,245,251,252,256,257,263,264,270,271,277,278,284,285,291,292,298,299,305,306,307,313,314,320,321,327,328,334,335,341,342,348,349,355,356,362,363,369,370,374,375,379,380,386,387,393,394,400,401,407,408,414,415,421,422,428,429,433,434,440,441,447,448,454,455,459,460,466,467,473,474]
noncomputable abbrev Hk:Hook:=kHook Kf as (λ_=>by kernel_rfl)
noncomputable abbrev Xt:Shared→Bool:=fun s=>xlAt q [] s && recOk (RowW.records PySem.Challenge.rw_ringloads_k40_whole_chains_rounded.row.toRowW) s
theorem size (w:World):((boot_heap w.params).isNs mainGlobals && (#[]:Array GenState).size == 0,(boot_heap w.params).objs.size,(boot_heap w.params).nsMap mainGlobals "__annotations__")=(true,11,some (.ref 6)):=by kernel_rfl
theorem N7(w:World)(os:OsState):(staticsOk (importedModules pr.main.body) (boot_heap w.params) (H1 w.params) && namesBound pr (H1 w.params) && gensDone ⟨H1 w.params,#[],⟨0,0,0,0⟩,857,os⟩ && laidKept (boot_heap w.params) (H1 w.params))=true:=by kernel_rfl
theorem N8(w:World)(os:OsState):openSeen q loose (importedModules pr.main.body) Xt true ⟨H1 w.params,#[],⟨0,0,0,0⟩,857,os⟩=openGood q loose:=by rw[Fast.te4187177175401517315];kernel_rfl
theorem N9(w:World)(os:OsState):Hk.obs ⟨H1 w.params,#[],⟨0,0,0,0⟩,857,os⟩=Hk.val w:=by kernel_rfl
theorem MG:opening pr=plainProg pr.main.scope.names:=by kernel_rfl
theorem left:LeftO pr q loose Xt Hk.obs Hk.val 5822:=LeftO.of_pieces (M:=(12+(1+(267+(393+(373+(378+(401+(390+(366+2)))))))))) (boot_open MG x_ (λs=>by kernel_rfl)) size run y_ (λw=>funext λos=>looks_pair (N7 w os) (looks_pair (N8 w os) (N9 w os)))
end Hd
namespace My
open PySem L2
local macro_rules | `(tactic| walk_at "w")=>do
 let ids:=("CU M3 LX rX QW CQ M1 zS v9 v8 Rf A5 Re FE Jl FF Fj CF K2 EO Im K3 ER Io Fe Ll IM IU Ju FK Lq Nv IW Lr Nw IY Nz Js KY KZ EN B8 xS Lp zJ IT CB A1 Fm Ny uk oW a5 QC aW ax QB aj p5 wC bD bN vJ cm aD fV bp aq xv aI Qv EU mW AL nJ r6 vI K4 Qz k9 MX Ca BA bI dD vN ue II IH vY QW rX d7 Fk qe CD List.all_cons List.all_nil Bool.and_true Bool.true_and vM Nm Fc p6 r9 Ir ub xQ Lo Kr zH ye yf Ba bu wk C5 FZ iS fP zM ph bF uc jS AO vi Nl Kq K9 sU xK ES FR FT FU FV FW Jx Jy Jz JA Mi Mj JD JE NM NN Da Dc JG zG m6 Hb zZ De C3 z6 tw eY Ml FY List.length_map C4 C6 C7 C8 F4 Bb C9 yg yh yi wo yj uv F5 JB xN AR Cg AS vL pk F6 JH F7 F8 Ga Gb Bc wq wu Dd JI Np sW AW beq_self_eq_true String.reduceBEq String.reduceEq reduceCtorEq Nu AU jW cI iw bB AY Cu AZ qa Ct G4 List.getElem?_cons_zero List.getElem?_cons_succ List.set_cons_zero List.set_cons_succ List.cons_append List.nil_append List.replicate_succ List.replicate_zero List.map_cons List.map_nil List.drop_succ_cons List.drop_zero Option.getD_some true_and decide_eq_true_eq Bool.not_eq_true' decide_eq_false_iff_not ite_true ite_false Bool.false_eq_true Bool.true_eq_false if_true if_false List.length_cons List.length_nil Nat.reduceAdd Nat.reduceSub ya yb Md Me NK O6 O7 O8 Option.some.injEq exists_eq_left' exists_eq_left".splitOn " ").toArray.map fun s=>Lean.mkIdent ((s.splitOn ".").foldl Lean.Name.mkStr Lean.Name.anonymous)
 `(tactic| try simp only [$[$ids:ident],*])
local macro_rules | `(tactic| walk_at "o")=>`(tactic| first | exact Or.inl rfl | exact Or.inr rfl)
theorem v4{a b:Prop}(h:a∨b:=by walk_at "o"):a∨b:=h
noncomputable abbrev ej:Stmt:=Hd.top 1
noncomputable abbrev nZ:List Str:=["one","other","rest"]
noncomputable abbrev n4:Stmt:=Hd.top 6
noncomputable abbrev Bg:List Str:=["thing"]
noncomputable abbrev eu:Stmt:=Hd.top 7
noncomputable abbrev n5:List Str:=["thing","many"]
noncomputable abbrev fv:Stmt:=Hd.top 8
noncomputable abbrev pC:List Str:=["thing"]
noncomputable abbrev n6:Stmt:=Hd.top 9
noncomputable abbrev Bh:List Str:=["thing"]
noncomputable abbrev uK:Stmt:=Hd.top 12
noncomputable abbrev Gy:List Str:=["top","bottom","shared"]
noncomputable abbrev DJ:Stmt:=Hd.top 13
noncomputable abbrev MH:List Str:=["one","other"]
noncomputable abbrev yv:Stmt:=Hd.top 14
noncomputable abbrev J6:List Str:=["one","other"]
noncomputable abbrev yw:Stmt:=Hd.top 15
noncomputable abbrev J7:List Str:=["one","other"]
noncomputable abbrev yx:Stmt:=Hd.top 16
noncomputable abbrev J8:List Str:=["one","other"]
noncomputable abbrev qF:Stmt:=Hd.top 17
noncomputable abbrev DK:List Str:=["one","other"]
noncomputable abbrev uL:Stmt:=Hd.top 18
noncomputable abbrev Gz:List Str:=["one","other"]
noncomputable abbrev uM:Stmt:=Hd.top 19
noncomputable abbrev GA:List Str:=["some","whole","one"]
noncomputable abbrev g9:Stmt:=Hd.top 21
noncomputable abbrev sj:List Str:=["ring","k"]
noncomputable abbrev gh:Stmt:=Hd.top 22
noncomputable abbrev qG:List Str:=["ring","k"]
noncomputable abbrev n8:Stmt:=Hd.top 23
noncomputable abbrev Bi:List Str:=["ring","k","l","low","high","first","last"]
noncomputable abbrev iW:Stmt:=Hd.top 24
noncomputable abbrev qH:List Str:=["ring","sending"]
noncomputable abbrev cL:Stmt:=Hd.top 25
noncomputable abbrev lh:List Str:=["ring","some","number","k","l"]
noncomputable abbrev uN:Stmt:=Hd.top 29
noncomputable abbrev GB:List Str:=["thing"]
noncomputable abbrev mj:Stmt:=Hd.top 30
noncomputable abbrev yy:List Str:=["way"]
noncomputable abbrev j5:Stmt:=Hd.top 31
noncomputable abbrev qI:List Str:=["ring","k","way","places","one","other"]
noncomputable abbrev qJ:Stmt:=Hd.top 32
noncomputable abbrev DL:List Str:=["ring","k","way","tie","places","one","other","lies_on"]
noncomputable abbrev ml:Stmt:=Hd.top 34
noncomputable abbrev yz:List Str:=["ring","sending","k","tie"]
noncomputable abbrev nh:Stmt:=Hd.top 35
noncomputable abbrev wK:List Str:=["ring","sending","tie"]
noncomputable abbrev kU:Stmt:=Hd.top 36
noncomputable abbrev tJ:List Str:=["ring","sending"]
noncomputable abbrev kW:Stmt:=Hd.top 38
noncomputable abbrev tK:List Str:=["ring","thing"]
noncomputable abbrev nj:Stmt:=Hd.top 39
noncomputable abbrev wL:List Str:=["ring","ways"]
noncomputable abbrev iX:Stmt:=Hd.top 48
noncomputable abbrev uO:List Str:=["part","way","amount"]
noncomputable abbrev mn:Stmt:=Hd.top 47
noncomputable abbrev yA:List Str:=["sending","slide","slid"]
noncomputable abbrev eN:Stmt:=Hd.top 44
noncomputable abbrev lE:List Str:=["ring","k","way","l","other","taken"]
noncomputable abbrev cZ:Stmt:=Hd.top 43
noncomputable abbrev mq:List Str:=["thing","asks"]
noncomputable abbrev n9:Stmt:=Hd.top 45
noncomputable abbrev Bj:List Str:=["ring","sending","k","way"]
noncomputable abbrev mr:Stmt:=Hd.top 46
noncomputable abbrev yB:List Str:=["ring","sending","slide"]
noncomputable abbrev oa:Stmt:=Hd.top 42
noncomputable abbrev Bk:List Str:=["ring","sending","thing"]
noncomputable abbrev qK:Stmt:=Hd.top 41
noncomputable abbrev DM:List Str:=["ring","sending","thing","slid","number","slide"]
noncomputable abbrev j6:Stmt:=Hd.top 51
noncomputable abbrev wM:List Str:=["ring","k","l","ways"]
noncomputable abbrev fw:Stmt:=Hd.top 50
noncomputable abbrev pD:List Str:=["ring","sending","k","l","ways","slide"]
noncomputable abbrev j7:Stmt:=Hd.top 49
noncomputable abbrev wN:List Str:=["ring","sending","slid","slides","pair","slide"]
noncomputable abbrev iY:Stmt:=Hd.top 56
noncomputable abbrev uP:List Str:=["ask","part"]
noncomputable abbrev dF:Stmt:=Hd.top 55
noncomputable abbrev nq:List Str:=["ring","slid","parted","ways","k","ask"]
noncomputable abbrev dG:Stmt:=Hd.top 58
noncomputable abbrev nr:List Str:=["ring","some","greatest","k"]
noncomputable abbrev cG:Stmt:=Hd.top 59
noncomputable abbrev oe:List Str:=["ring","some"]
noncomputable abbrev j8:Stmt:=Hd.top 60
noncomputable abbrev wO:List Str:=["ring","k"]
noncomputable abbrev qL:Stmt:=Hd.top 61
noncomputable abbrev DN:List Str:=["ring","sending","k","way","size","rising"]
noncomputable abbrev hG:Stmt:=Hd.top 57
noncomputable abbrev sq:List Str:=["ring","slid","parted","ways","half","whole","k"]
noncomputable abbrev gi:Stmt:=Hd.top 54
noncomputable abbrev qM:List Str:=["ring","sending","thing","slid","parted"]
noncomputable abbrev eO:Stmt:=Hd.top 63
noncomputable abbrev lF:List Str:=["ring","slid","parted","ways","half","whole","k"]
noncomputable abbrev iZ:Stmt:=Hd.top 62
noncomputable abbrev uQ:List Str:=["ring","sending","slides"]
noncomputable abbrev kX:Stmt:=Hd.top 65
noncomputable abbrev tM:List Str:=["ring","sending","ways","whole"]
noncomputable abbrev j9:Stmt:=Hd.top 67
noncomputable abbrev wQ:List Str:=["_law_script","_law_k","_law_cell"]
noncomputable abbrev mv:Stmt:=Hd.top 68
noncomputable abbrev yC:List Str:=["_law_state","_law_many","_law_digit","_law_drawn","_law_turn"]
noncomputable abbrev og:Stmt:=Hd.top 69
noncomputable abbrev Bl:List Str:=["_law_top","_law_bottom","_law_one","_law_share"]
noncomputable abbrev i0:Stmt:=Hd.top 70
noncomputable abbrev uR:List Str:=["_law_state","_law_least","_law_kind","_law_bottom","_law_top"]
noncomputable abbrev gQ:Stmt:=Hd.top 74
noncomputable abbrev oY:List Str:=["_law_script","_law_state","_law_half","_law_places","_law_many","_law_left","_law_source","_law_kind","_law_asks","_law_k","_law_place","_law_ends"]
noncomputable abbrev cw:Stmt:=Hd.top 78
noncomputable abbrev gj:List Str:=["_law_many","_law_found","_law_k"]
noncomputable abbrev ka:Stmt:=Hd.top 72
noncomputable abbrev wR:List Str:=["_law_one","_law_other"]
noncomputable abbrev mw:Stmt:=Hd.top 75
noncomputable abbrev yD:List Str:=["_law_asks","_law_sending","_law_ways","_law_rows","_law_k","_law_ask","_law_gain"]
noncomputable abbrev kb:Stmt:=Hd.top 73
noncomputable abbrev wU:List Str:=["_law_one","_law_other"]
noncomputable abbrev mx:Stmt:=Hd.top 71
noncomputable abbrev yE:List Str:=["_law_one","_law_other"]
noncomputable abbrev hJ:Stmt:=Hd.top 76
noncomputable abbrev su:List Str:=["_law_asks","_law_rows","_law_most","_law_name","_law_one","_law_other","_law_size","_law_total","_law_place","_law_gain"]
noncomputable abbrev dH:Stmt:=Hd.top 77
noncomputable abbrev nu:List Str:=["_law_rows","_law_half","_law_gains","_law_whole","_law_place","_law_gain","_law_first","_law_there","_law_due"]
noncomputable abbrev kc:Stmt:=Hd.top 79
noncomputable abbrev wV:List Str:=["_law_ring","_law_half","_law_sending","_law_asks","_law_some","_law_ways","_law_rows","_law_due","_law_slides","_law_told"]
noncomputable abbrev GC:Stmt:=Hd.top 80
noncomputable abbrev Oa:List Str:=["_law_script","_law_rooms","_law_asks","_law_half","_law_ring","_law_k","_law_state","_law_sending","_law_even","_law_name","_law_one","_law_other","_law_size","_law_share"]
def cb:FS:=λls so=>∃a b:Int,ls=[.d (.int a),.d (.int b)]/\so (.d (.int (Int.gcd a b))) ls
def my:W Fl:=(a5 (bD 2 (ax jS (aj 0) (aj 1)))
  (a5 (bD 0 (aj 1))
  (bD 1 (aj 2))))
def eA:W Fl:=(a5 (zr (aW (ax xK (aj 1) (wC (.int 0)))) my)
  (bN (bp xN (aq (aj 0) aI))))
abbrev UR(n k:Nat)(f:FS)(m:W Fl):Prop:=∀ls so,ls.length=n->f ls so->m (ls++List.replicate k .un) (aR ls so)
theorem mz:UR 2 1 cb eA:=by
 rintro ls so - ⟨a,b,rfl,h⟩;unfold eA;walk_at "w";refine⟨λn Z=>∃x y r,Z=[.d (.int x),.d (.int y),r]/\Int.gcd x y=Int.gcd a b/\n=y.natAbs,⟨_,a,b,_,rfl,rfl,rfl⟩,?_⟩;rintro n Z ⟨x,y,r,rfl,hg,rfl⟩;walk_at "w";split
 .
  rename_i hy;have hy:y≠0:=by simpa using hy
  exact⟨hy,_,lB x hy,y,x.fmod y,_,rfl,by rw[zC];exact hg,rfl⟩
 .
  rename_i hy;have hy:y=0:=by simpa using hy
  subst hy;refine⟨_,ai (ai aO),?_⟩
  have e:(if x<0 then -x else x)=((Int.gcd a b:Nat):Int):=by rw[<- hg,Int.gcd_zero_right];split<;>omega
  rw[e];exact h
def gm:FS:=λls so=>(∃i:Int,ls=[.d (.int i)]/\so (.d (.bl true)) ls)∨∃d:D,ls=[.d d]/\(∀i,d≠.int i)/\so (.d (.bl false)) ls
def kY:W Fl:=(bN (k9 (QB (pk "int") (aj 0)) (Ca (aW (QB (pk "bool") (aj 0))))))
theorem wW:UR 1 0 gm kY:=by
 rintro ls so-(⟨i,rfl,h⟩|⟨d,rfl,hd,h⟩)
 . unfold kY;walk_at "w";exact⟨_,ai aO,h⟩
 .
  unfold kY
  cases d with
  |int i=>exact absurd rfl (hd i)
  |_=>walk_at "w"; exact⟨_,ai aO,h⟩
def cf:FS:=λls so=>∃(d:D)(n:Int),ls=[.d d,.d (.int n)]/\so (.d (.bl (qz d n))) ls
def eB:W Fl:=(bN (k9 (aD gm (aq (aj 0) aI)) (zH Nl vi (wC (.int 0)) (aj 0) (aj 1))))
theorem mB:UR 2 0 cf eB:=by
 rintro ls so - ⟨d,n,rfl,h⟩;unfold eB;by_cases hd:∃i,d=.int i
 .
  obtain⟨i,rfl⟩:=hd;have h:so (.d (.bl (decide (0<=i/\i<n)))) [.d (.int i),.d (.int n)]:=h;walk_at "w";refine .inl ⟨i,rfl,?_⟩;walk_at "w";by_cases c:0<=i
  .
   rw[if_pos c];have e:decide (0<=i/\i<n)=decide (i<n):=by rw[decide_eq_decide];omega
   rw[e]at h;exact⟨_,ai (ai aO),h⟩
  . rw[if_neg c];have e:decide (0<=i/\i<n)=false:=decide_eq_false xL;rw[e]at h;exact⟨_,ai (ai aO),h⟩
 .
  have e:qz d n=false:=by
   unfold qz;split
   . exact absurd ⟨_,rfl⟩ hd
   . rfl
  rw[e]at h;walk_at "w";refine .inr ⟨d,rfl,λi e=>hd ⟨i,e⟩,?_⟩;walk_at "w";exact⟨_,ai (ai aO),h⟩
noncomputable def Pp:D->Bool
 |.tup [.int _,.int _]=>true
 |_=>false
def eE:FS:=λls so=>(∃i j:Int,ls=[.d (.tup [.int i,.int j])]/\so (.d (.bl true)) ls)∨∃d:D,ls=[.d d]/\(∀i j,d≠.tup [.int i,.int j])/\so (.d (.bl false)) ls
def cS:W Fl:=(bN (k9 (QB (pk "tuple") (aj 0)) (k9 (ax sU (bp fh (aq (aj 0) aI)) (wC (.int 2))) (k9 (aD gm (aq (ax aK (aj 0) (wC (.int 0))) aI)) (aD gm (aq (ax aK (aj 0) (wC (.int 1))) aI))))))
theorem ny:UR 1 0 eE cS:=by
 rintro ls so-(⟨i,j,rfl,h⟩|⟨d,rfl,hd,h⟩)
 . unfold cS;walk_at "w";refine .inl ⟨_,rfl,?_⟩;walk_at "w";refine .inl ⟨_,rfl,?_⟩;walk_at "w";exact⟨_,ai aO,h⟩
 .
  unfold cS;have PR:aR [.d d] so (.rt (.d (.bl false))) [.d d]:=⟨_,ai aO,h⟩;by_cases ht:∃xs,d=.tup xs
  .
   obtain⟨xs,rfl⟩:=ht;by_cases hl:xs.length=2
   .
    obtain⟨x,y,rfl⟩:∃x y,xs=[x,y]:=by rcases xs with _|⟨x,_|⟨y,_|⟨z,r⟩⟩⟩<;>simp at hl;exact⟨_,_,rfl⟩
    have wh:∀z:D,(∃i,z=.int i)∨(∀i,z≠.int i):=λz=>by cases z<;>simp
    walk_at "w";rcases wh x with⟨i,rfl⟩|hx
    .
     refine .inl ⟨_,rfl,?_⟩;rcases wh y with⟨j,rfl⟩|hy
     . exact absurd rfl (hd i j)
     . walk_at "w";refine .inr ⟨_,rfl,hy,?_⟩;walk_at "w";exact PR
    . refine .inr ⟨_,rfl,hx,?_⟩;walk_at "w";exact PR
   .
    walk_at "w";have e:¬((xs.length:Int)=2):=by omega
    simp only[e,decide_false];exact PR
  .
   have ei:mY "tuple" d=false:=by
    cases d<;>first
     |exact absurd ⟨_,rfl⟩ ht
     |rfl
   walk_at "w";rw[ei];walk_at "w";exact PR
def mC:FS:=λls so=>∃d:D,ls=[.d d]/\so (.d (.bl (yp d))) ls
def kZ:W Fl:=(bN (k9 (aD eE (aq (aj 0) aI)) (k9 (ax K9 (ax aK (aj 0) (wC (.int 1))) (wC (.int 1))) (ax sU (aD cb (aq (ax aK (aj 0) (wC (.int 0))) (aq (ax aK (aj 0) (wC (.int 1))) aI))) (wC (.int 1))))))
theorem wX:UR 1 0 mC kZ:=by
 rintro ls so - ⟨d,rfl,h⟩;by_cases hd:∃i j,d=.tup [.int i,.int j]
 .
  obtain⟨i,j,rfl⟩:=hd;unfold kZ;walk_at "w";refine .inl ⟨_,_,rfl,?_⟩;walk_at "w";have e:yp (.tup [.int i,.int j])=(decide (1<=j) && decide ((Int.gcd i j:Int)=1)):=rfl;rw[e]at h;split
  . rename_i hj;refine⟨_,_,rfl,?_⟩;walk_at "w";have hj':(1:Int)<=j:=hj;rw[decide_eq_true hj',Bool.true_and]at h;exact⟨_,ai aO,h⟩
  . rename_i hj;have hj':¬(1:Int)<=j:=hj;rw[decide_eq_false hj',Bool.false_and]at h;exact⟨_,ai aO,h⟩
 . have hn:∀i j,d≠.tup [.int i,.int j]:=λi j e=>hd ⟨i,j,e⟩;rw[Dp hn]at h;unfold kZ;walk_at "w";refine .inr ⟨_,rfl,hn,?_⟩;walk_at "w";exact⟨_,ai aO,h⟩
def ke:FS:=λls so=>∃t b:Int,ls=[.d (.int t),.d (.int b)]/\b≠0/\b.natAbs<2^9000/\so (.d (QS (Rat.divInt t b))) ls
def uS:W Fl:=(a5 (bD 2 (bI (aD cb (aq (aj 0) (aq (aj 1) aI)))))
  (a5 (QC (aW (ax vi (aj 1) (wC (.int 0)))) (bD 2 (QB ES (aj 2))) cm)
  (bN (nJ (aq (ax uc (aj 0) (aj 2)) (aq (ax uc (aj 1) (aj 2)) aI))))))
theorem Bm:UR 2 1 ke uS:=by
 rintro ls so - ⟨t,b,rfl,hb,hz,h⟩;unfold uS;walk_at "w";refine⟨t,b,rfl,?_⟩;walk_at "w";have h1:=zE (t:=t) hb;have h2:=UI (zF (t:=t) hb) hz
 have PR:∀{g:Int}{Z:Ev},g=cJ t b->g≠0/\g.natAbs<2^9000/\g≠0/\g.natAbs<2^9000/\2<=sizeLine/\aR [.d (.int t),.d (.int b)] so (.rt (.d (.tup [.int (t.fdiv g),.int (b.fdiv g)]))) Z:=λ{g Z} e=>by
  have e1:g≠0:=by rw[e];exact h1
  have e2:g.natAbs<2^9000:=by rw[e];exact h2
  refine⟨e1,e2,e1,e2,x_,_,ai (ai aO),?_⟩;rw[zX hb e];exact h
 split
 . rename_i hlt;exact PR (by simp[cJ,hlt])
 . rename_i hlt;exact PR (by simp[cJ,hlt])
def i3:FS:=λls so=>∃p q:Rat,ls=[.d (QS p),.d (QS q)]/\RB 400000 p/\RB 400000 q/\p.den*q.den<2^9000/\so (.d (QS (p+q))) ls
def DO:W Fl:=(bN (aD ke (aq (bI (ax fP (ax bF (ax aK (aj 0) (wC (.int 0))) (ax aK (aj 1) (wC (.int 1)))) (ax bF (ax aK (aj 1) (wC (.int 0))) (ax aK (aj 0) (wC (.int 1)))))) (aq (bI (ax bF (ax aK (aj 0) (wC (.int 1))) (ax aK (aj 1) (wC (.int 1))))) aI))))
theorem GD:UR 2 0 i3 DO:=by rintro ls so - ⟨p,q,rfl,hp,hq,hz,h⟩;unfold DO;simp only[QS];walk_at "w";refine⟨hp.bn x_,hq.bd x_,hq.bn x_,hp.bd x_,hp.bd x_,hq.bd x_,_,_,rfl,nX p q,by rw[kQ];exact hz,_,ai (ai aO),?_⟩;rw[vW];exact h
theorem GE{p q:Rat}{so:L->List L->Prop}(hp:RB 4400 p)(hq:RB 4400 q)(h:so (.d (QS (p+q))) [.d (QS p),.d (QS q)]):i3 [.d (QS p),.d (QS q)] so :=
 ⟨p,q,rfl,hp.mono x_,hq.mono x_,UB (bj hp.2 hq.2) (Nat.pow_le_pow_right x_ x_),h⟩
def cT:FS:=λls so=>∃p q:Rat,ls=[.d (QS p),.d (QS q)]/\RB 400000 p/\RB 400000 q/\p.den*q.den<2^9000/\so (.d (QS (p-q))) ls
def yF:W Fl:=(bN (aD ke (aq (ax ph (ax bF (ax aK (aj 0) (wC (.int 0))) (ax aK (aj 1) (wC (.int 1)))) (ax bF (ax aK (aj 1) (wC (.int 0))) (ax aK (aj 0) (wC (.int 1))))) (aq (bI (ax bF (ax aK (aj 0) (wC (.int 1))) (ax aK (aj 1) (wC (.int 1))))) aI))))
theorem DP:UR 2 0 cT yF:=by rintro ls so - ⟨p,q,rfl,hp,hq,hz,h⟩;unfold yF;simp only[QS];walk_at "w";refine⟨hp.bn x_,hq.bd x_,hq.bn x_,hp.bd x_,hp.bd x_,hq.bd x_,_,_,rfl,nX p q,by rw[kQ];exact hz,_,ai (ai aO),?_⟩;rw[G3];exact h
theorem fb{p q:Rat}{so:L->List L->Prop}(hp:RB 4400 p)(hq:RB 4400 q)(h:so (.d (QS (p-q))) [.d (QS p),.d (QS q)]):cT [.d (QS p),.d (QS q)] so :=
 ⟨p,q,rfl,hp.mono x_,hq.mono x_,UB (bj hp.2 hq.2) (Nat.pow_le_pow_right x_ x_),h⟩
def uT:FS:=λls so=>∃p q:Rat,ls=[.d (QS p),.d (QS q)]/\RB 4400 p/\RB 4400 q/\so (.d (QS (p*q))) ls
def yG:W Fl:=(bN (aD ke (aq (bI (ax bF (ax aK (aj 0) (wC (.int 0))) (ax aK (aj 1) (wC (.int 0))))) (aq (bI (ax bF (ax aK (aj 0) (wC (.int 1))) (ax aK (aj 1) (wC (.int 1))))) aI))))
theorem DQ:UR 2 0 uT yG:=by
 rintro ls so - ⟨p,q,rfl,hp,hq,h⟩;unfold yG;walk_at "w";refine⟨hp.bn x_,hq.bn x_,hp.bd x_,hq.bd x_,_,_,rfl,nX p q,?_,_,ai (ai aO),?_⟩
 . rw[kQ];exact UB (bj hp.2 hq.2) (Nat.pow_le_pow_right x_ x_)
 . rw[Ha];exact h
def dJ:FS:=λls so=>∃p q:Rat,ls=[.d (QS p),.d (QS q)]/\RB 400000 p/\RB 400000 q/\so (.d (.bl (decide (p<q)))) ls
def yH:W Fl:=(bN (ax vi (ax bF (ax aK (aj 0) (wC (.int 0))) (ax aK (aj 1) (wC (.int 1)))) (ax bF (ax aK (aj 1) (wC (.int 0))) (ax aK (aj 0) (wC (.int 1))))))
theorem DS:UR 2 0 dJ yH:=by rintro ls so - ⟨p,q,rfl,hp,hq,h⟩;unfold yH;walk_at "w";refine⟨hp.bn x_,hq.bd x_,hq.bn x_,hp.bd x_,_,ai (ai aO),?_⟩;rw[Mg];exact h
def oh:FS:=λls so=>∃p q:Rat,ls=[.d (QS p),.d (QS q)]/\RB 400000 p/\RB 400000 q/\so (.d (QS (if p<q then q else p))) ls
def qN:W Fl:=(bN (BA (aW (aD dJ (aq (aj 0) (aq (aj 1) aI)))) (aj 1) (aj 0)))
theorem yI:UR 2 0 oh qN:=by
 rintro ls so - ⟨p,q,rfl,hp,hq,h⟩;unfold qN;walk_at "w";refine⟨p,q,rfl,hp,hq,?_⟩;walk_at "w";split
 . rename_i hl;rw[if_pos hl]at h;exact⟨_,ai (ai aO),h⟩
 . rename_i hl;rw[if_neg hl]at h;exact⟨_,ai (ai aO),h⟩
def qO:FS:=λls so=>∃p q:Rat,ls=[.d (QS p),.d (QS q)]/\RB 400000 p/\RB 400000 q/\so (.d (QS (if q<p then q else p))) ls
def uU:W Fl:=(bN (BA (aW (aD dJ (aq (aj 1) (aq (aj 0) aI)))) (aj 1) (aj 0)))
theorem Bn:UR 2 0 qO uU:=by
 rintro ls so - ⟨p,q,rfl,hp,hq,h⟩;unfold uU;walk_at "w";refine⟨q,p,rfl,hq,hp,?_⟩;walk_at "w";split
 . rename_i hl;rw[if_pos hl]at h;exact⟨_,ai (ai aO),h⟩
 . rename_i hl;rw[if_neg hl]at h;exact⟨_,ai (ai aO),h⟩
def qP:FS:=λls so=>∃(qs:List Rat)(x:D),ls=[.d x]/\(x=.lst (qs.map QS)∨x=.tup (qs.map QS))/\qs.length<=63/\(∀q∈qs,RB 4400 q)/\Mo qs/\so (.d (QS (gG qs))) ls
def iy:W Fl:=(bD 1 (aD i3 (aq (aj 1) (aq (aj 2) aI))))
def uV:W Fl:=(a5 (bD 1 (wC (.tup [(.int 0),(.int 1)])))
  (a5 (p6 (ub (aj 0)) (bu 2) iy)
  (bN (p5 1))))
theorem uW{x:D}{so:Fl->Ev->Prop}:∀(qs:List Rat)(acc:Rat)(n:Nat)(r:L),qs.length<=63->n+4401*qs.length<=400000->RB n acc->(∀q∈qs,RB 4400 q)->acc.den*Mh qs<2^9000->(∀r',so .nx [.d x,.d (QS (qs.foldl (·+·) acc)),r']) ->
  d6 (bu 2) iy (qs.map QS) [.d x,.d (QS acc),r] so
 |[],acc,n,r,_,_,_,_,_,h=>h r
 | q::qs,acc,n,r,hl,hn,ha,hq,hd,h=>by have hd':acc.den*(q.den*Mh qs)<2^9000:=hd;have hq1:=hq q Uz;have hlc:(q::qs).length=qs.length+1:=rfl;have dpos:0<Mh qs:=zY qs;have hz:acc.den*q.den<2^9000:=UI (by rw[<- Nat.mul_assoc];exact Nat.le_mul_of_pos_right _ dpos) hd';show d6 _ _ (QS q::qs.map QS) _ _;unfold d6 iy;walk_at "w";refine⟨acc,q,rfl,ha.mono xL,hq1.mono x_,hz,?_⟩;refine uW qs (acc+q) (n+4400+1) _ xL xL (ha.add hq1) (λz hz=>hq z (tu _ hz)) (UI ?_ hd') h;rw[<- Nat.mul_assoc];exact Nat.mul_le_mul_right _ (AX acc q)
theorem qQ{x:D}{E:Nat}(e0:0<E)(e1:E<2^4400){so:Fl->Ev->Prop}:∀(qs:List Rat)(acc:Rat)(n:Nat)(r:L),qs.length<=63->n+4401*qs.length<=400000->RB n acc->(∀q∈qs,RB 4400 q)->acc.den∣E->(∀q∈qs,q.den∣E)->(∀r',so .nx [.d x,.d (QS (qs.foldl (·+·) acc)),r']) ->
  d6 (bu 2) iy (qs.map QS) [.d x,.d (QS acc),r] so
 |[],acc,n,r,_,_,_,_,_,_,h=>h r
 | q::qs,acc,n,r,hl,hn,ha,hq,hd,hds,h=>by have hq1:=hq q Uz;have hq2:=hds q Uz;have hlc:(q::qs).length=qs.length+1:=rfl;have hz:acc.den*q.den<2^9000:=UB (bj (m:=4400) (n:=4400) (UI (Nat.le_of_dvd e0 hd) e1) (UI (Nat.le_of_dvd e0 hq2) e1)) (Nat.pow_le_pow_right x_ x_);show d6 _ _ (QS q::qs.map QS) _ _;unfold d6 iy;walk_at "w";refine⟨acc,q,rfl,ha.mono xL,hq1.mono x_,hz,?_⟩;exact qQ e0 e1 qs (acc+q) (n+4400+1) _ xL xL (ha.add hq1) (λz hz=>hq z (tu _ hz)) (Dm e0 hd hq2) (λz hz=>hds z (tu _ hz)) h
theorem Bo:UR 1 2 qP uV:=by
 rintro ls so - ⟨qs,x,rfl,hx,hl,hq,hd,h⟩;unfold uV;have PR:∀r',aR [.d x] so (.rt (.d (QS (gG qs)))) [.d x,.d (QS (gG qs)),r']:=λr'=>⟨_,ai aO,h⟩;rcases hx with rfl|rfl
 .
  walk_at "w";rcases hd with hd|⟨E,e0,e1,hd⟩
  . exact uW qs 0 1 .un hl xL ⟨x_,x_⟩ hq (by show 1*_<_;rw[Nat.one_mul];exact hd) λr'=>PR r'
  . exact qQ e0 e1 qs 0 1 .un hl xL ⟨x_,x_⟩ hq (Nat.one_dvd _) hd λr'=>PR r'
 .
  walk_at "w";rcases hd with hd|⟨E,e0,e1,hd⟩
  . exact uW qs 0 1 .un hl xL ⟨x_,x_⟩ hq (by show 1*_<_;rw[Nat.one_mul];exact hd) λr'=>PR r'
  . exact qQ e0 e1 qs 0 1 .un hl xL ⟨x_,x_⟩ hq (Nat.one_dvd _) hd λr'=>PR r'
noncomputable def Ua(a:Ru):Nat:=max a.one a.other
def cx:FS:=λls so=>∃(R:aL)(k:Nat)(hk:k<R.asks.length),ls=[.d (aP R),.d (.int k)]/\so (.d (.int (RX R.asks[k]))) ls
def hU:W Fl:=(bN (bp AR (aq (ax aK (ax aK (ax aK (aj 0) (wC (.int 1))) (aj 1)) (wC (.int 1))) (aq (ax aK (ax aK (ax aK (aj 0) (wC (.int 1))) (aj 1)) (wC (.int 2))) aI))))
theorem pE:UR 2 0 cx hU:=by
 rintro ls so - ⟨R,k,hk,rfl,h⟩;unfold hU;walk_at "w";refine⟨_,ba hk,?_⟩;walk_at "w";refine⟨_,ba hk,?_⟩;walk_at "w"
 have e:(if((R.asks[k].other:Nat):Int)<(R.asks[k].one:Int)then((R.asks[k].other:Nat):Int)else(R.asks[k].one:Int))=((RX R.asks[k]:Nat):Int):=by unfold RX;split<;>omega
 first|rw[e] | skip
 exact⟨_,ai (ai aO),h⟩
def cU:FS:=λls so=>∃(R:aL)(k:Nat)(hk:k<R.asks.length),ls=[.d (aP R),.d (.int k)]/\so (.d (.int ((max R.asks[k].one R.asks[k].other:Nat):Int))) ls
def gp:W Fl:=(bN (bp Cg (aq (ax aK (ax aK (ax aK (aj 0) (wC (.int 1))) (aj 1)) (wC (.int 1))) (aq (ax aK (ax aK (ax aK (aj 0) (wC (.int 1))) (aj 1)) (wC (.int 2))) aI))))
theorem oj:UR 2 0 cU gp:=by
 rintro ls so - ⟨R,k,hk,rfl,h⟩;unfold gp;walk_at "w";refine⟨_,ba hk,?_⟩;walk_at "w";refine⟨_,ba hk,?_⟩;walk_at "w"
 have e:(if((R.asks[k].other:Nat):Int) > (R.asks[k].one:Int)then((R.asks[k].other:Nat):Int)else(R.asks[k].one:Int))=((max R.asks[k].one R.asks[k].other:Nat):Int):=by split<;>omega
 first|rw[e] | skip
 exact⟨_,ai (ai aO),h⟩
noncomputable def wY(a b:Ru):Bool:=decide (min a.one a.other<min b.one b.other/\min b.one b.other<max a.one a.other/\max a.one a.other<max b.one b.other) ||decide (min b.one b.other<min a.one a.other/\min a.one a.other<max b.one b.other/\max b.one b.other<max a.one a.other)
def mD:FS:=λls so=>∃(R:aL)(k l:Nat)(hk:k<R.asks.length)(hl:l<R.asks.length),ls=[.d (aP R),.d (.int k),.d (.int l)]/\so (.d (.bl (wY R.asks[k] R.asks[l]))) ls
def om:W Fl:=(a5 (bD 3 (bI (aD cx (aq (aj 0) (aq (aj 1) aI)))))
  (a5 (bD 4 (bI (aD cU (aq (aj 0) (aq (aj 1) aI)))))
  (a5 (bD 5 (bI (aD cx (aq (aj 0) (aq (aj 2) aI)))))
  (a5 (bD 6 (bI (aD cU (aq (aj 0) (aq (aj 2) aI)))))
  (bN (MX (uk (aj 3) [(vi,(aj 5)),(vi,(aj 4)),(vi,(aj 6))]) (uk (aj 5) [(vi,(aj 3)),(vi,(aj 6)),(vi,(aj 4))])))))))
theorem GF(a b:Ru){A B C D':Int}(hA:A=((min a.one a.other:Nat):Int))(hB:B=((min b.one b.other:Nat):Int))(hC:C=((max a.one a.other:Nat):Int))(hD:D'=((max b.one b.other:Nat):Int)):wY a b=(decide (A<B/\B<C/\C<D') ||decide (B<A/\A<D'/\D' < C)):=by subst hA hB hC hD;unfold wY;simp only[Int.ofNat_lt]
theorem wZ:UR 3 4 mD om:=by
 rintro ls so - ⟨R,k,l,hk,hl,rfl,h⟩;unfold om;walk_at "w";refine⟨R,k,hk,rfl,?_⟩;walk_at "w";refine⟨R,k,hk,rfl,?_⟩;walk_at "w";refine⟨R,l,hl,rfl,?_⟩;walk_at "w";refine⟨R,l,hl,rfl,?_⟩;walk_at "w";have PR:∀b:Bool,b=wY R.asks[k] R.asks[l]->∀x3 x4 x5 x6:L,aR [.d (aP R),.d (.int k),.d (.int l)] so (.rt (.d (.bl b))) [.d (aP R),.d (.int k),.d (.int l),x3,x4,x5,x6]:=λb hb x3 x4 x5 x6=>by subst hb;exact⟨_,ai (ai (ai aO)),h⟩
 have ec:=GF R.asks[k] R.asks[l] (A:=(RX R.asks[k]:Int)) (B:=(RX R.asks[l]:Int)) rfl rfl rfl rfl;generalize hA:((RX R.asks[k]:Nat):Int)=A at *;generalize hB:((RX R.asks[l]:Nat):Int)=B at *;generalize hC:((max R.asks[k].one R.asks[k].other:Nat):Int)=C at *;generalize hD:((max R.asks[l].one R.asks[l].other:Nat):Int)=D' at *
 by_cases c1:A<B<;>by_cases c2:B<C<;>by_cases c3:C<D'<;>by_cases c4:B<A<;>by_cases c5:A<D'<;>by_cases c6:D' < C <;>
  simp only[c1,c2,c3,c4,c5,c6,if_true,if_false,ite_true,ite_false,decide_true,decide_false,AL,Bool.false_eq_true]<;>refine PR _ ?_ _ _ _ _<;>rw[ec]<;>simp only[c1,c2,c3,c4,c5,c6]<;>decide
noncomputable def J9(R:aL)(ps:List Rat)(k:Nat):Bool:=decide (0<ps.getD k 0) && decide (ps.getD k 0<R.sz k)
noncomputable def cM(R:aL)(ps:List Rat):List Nat:=(List.range ps.length).filter (J9 R ps)
def bR:FS:=λls so=>∃(R:aL)(ps:List Rat)(c:Nat),ls=[.d (aP R),.d (.lst (ps.map QS))]/\R.Ok/\ps.length=R.asks.length/\(∀p∈ps,RB c p)/\c<=400000/\∀a,so (.own a ((cM R ps).map λ(k:Nat)=>D.int (k:Int))) ls
def nB:W L:=(aj 0)
def mE:W Fl:=(bN (jW 2 [0] (xQ (aj 1)) (cn [0,1]) (K4 (aW (aD dJ (aq (wC (.tup [(.int 0),(.int 1)])) (aq (aj 1) aI)))) (aW (aD dJ (aq (aj 1) (aq (ax aK (ax aK (ax aK (aj 2) (wC (.int 1))) (aj 0)) (wC (.int 3))) aI))))) nB))
theorem DT{α:Type}{e1 e2:α->D}{p:α->Bool}{caps:Ev}{ti:W Bool}{te:W L}{k:List D->Ev->Prop}{g:α->D}(as:List α)(acc:List D)(l m:L)
  (h1:∀a∈as,∀Q:Bool->Ev->Prop,Q (p a) (.d (e1 a)::.d (e2 a)::caps)->ti (.d (e1 a)::.d (e2 a)::caps) Q)
  (h2:∀a∈as,p a=true->∀Q:L->Ev->Prop,Q (.d (g a)) (.d (e1 a)::.d (e2 a)::caps)->te (.d (e1 a)::.d (e2 a)::caps) Q)
  (hk:∀l m,k (acc++(as.filter p).map g) (l::m::caps)):dz (cn [0,1]) ti te (as.map λa=>D.tup [e1 a,e2 a]) (l::m::caps) acc k:=by
 induction as generalizing acc l m with
 |nil=>simpa[dz]using hk l m
 | cons a as ih =>
  rw[List.map_cons];unfold dz;rw[wk];refine h1 a Uz _ ?_
  cases hp:p a with
  | false =>
   rw[if_neg (by decide)];refine ih acc _ _ (λb hb=>h1 b (tu _ hb)) (λb hb=>h2 b (tu _ hb)) λl m=>?_;have:=hk l m;rw[List.filter_cons,if_neg (by rw[hp];decide)]at this;exact this
  | true =>
   rw[if_pos rfl];refine h2 a Uz hp _ ?_;refine ih _ _ _ (λb hb=>h1 b (tu _ hb)) (λb hb=>h2 b (tu _ hb)) λl m=>?_;have:=hk l m;rw[List.filter_cons,if_pos hp,List.map_cons]at this;rw[List.append_assoc];exact this
theorem uX:UR 2 0 bR mE:=by
 rintro ls so - ⟨R,ps,c,rfl,hR,hl,hb,hc,h⟩;unfold mE;walk_at "w";rw[Gg];refine⟨by rw[UC,List.length_range,hl];exact Nat.le_trans hR.few x_,?_⟩;refine DT (p:=J9 R ps) (g:=λ(k:Nat)=>D.int (k:Int)) _ _ _ _ (λk hk Q hq=>?_) (λk hk hp Q hq=>?_) λl m=>?_
 .
  have hk':k<ps.length:=by simpa using hk
  have hb':=hb _ (UD hk');rw[<- uA hk']at hb';walk_at "w";refine⟨0,_,rfl,RB.zero.mono x_,hb'.mono hc,?_⟩;walk_at "w";unfold J9 at hq;by_cases h0:0<ps.getD k 0
  . rw[if_pos h0];refine⟨_,ba xL,?_⟩;walk_at "w";refine⟨_,_,rfl,hb'.mono hc,(hR.rb (UD _)).mono x_,?_⟩;walk_at "w";rw[Gh xL]at hq;simpa only[h0,decide_true,Bool.true_and]using hq
  . rw[if_neg h0];simpa only[h0,decide_false,Bool.false_and]using hq
 . unfold nB;walk_at "w";exact hq
 . intro a;walk_at "w";exact⟨_,ai (ai aO),h a⟩
def aS:FS:=λls so=>∃(R:aL)(ks:List Nat),ls=[.d (aP R),.d (.lst (ks.map λ(k:Nat)=>D.int (k:Int)))]/\ks.length<=20/\(∀k∈ks,k<R.asks.length)/\so (.d (yr (RS (RR R) ks))) ls
def bh:W Fl:=(QC (vI (aW (aD mD (aq (aj 0) (aq (aj 3) (aq (aj 4) aI)))))) (bN (nJ (aq (aj 3) (aq (aj 4) aI)))) cm)
def dZ:W Fl:=(p6 (ub (Nu (aj 1) (some (ax fP (aj 2) (wC (.int 1)))) none)) (bu 4) bh)
def cN:W Fl:=(a5 (p6 (xQ (aj 1)) (cn [2,3]) dZ)
  (bN (wC .non)))
theorem w4{R:aL}{X:D}{x2:L}{k:Nat}(hk:k<R.asks.length){Q:Fl->Ev->Prop}:∀(ls:List Nat)(x4:L),(∀l∈ls,l<R.asks.length) ->
  (∀l,ls.find? (λl=>!RR R k l)=some l->∀Z,xw Z [.d (aP R),.d X] [.d (aP R),.d X]->Q (.rt (.d (.tup [.int (k:Int),.int (l:Int)]))) Z)->(ls.find? (λl=>!RR R k l)=none->∀x4,Q .nx [.d (aP R),.d X,x2,.d (.int (k:Int)),x4]) ->
  d6 (bu 4) bh (ls.map λ(k:Nat)=>D.int (k:Int)) [.d (aP R),.d X,x2,.d (.int (k:Int)),x4] Q
 |[],x4,_,_,h2=>h2 rfl x4
 | l::ls,x4,hl,h1,h2=>by
  have hl0:=hl l Uz;show d6 (bu 4) bh (D.int (l:Int)::ls.map λ(k:Nat)=>D.int (k:Int)) _ Q;unfold d6;show bh [.d (aP R),.d X,x2,.d (.int (k:Int)),.d (.int (l:Int))] _;unfold bh;walk_at "w";refine⟨R,k,l,hk,hl0,rfl,?_⟩;have ec:wY R.asks[k] R.asks[l]=RR R k l:=by unfold RR;rw[bH hk,bH hl0];rfl
  walk_at "w";rw[ec]
  cases e:RR R k l with
  | false =>
   walk_at "w";exact⟨x_,h1 l (by rw[List.find?_cons,e];rfl) _ (ai (ai aO))⟩
  | true =>
   walk_at "w";exact w4 hk ls _ (λm hm=>hl m (tu _ hm)) (λm hm=>h1 m (by rw[List.find?_cons,e];exact hm)) (λhm=>h2 (by rw[List.find?_cons,e];exact hm))
theorem GG{cr:Nat->Nat->Bool}{ks:List Nat}{j:Nat}(h:j<ks.length):RS cr (ks.drop j)=match (ks.drop (j+1)).find? (λl=>!cr ks[j] l)with
  |some l=>some (ks[j],l)
  |none=>RS cr (ks.drop (j+1)):=by
 rw[List.drop_eq_getElem_cons h];rfl
theorem jF:UR 2 3 aS cN:=by
 rintro ls so - ⟨R,ks,rfl,h20,hks,h⟩;unfold cN;walk_at "w";refine dE _ (λj Z=>(∃x2 x3 x4,Z=[.d (aP R),.d (.lst (ks.map λ(k:Nat)=>D.int (k:Int))),x2,x3,x4])/\RS (RR R) (ks.drop j)=RS (RR R) ks) _ ⟨⟨_,_,_,rfl⟩,rfl⟩ ?_ ?_
 .
  rintro j x Z hj ⟨⟨x2,x3,x4,rfl⟩,hf⟩ Q h1 h2 h3 h4;have hj':j<ks.length:=by have:=(UA.mp hj).1;simpa[fm]using this
  have ex:x=.tup [.int (j:Int),.int (ks[j]:Int)]:=by
   have:(fm (ks.map λ(k:Nat)=>D.int (k:Int)))[j]?=some (.tup [.int (j:Int),.int (ks[j]:Int)]):=by simp[fm,hj']
   rw[this]at hj;exact(Option.some.inj hj).symm
  subst ex;unfold dZ;walk_at "w";rw[show(j:Int)+1=((j+1:Nat):Int) by omega,FQ,F0 (show j+1<=ks.length by omega)];rw[GG hj']at hf;refine λ_=>w4 (hks _ (UD hj')) _ _ (λl hl=>hks l (List.mem_of_mem_drop hl)) (λl e Z b=>h4 _ _ ?_) λe x4=>h1 _ ⟨⟨_,_,_,rfl⟩,?_⟩
  . rw[e]at hf;rw[<- hf]at h;exact⟨_,b,h⟩
  . rw[e]at hf;exact hf
 .
  rintro Z ⟨⟨x2,x3,x4,rfl⟩,hf⟩;have e:ks.drop (fm (ks.map λ(k:Nat)=>D.int (k:Int))).length=[]:=by simp[fm]
  rw[e]at hf;rw[<- hf]at h;exact⟨_,ai (ai aO),h⟩
def kf:FS:=λls so=>∃d:D,ls=[.d d]/\so (.d (.bl (vk d))) ls
def uY:W Fl:=(bN (k9 (QB (pk "str") (aj 0)) (ax (AW false) (aj 0) (nJ (aq (wC (.str "on")) (aq (wC (.str "back")) aI))))))
theorem Bp:UR 1 0 kf uY:=by
 rintro ls so - ⟨d,rfl,h⟩;unfold uY
 cases d with
 | str z =>
  walk_at "w";rw[JU];exact⟨x_,rfl,rfl,_,ai aO,h⟩
 | _ =>
  walk_at "w";exact⟨_,ai aO,h⟩
def kg:FS:=λls so=>∃w:Bool,ls=[.d (.str (dA w))]/\so (.d (.str (dA !w))) ls
def mF:W Fl:=(bN (BA (aW (ax sU (aj 0) (wC (.str "on")))) (wC (.str "back")) (wC (.str "on"))))
theorem uZ:UR 1 0 kg mF:=by
 rintro ls so - ⟨w,rfl,h⟩;unfold mF;walk_at "w";cases w
 . exact⟨_,ai aO,h⟩
 . exact⟨_,ai aO,h⟩
def k6:FS:=λls so=>∃(R:aL)(k:Nat)(w:Bool)(hk:k<R.asks.length),ls=[.d (aP R),.d (.int k),.d (.str (dA w))]/\R.Ok/\∀c,so (.own c ((BD R.n R.asks[k] w).map λ(t:Nat)=>D.int (t:Int))) ls
def qR:W L:=(ax jS (ax ph (ax ph (aj 1) (wC (.int 1))) (aj 0)) (aj 2))
def qS:W L:=(ax jS (ax fP (aj 1) (aj 0)) (aj 2))
def qT:W Fl:=(bN (jW 1 [4,3] (r9 (ax jS (ax ph (aj 4) (aj 5)) (aj 3))) (bu 0) g6 qR))
def qU:W Fl:=(a5 (QC (aW (ax sU (aj 2) (wC (.str "on")))) (bN (jW 1 [4,3] (r9 (ax jS (ax ph (aj 5) (aj 4)) (aj 3))) (bu 0) g6 qS)) cm)
  qT)
def qV:W Fl:=(a5 (bD 5 (ax aK (ax aK (ax aK (aj 0) (wC (.int 1))) (aj 1)) (wC (.int 2))))
  qU)
def qW:W Fl:=(a5 (bD 4 (ax aK (ax aK (ax aK (aj 0) (wC (.int 1))) (aj 1)) (wC (.int 1))))
  qV)
def qX:W Fl:=(a5 (bD 3 (bI (bp fh (aq (ax aK (aj 0) (wC (.int 0))) aI))))
  qW)
theorem yJ:UR 3 3 k6 qX:=by
 rintro ls so - ⟨R,k,w,hk,rfl,hR,h⟩;have ha:=hR.ask _ (UD hk);have h1:=ha.one;have h2:=ha.other;have hlo:=hR.lo;have hhi:=hR.hi;unfold qX;walk_at "w";unfold qW;walk_at "w";refine⟨_,ba hk,?_⟩;walk_at "w";unfold qV;walk_at "w";refine⟨_,ba hk,?_⟩;walk_at "w";unfold qU;walk_at "w";have f1:=uw h1 h2;have f2:=uw h2 h1;have b1:=Nat.mod_lt (R.asks[k].other+R.n-R.asks[k].one) (y:=R.n) xL;have b2:=Nat.mod_lt (R.asks[k].one+R.n-R.asks[k].other) (y:=R.n) xL;split
 .
  rename_i hw;subst hw;rw[f1];refine⟨xL,⟨xL,xL⟩,?_⟩;rw[m9,Int.toNat_natCast];refine⟨by rw[UC,List.length_range];exact Nat.le_trans (show _<=12 by omega) x_,?_⟩;refine gO (h:=λs=>D.int (((R.asks[k].one+s) % R.n:Nat):Int)) _ _ _ (λs hs Q q=>?_) λl'=>?_
  . unfold qS;walk_at "w";refine⟨xL,?_⟩;rw[Gd];exact q
  . walk_at "w";intro c;refine⟨_,ai (ai (ai aO)),?_⟩;have:=h c;simp only[BD,Rw,if_true,List.map_map]at this;exact this
 .
  rename_i hw;have hw:w=false:=by simpa using hw
  subst hw;unfold qT;walk_at "w";rw[f2];refine⟨xL,⟨xL,xL⟩,?_⟩;rw[m9,Int.toNat_natCast];refine⟨by rw[UC,List.length_range];exact Nat.le_trans (show _<=12 by omega) x_,?_⟩;refine gO (h:=λs=>D.int (((R.asks[k].one+R.n-1-s) % R.n:Nat):Int)) _ _ _ (λs hs Q q=>?_) λl'=>?_
  . unfold qR;walk_at "w";refine⟨xL,?_⟩;have hs:=List.mem_range.mp hs;rw[Ge xL xL];exact q
  . walk_at "w";intro c;refine⟨_,ai (ai (ai aO)),?_⟩;have:=h c;simp only[BD,yl,Bool.false_eq_true,if_false,List.map_map]at this;exact this
def oo:FS:=λls so=>∃(R:aL)(k:Nat)(w:Bool)(t:Nat)(hk:k<R.asks.length),ls=[.d (aP R),.d (.int k),.d (.str (dA w)),.d (.int t)]/\R.Ok/\t<R.n/\so (.d (.bl (tE R.n R.asks[k] t == w))) ls
def qY:W Fl:=(bN (ax sU (aj 7) (ax sU (aj 2) (wC (.str "on")))))
def q5:W Fl:=(a5 (bD 7 (ax vi (ax jS (ax ph (aj 3) (aj 5)) (aj 4)) (ax jS (ax ph (aj 6) (aj 5)) (aj 4))))
  qY)
def q8:W Fl:=(a5 (bD 6 (ax aK (ax aK (ax aK (aj 0) (wC (.int 1))) (aj 1)) (wC (.int 2))))
  q5)
def rf:W Fl:=(a5 (bD 5 (ax aK (ax aK (ax aK (aj 0) (wC (.int 1))) (aj 1)) (wC (.int 1))))
  q8)
def rg:W Fl:=(a5 (bD 4 (bI (bp fh (aq (ax aK (aj 0) (wC (.int 0))) aI))))
  rf)
theorem yK:UR 4 4 oo rg:=by
 rintro ls so - ⟨R,k,w,t,hk,rfl,hR,ht,h⟩;have ha:=hR.ask _ (UD hk);have h1:=ha.one;have h2:=ha.other;unfold rg;walk_at "w";unfold rf;walk_at "w";refine⟨_,ba hk,?_⟩;walk_at "w";unfold q8;walk_at "w";refine⟨_,ba hk,?_⟩;walk_at "w";unfold q5;walk_at "w";rw[uw h1 h2,uw h1 ht];refine⟨xL,xL,?_⟩;unfold qY;walk_at "w";refine⟨_,ai (ai (ai (ai aO))),?_⟩
 have e:decide (decide ((((t+R.n-R.asks[k].one) % R.n:Nat):Int)<(((R.asks[k].other+R.n-R.asks[k].one) % R.n:Nat):Int))=decide (w=true))=(tE R.n R.asks[k] t == w):=by
  have e1:decide ((((t+R.n-R.asks[k].one) % R.n:Nat):Int)<(((R.asks[k].other+R.n-R.asks[k].one) % R.n:Nat):Int))=tE R.n R.asks[k] t:=by unfold tE Rx;rw[decide_eq_decide];omega
  rw[e1];cases tE R.n R.asks[k] t<;>cases w<;>rfl
 rw[e];exact h
def ki:FS:=λls so=>∃(R:aL)(ps:List Rat)(k t:Nat)(hk:k<R.asks.length)(hp:k<ps.length),ls=[.d (aP R),.d (.lst (ps.map QS)),.d (.int k),.d (.int t)]/\R.Ok/\RB 4400 ps[k]/\t<R.n/\so (.d (QS (pS R.n R.asks[k] ps[k] t))) ls
def mG:W Fl:=(a5 (QC (aW (aD oo (aq (aj 0) (aq (aj 2) (aq (wC (.str "on")) (aq (aj 3) aI)))))) (bN (ax aK (aj 1) (aj 2))) cm)
  (bN (aD cT (aq (ax aK (ax aK (ax aK (aj 0) (wC (.int 1))) (aj 2)) (wC (.int 3))) (aq (ax aK (aj 1) (aj 2)) aI)))))
theorem u0:UR 4 0 ki mG:=by
 rintro ls so - ⟨R,ps,k,t,hk,hp,rfl,hR,hb,ht,h⟩;have ha:=hR.ask _ (UD hk);unfold mG;walk_at "w";refine⟨R,k,true,t,hk,rfl,hR,ht,?_⟩;walk_at "w";unfold pS at h;cases e:tE R.n R.asks[k] t
 . rw[e]at h;walk_at "w";refine⟨_,ba hk,?_⟩;walk_at "w";refine⟨_,ba hp,?_⟩;exact fb ((hR.rb (UD hk)).mono x_) (hb.mono x_) ⟨_,ai (ai (ai (ai aO))),h⟩
 . rw[e]at h;walk_at "w";exact⟨_,ba hp,_,ai (ai (ai (ai aO))),h⟩
def ou:FS:=λls so=>∃(R:aL)(ps:List Rat)(t:Nat),ls=[.d (aP R),.d (.lst (ps.map QS)),.d (.int t)]/\R.Ok/\ps.length=R.asks.length/\LB R ps/\t<R.n/\so (.d (QS (iV R.n R.asks ps t))) ls
def rh:W L:=(aD ki (aq (aj 1) (aq (aj 2) (aq (aj 0) (aq (aj 3) aI)))))
def rj:W Fl:=(bN (aD qP (aq (bI (jW 1 [0,1,2] (r9 (bp fh (aq (ax aK (aj 0) (wC (.int 1))) aI))) (bu 0) g6 rh)) aI)))
theorem yL:UR 3 0 ou rj:=by
 rintro ls so - ⟨R,ps,t,rfl,hR,hl,hb,ht,h⟩;have hfew:=hR.few;unfold rj;walk_at "w";refine⟨⟨xL,xL⟩,?_⟩;rw[Int.toNat_natCast,m9];refine⟨by rw[UC,List.length_range];exact Nat.le_trans hfew x_,?_⟩;refine gO (h:=λk=>QS (((R.asks.zip ps).map λx=>pS R.n x.1 x.2 t).getD k 0)) _ _ _ (λk hk Q q=>?_) λl' a=>?_
 .
  have hk:=List.mem_range.mp hk;unfold rh;walk_at "w";refine⟨R,ps,k,t,hk,xL,rfl,hR,(hb.p _ (UD _)).mono x_,ht,?_⟩;walk_at "w";have e:(((R.asks.zip ps).map λx=>pS R.n x.1 x.2 t).getD k 0)=pS R.n R.asks[k] (ps[k]'(by omega)) t:=by rw[UE,List.getElem?_map,Ux (by rw[List.length_zip];omega),List.getElem_zip];rfl
  rw[e]at q;exact q
 .
  walk_at "w";have e:(List.range R.asks.length).map (λk=>QS (((R.asks.zip ps).map λx=>pS R.n x.1 x.2 t).getD k 0))=((R.asks.zip ps).map λx=>pS R.n x.1 x.2 t).map QS:=by refine Dl _ (by rw[UC,List.length_zip];omega) _ λk hk=>?_;rw[UE,Ux hk];rfl
  rw[e];refine⟨_,_,rfl,.inl rfl,by rw[UC,List.length_zip];omega,λq hq=>?_,hb.sm t,⟨_,ai (ai (ai aO)),h⟩⟩;obtain⟨x,hx,rfl⟩:=List.mem_map.mp hq;obtain⟨j,hj,e⟩:=List.mem_iff_getElem.mp hx;have hj':j<R.asks.length:=by rw[List.length_zip]at hj;omega
  rw[List.getElem_zip]at e;rw[<- e];exact(hb.st j hj' xL t).mono x_
def i4:FS:=λls so=>∃(R:aL)(ps:List Rat),ls=[.d (aP R),.d (.lst (ps.map QS))]/\R.Ok/\ps.length=R.asks.length/\LB R ps/\∀a,so (.own a (Rv R.n (iV R.n R.asks ps))) ls
def oZ:W L:=(aD ou (aq (aj 1) (aq (aj 2) (aq (aj 0) aI))))
def oy:W Fl:=(bN (jW 1 [0,1] (r9 (bp fh (aq (ax aK (aj 0) (wC (.int 0))) aI))) (bu 0) g6 oZ))
theorem w5:UR 2 0 i4 oy:=by
 rintro ls so - ⟨R,ps,rfl,hR,hl,hb,h⟩;have hhi:=hR.hi;unfold oy;walk_at "w";refine⟨⟨xL,xL⟩,?_⟩;rw[Int.toNat_natCast,m9];refine⟨by rw[UC,List.length_range];exact Nat.le_trans hhi x_,?_⟩;refine gO (h:=λt=>QS (iV R.n R.asks ps t)) _ _ _ (λt ht Q q=>?_) λl' a=>?_
 . unfold oZ;walk_at "w";refine⟨R,ps,t,rfl,hR,hl,hb,List.mem_range.mp ht,?_⟩;walk_at "w";exact q
 . walk_at "w";exact⟨_,ai (ai aO),h a⟩
def i5:FS:=λls so=>∃(R:aL)(d:D),ls=[.d (aP R),.d d]/\(∀xs,d=.lst xs->xs.length<=99)/\so (.d (.bl (Hq R.asks.length d))) ls
def o4:W L:=(aD kf (aq (aj 0) aI))
def oz:W Fl:=(a5 (QC (Qz (vI (aW (QB (pk "list") (aj 1)))) (aW (ax xK (bp fh (aq (aj 1) aI)) (bp fh (aq (ax aK (aj 0) (wC (.int 1))) aI))))) (bN (wC (.bl false))) cm)
  (bN (bp Lv (aq (bI (jW 1 [] (ub (aj 1)) (bu 0) g6 o4)) aI))))
theorem MI(xs:List D):(xs.map λx=>vk x).all id=xs.all vk:=by rw[List.all_map];rfl
theorem w7:UR 2 0 i5 oz:=by
 rintro ls so - ⟨R,d,rfl,hl,h⟩;have bk:∀b:Bool,so (.d (.bl b)) [.d (aP R),.d d]->aR [.d (aP R),.d d] so (.rt (.d (.bl b))) [.d (aP R),.d d]:=λb h=>⟨_,ai (ai aO),h⟩;have h:=bk _ h;unfold oz;by_cases ht:∃xs,d=.lst xs
 .
  obtain⟨xs,rfl⟩:=ht;have hl:=hl xs rfl;unfold Hq at h;walk_at "w";by_cases e:xs.length=R.asks.length
  .
   rw[if_neg (by omega)];refine⟨Hg hl,Dv (h:=λx=>D.bl (vk x)) xs _ _ (λx hx Q hQ=>?_) λl c=>?_⟩
   . unfold o4;walk_at "w";exact⟨x,rfl,hQ⟩
   rw[List.nil_append];refine⟨xs.map λx=>vk x,by rw[List.map_map];rfl,?_⟩;walk_at "w";rw[MI];simp only[e,decide_true,Bool.true_and]at h;exact h
  . rw[if_pos (by omega)];simp only[e,decide_false,Bool.false_and]at h;exact h
 .
  have ei:mY "list" d=false:=by
   cases d<;>first
    |exact absurd ⟨_,rfl⟩ ht
    |rfl
  have ea:Hq R.asks.length d=false:=by
   cases d<;>first
    |exact absurd ⟨_,rfl⟩ ht
    |rfl
  rw[ea]at h;walk_at "w";rw[ei];exact h
noncomputable def lG(as:List Ru)(ws:List Bool):List Rat:=(as.zip ws).map λx=>if x.2 then x.1.size else 0
def oA:FS:=λls so=>∃(R:aL)(ws:List Bool),ls=[.d (aP R),.d (.lst (ws.map λw=>D.str (dA w)))]/\R.asks.length<=20/\ws.length=R.asks.length/\∀c,so (.own c ((lG R.asks ws).map QS)) ls
def rk:W L:=(BA (aW (ax sU (aj 1) (wC (.str "on")))) (ax aK (aj 0) (wC (.int 3))) (wC (.tup [(.int 0),(.int 1)])))
def rl:W Fl:=(bN (jW 2 [] (Lo (ax aK (aj 0) (wC (.int 1))) (aj 1)) (cn [0,1]) g6 rk))
theorem yM:UR 2 0 oA rl:=by
 rintro ls so - ⟨R,ws,rfl,hfew,hl,h⟩;unfold rl;walk_at "w";have e:BB (R.asks.map eM) (ws.map λw=>D.str (dA w))=(R.asks.zip ws).map λx=>D.tup [eM x.1,D.str (dA x.2)]:=by unfold BB;rw[List.zip_map,List.map_map];rfl
 rw[e];refine⟨by rw[UC,List.length_zip];exact Nat.le_trans (show min R.asks.length ws.length<=20 by omega) x_,?_⟩
 refine qq (h:=λx=>QS (if x.2 then x.1.size else 0)) _ _ _ _ (λx hx Q q=>?_) λl m a=>?_
 .
  unfold rk;walk_at "w";split
  . rename_i c;rw[if_pos c]at q;exact q
  . rename_i c;rw[if_neg c]at q;exact q
 . walk_at "w";have:=h a;unfold lG at this;rw[List.map_map]at this;exact⟨_,ai (ai aO),this⟩
def eQ:FS:=λls so=>∃(p am:Rat)(w:Bool),ls=[.d (QS p),.d (.str (dA w)),.d (QS am)]/\RB 4400 p/\RB 4400 am/\so (.d (QS (RM p w am))) ls
def i6:W Fl:=(bN (BA (aW (ax sU (aj 1) (wC (.str "on")))) (aD i3 (aq (aj 0) (aq (aj 2) aI))) (aD cT (aq (aj 0) (aq (aj 2) aI)))))
theorem rm:UR 3 0 eQ i6:=by
 rintro ls so - ⟨p,am,w,rfl,hp,ha,h⟩;unfold i6;unfold RM at h;walk_at "w"
 cases w with
 | true =>
  walk_at "w";exact GE hp ha ⟨_,ai (ai (ai aO)),h⟩
 | false =>
  walk_at "w";exact fb hp ha ⟨_,ai (ai (ai aO)),h⟩
def gR:FS:=λls so=>∃(ps:List Rat)(s:g8),ls=[.d (.lst (ps.map QS)),.d (RJ s)]/\ps.length<=20/\s.k<ps.length/\s.l<ps.length/\s.k≠s.l/\(∀p∈ps,RB 4000 p)/\RB 4000 s.am/\∀a,so (.own a ((RN ps s).map QS)) ls
def mH:W Fl:=(a5 (bD 2 (bp vL (aq (aj 0) aI)))
  (a5 (ue 2 (ax aK (aj 1) (wC (.int 0))) (aD eQ (aq (dD 2 (vN 2 (ax aK (aj 1) (wC (.int 0)))) (ax aK (aj 2) (ax aK (aj 1) (wC (.int 0))))) (aq (ax aK (aj 1) (wC (.int 1))) (aq (ax aK (aj 1) (wC (.int 4))) aI)))))
  (a5 (ue 2 (ax aK (aj 1) (wC (.int 2))) (aD eQ (aq (dD 2 (vN 2 (ax aK (aj 1) (wC (.int 2)))) (ax aK (aj 2) (ax aK (aj 1) (wC (.int 2))))) (aq (ax aK (aj 1) (wC (.int 3))) (aq (ax aK (aj 1) (wC (.int 4))) aI)))))
  (bN (p5 2)))))
theorem DU{n k:Nat}(h:k<n):Qe n (k:Int)=some k:=by unfold Qe;rw[if_pos (by omega),if_pos (by omega)];simp
theorem u3:UR 2 1 gR mH:=by
 rintro ls so - ⟨ps,s,rfl,h20,hk,hl,hkl,hp,ha,h⟩;unfold mH;simp only[RJ];walk_at "w";have r1:=hp _ (UD hk);have r2:=hp _ (UD hl);refine λa=>⟨_,ba hk,ps[s.k],s.am,s.kw,rfl,r1.mono x_,ha.mono x_,?_⟩;walk_at "w";have hl':s.l<(ps.set s.k (RM ps[s.k] s.kw s.am)).length:=by rw[List.length_set];exact hl
 have e1:(ps.set s.k (RM ps[s.k] s.kw s.am))[s.l]=ps[s.l]:=by rw[List.getElem_set_ne hkl]
 refine⟨s.k,DU hk,?_⟩;rw[<- List.map_set];refine⟨_,ba hl',_,s.am,s.lw,rfl,by rw[e1];exact r2.mono x_,ha.mono x_,?_⟩;walk_at "w";refine⟨s.l,DU (by simpa using hl),_,ai (ai aO),?_⟩;have h:=h a;unfold RN at h;rw[bC hk,bC hl',List.map_set]at h;exact h
def dM:FS:=λls so=>∃(R:aL)(k l:Nat)(kw lw:Bool)(hk:k<R.asks.length)(hl:l<R.asks.length),ls=[.d (aP R),.d (.int (k:Int)),.d (.str (dA kw)),.d (.int (l:Int)),.d (.str (dA lw))]/\R.Ok/\so (.d (.bl (lg R.n R.asks[k] kw R.asks[l] lw))) ls
def ju:W L:=(ax (AW false) (aj 0) (aj 1))
def hX:W Fl:=(a5 (bD 5 (bI (aD k6 (aq (aj 0) (aq (aj 3) (aq (aj 4) aI))))))
  (bN (Ca (aW (bp Lw (aq (bI (jW 1 [5] (ub (aD k6 (aq (aj 0) (aq (aj 1) (aq (aj 2) aI))))) (bu 0) g6 ju)) aI))))))
theorem pF:UR 5 1 dM hX:=by
 rintro ls so - ⟨R,k,l,kw,lw,hk,hl,rfl,hR,h⟩;unfold hX;walk_at "w";refine⟨R,l,lw,hl,rfl,hR,λc=>?_⟩;walk_at "w";refine⟨R,k,kw,hk,rfl,hR,λc2=>?_⟩;walk_at "w";have p4:=JJ (hR.ask _ (UD hk)) kw;have hhi:=hR.hi;refine⟨Hg xL,gO (h:=λt=>.bl (decide (t∈BD R.n R.asks[l] lw))) (BD R.n R.asks[k] kw) [] _ (λt hm Q hq=>?_) λl' a0=>?_⟩
 . unfold ju;walk_at "w";refine⟨rfl,by simp[pA],?_⟩;rw[uy];exact hq
 . rw[List.nil_append];refine⟨(BD R.n R.asks[k] kw).map λt=>decide (t∈BD R.n R.asks[l] lw),by rw[List.map_map];rfl,?_⟩;walk_at "w";refine⟨_,ai (ai (ai (ai (ai aO)))),?_⟩;unfold lg at h;simpa[List.any_map]using h
def cO:FS:=λls so=>∃(d:D)(n:Nat),ls=[.d d,.d (.int (n:Int))]/\so (.d (.bl (sf n d))) ls
def cy:W Fl:=(bN (k9 (aD kf (aq (ax aK (aj 0) (wC (.int 1))) aI)) (k9 (aD kf (aq (ax aK (aj 0) (wC (.int 3))) aI)) (aD mC (aq (ax aK (aj 0) (wC (.int 4))) aI)))))
def cz:W Fl:=(a5 (QC (Qz (vI (aW (aD cf (aq (ax aK (aj 0) (wC (.int 0))) (aq (aj 1) aI))))) (vI (aW (aD cf (aq (ax aK (aj 0) (wC (.int 2))) (aq (aj 1) aI)))))) (bN (wC (.bl false))) cm)
  cy)
def c7:W Fl:=(a5 (QC (Qz (vI (aW (QB (pk "tuple") (aj 0)))) (aW (ax xK (bp fh (aq (aj 0) aI)) (wC (.int 5))))) (bN (wC (.bl false))) cm)
  cz)
theorem MJ{a b c d e:D}{z:L}{so:Fl->Ev->Prop}(h:so (.rt (.d (.bl (vk b && (vk d && yp e))))) [.d (.tup [a,b,c,d,e]),z]):cy [.d (.tup [a,b,c,d,e]),z] so:=by
 unfold cy;walk_at "w";refine⟨_,rfl,?_⟩
 cases e3:vk b with
 | false =>
  rw[e3]at h;exact h
 | true =>
  rw[e3,Bool.true_and]at h;refine⟨_,rfl,?_⟩
  cases e4:vk d with
  | false =>
   rw[e4]at h;exact h
  | true =>
   rw[e4,Bool.true_and]at h;exact⟨_,rfl,h⟩
theorem MK{a b c d e:D}{n:Nat}{so:Fl->Ev->Prop}(h:so (.rt (.d (.bl (qz a n && (qz c n && (vk b && (vk d && yp e))))))) [.d (.tup [a,b,c,d,e]),.d (.int (n:Int))]):cz [.d (.tup [a,b,c,d,e]),.d (.int (n:Int))] so:=by
 unfold cz;walk_at "w";refine⟨_,_,rfl,?_⟩
 cases e1:qz a n with
 | false =>
  rw[e1]at h;exact h
 | true =>
  rw[e1,Bool.true_and]at h;refine⟨_,_,rfl,?_⟩
  cases e2:qz c n with
  | false =>
   rw[e2]at h;exact h
  | true =>
   rw[e2,Bool.true_and]at h;exact MJ h
theorem kj:UR 2 0 cO c7:=by
 rintro ls so - ⟨d,n,rfl,h⟩;have bk:∀b:Bool,so (.d (.bl b)) [.d d,.d (.int (n:Int))]->aR [.d d,.d (.int (n:Int))] so (.rt (.d (.bl b))) [.d d,.d (.int (n:Int))]:=λb h=>⟨_,ai (ai aO),h⟩;have h:=bk _ h;unfold c7;by_cases ht:∃xs,d=.tup xs
 .
  obtain⟨xs,rfl⟩:=ht;by_cases h5:xs.length=5
  . obtain⟨a,b,c,d,e,rfl⟩:=Pd h5;rw[JW]at h;walk_at "w";exact MK h
  .
   rw[Dy h5]at h;walk_at "w";have:¬((xs.length:Int)=5):=by omega
   simp only[this,not_false_eq_true,decide_true,if_true,ite_true];exact h
 .
  rw[Gx (λxs e=>ht ⟨xs,e⟩)]at h
  have ei:mY "tuple" d=false:=by
   cases d<;>first
    |exact absurd ⟨_,rfl⟩ ht
    |rfl
  walk_at "w";rw[ei];exact h
def i7:FS:=λls so=>∃(R:aL)(ps:List Rat)(k:Nat)(w:Bool),ls=[.d (aP R),.d (.lst (ps.map QS)),.d (.int (k:Int)),.d (.str (dA w))]/\d8 R ps/\k<ps.length/\so (.d (QS (RK R ps k w))) ls
def oB:W Fl:=(bN (BA (aW (ax sU (aj 3) (wC (.str "on")))) (aD cT (aq (ax aK (ax aK (ax aK (aj 0) (wC (.int 1))) (aj 2)) (wC (.int 3))) (aq (ax aK (aj 1) (aj 2)) aI))) (ax aK (aj 1) (aj 2))))
theorem w8:UR 4 0 i7 oB:=by
 rintro ls so - ⟨R,ps,k,w,rfl,hS,hk,h⟩;have hk':k<R.asks.length:=by rw[<- hS.len];exact hk
 have r1:=hS.sz_rb hk;have r2:=hS.rb hk;rw[jE hk']at r1;rw[bC hk]at r2;unfold RK at h;rw[jE hk',bC hk]at h;unfold oB;walk_at "w"
 cases w with
 | true =>
  walk_at "w";refine⟨_,ba hk',?_⟩;walk_at "w";refine⟨_,ba hk,?_⟩;walk_at "w";exact fb (r1.mono x_) (r2.mono x_) ⟨_,ai (ai (ai (ai aO))),h⟩
 | false =>
  walk_at "w";exact⟨_,ba hk,_,ai (ai (ai (ai aO))),h⟩
def gS:FS:=λls so=>∃(R:aL)(ps:List Rat)(k l:Nat)(kw lw:Bool)(more:List D),ls=[.d (aP R),.d (.lst (ps.map QS)),.d (.tup (.int (k:Int)::.str (dA kw)::.int (l:Int)::.str (dA lw)::more))]/\d8 R ps/\k<ps.length/\l<ps.length/\so (.d (QS (RL R ps k kw l lw))) ls
def mI:W Fl:=(bN (aD qO (aq (bI (aD i7 (aq (aj 0) (aq (aj 1) (aq (ax aK (aj 2) (wC (.int 0))) (aq (ax aK (aj 2) (wC (.int 1))) aI)))))) (aq (bI (aD i7 (aq (aj 0) (aq (aj 1) (aq (ax aK (aj 2) (wC (.int 2))) (aq (ax aK (aj 2) (wC (.int 3))) aI)))))) aI))))
theorem u4:UR 3 0 gS mI:=by rintro ls so - ⟨R,ps,k,l,kw,lw,more,rfl,hS,hk,hl,h⟩;unfold mI;walk_at "w";refine⟨R,ps,k,kw,rfl,hS,hk,?_⟩;walk_at "w";refine⟨R,ps,l,lw,rfl,hS,hl,?_⟩;walk_at "w";exact⟨_,_,rfl,(wG hS hk kw).mono x_,(wG hS hl lw).mono x_,_,ai (ai (ai aO)),h⟩
noncomputable def Pq(R:aL)(ps:List Rat)(s:g8):Bool:=!decide (s.k=s.l) && (lg R.n (aM R s.k) s.kw (aM R s.l) s.lw && (decide (0<s.am) && !decide (RL R ps s.k s.kw s.l s.lw<s.am)))
def mJ:FS:=λls so=>∃(R:aL)(ps:List Rat)(d:D),ls=[.d (aP R),.d (.lst (ps.map QS)),.d d]/\d8 R ps/\(∀s,se d=some s->s.k<ps.length->s.l<ps.length->RB 400000 s.am)/\so (.d (.bl (RV R ps d))) ls
def oC:W Fl:=(a5 (QC (Qz (vI (aW (aD cO (aq (aj 2) (aq (bI (bp fh (aq (ax aK (aj 0) (wC (.int 1))) aI))) aI))))) (aW (ax sU (ax aK (aj 2) (wC (.int 0))) (ax aK (aj 2) (wC (.int 2)))))) (bN (wC (.bl false))) cm)
  (a5 (QC (vI (aW (aD dM (aq (aj 0) (aq (ax aK (aj 2) (wC (.int 0))) (aq (ax aK (aj 2) (wC (.int 1))) (aq (ax aK (aj 2) (wC (.int 2))) (aq (ax aK (aj 2) (wC (.int 3))) aI)))))))) (bN (wC (.bl false))) cm)
  (bN (k9 (aD dJ (aq (wC (.tup [(.int 0),(.int 1)])) (aq (ax aK (aj 2) (wC (.int 4))) aI))) (Ca (aW (aD dJ (aq (bI (aD gS (aq (aj 0) (aq (aj 1) (aq (aj 2) aI))))) (aq (ax aK (aj 2) (wC (.int 4))) aI)))))))))
theorem Ob{R:aL}{ps:List Rat}(h:d8 R ps){k l:Nat}(hk:k<ps.length)(hl:l<ps.length)(kw lw:Bool):RB 400000 (RL R ps k kw l lw):=by
 rcases(h.ms hk hl kw lw).2.2.2 with e|e
 . rw[e];exact(wG h hk _).mono x_
 . rw[e];exact(wG h hl _).mono x_
theorem w9:UR 3 0 mJ oC:=by
 rintro ls so - ⟨R,ps,d,rfl,hS,ha,h⟩;unfold oC;walk_at "w";refine⟨_,R.asks.length,rfl,?_⟩
 cases ef:sf R.asks.length d with
 | false =>
  have e:RV R ps d=false:=by
   unfold sf at ef;unfold RV;rw[hS.len];split
   . rename_i s e;rw[e]at ef;have ef:(decide (s.k<R.asks.length) && decide (s.l<R.asks.length))=false:=ef;rw[<- Bool.and_assoc,ef];rfl
   . rfl
  rw[e]at h;walk_at "w";exact⟨_,ai (ai (ai aO)),h⟩
 |true =>
 obtain⟨s,es,hk',hl'⟩:∃s,se d=some s/\s.k<R.asks.length/\s.l<R.asks.length:=by
  unfold sf at ef;split at ef
  . rename_i s e;rw[Bool.and_eq_true,UG,UG]at ef;exact⟨s,e,ef.1,ef.2⟩
  . cases ef
 have hk:s.k<ps.length:=by rw[hS.len];exact hk'
 have hl:s.l<ps.length:=by rw[hS.len];exact hl'
 have ha2:=ha s es hk hl;have:=Dx es;subst this;rw[Hm hk hl]at h;unfold QO at h;rw[bH hk',bH hl']at h;simp only[RJ]at h ⊢;walk_at "w";by_cases e:s.k=s.l
 . rw[if_pos (by omega)];rw[decide_eq_true e]at h;exact⟨_,ai (ai (ai aO)),h⟩
 rw[if_neg (by omega)];rw[decide_eq_false e]at h;refine⟨R,s.k,s.l,s.kw,s.lw,hk',hl',rfl,hS.ok,?_⟩;walk_at "w"
 cases e1:lg R.n R.asks[s.k] s.kw R.asks[s.l] s.lw with
 | false =>
  rw[e1]at h;walk_at "w";exact⟨_,ai (ai (ai aO)),h⟩
 | true =>
  rw[e1]at h;walk_at "w";refine⟨0,s.am,rfl,RB.zero.mono x_,ha2,?_⟩;walk_at "w";by_cases e2:0<s.am
  . rw[decide_eq_true e2]at h;rw[if_pos e2];refine⟨R,ps,s.k,s.l,s.kw,s.lw,_,rfl,hS,hk,hl,?_⟩;walk_at "w";refine⟨_,s.am,rfl,Ob hS hk hl _ _,ha2,?_⟩;walk_at "w";refine⟨_,ai (ai (ai aO)),?_⟩;simpa using h
  . rw[decide_eq_false e2]at h;rw[if_neg e2];exact⟨_,ai (ai (ai aO)),h⟩
noncomputable def Ub(ps:List Rat)(d:D):List Rat:=match se d with
 |some s=>RN ps s
 |none=>ps
noncomputable def k7(R:aL)(ps:List Rat)(ss:List D):List Rat:=ss.foldl Ub ps
noncomputable def xa(R:aL):Nat->List Rat->List D->Option Nat
 |_,_,[]=>none
 |i,ps,d::ss=>if RV R ps d then xa R (i+1) (Ub ps d) ss else some i
def iz:Rb:=λds so xp=>∃(R:aL)(ps:List Rat)(ss:List D)(D:Nat),ds=[aP R,.lst (ps.map QS),.lst ss]/\d8 R ps/\ss.length<=99/\(∀d∈ss,∀s,se d=some s->RB 4000 s.am/\s.am.den∣D)/\(0<D/\D<2^1500/\(∀a∈R.asks,a.size.den∣D)/\(∀p∈ps,p.den∣D)) /\
 (xa R 0 ps ss=none->∀ a,so (.own a ((k7 R ps ss).map QS)))/\∀ i,xa R 0 ps ss=some i->xp ⟨"NoSlide",["number"],[.int (i:Int)]⟩
def rn(xp:Xc->Prop):W Fl:=(a5 (QC (vI (aW (aD mJ (aq (aj 0) (aq (aj 3) (aq (aj 5) aI)))))) (v8 "NoSlide" ["number"] xp (aq (aj 4) aI)) cm)
  (bD 3 (aD gR (aq (aj 3) (aq (aj 5) aI)))))
def rp(xp:Xc->Prop):W Fl:=(a5 (QC (vI (aW (QB (pk "list") (aj 2)))) (v8 "NoSlide" ["number"] xp (aq (wC .non) aI)) cm)
  (a5 (bD 3 (bp vL (aq (aj 1) aI)))
  (a5 (p6 (xQ (aj 2)) (cn [4,5]) (rn xp))
  (bN (p5 3)))))
theorem DV{R:aL}{ps:List Rat}{s:g8}(h:d8 R ps)(hk:s.k<ps.length)(hl:s.l<ps.length)(e:QO R ps s=true):Mv R ps s:=by unfold QO at e;simp only[Bool.and_eq_true,Bool.not_eq_true',decide_eq_false_iff_not,UG]at e;obtain⟨e1,_,e3,e4⟩:=e;obtain⟨m1,m2,m3,_⟩:=h.ms hk hl s.kw s.lw;have le:=Rat.not_lt.mp e4;exact⟨hk,hl,e1,Rat.le_of_lt e3,Rat.le_trans le m2,Rat.le_trans le m3⟩
structure Uc (R:aL) (ps:List Rat) (D:Nat):Prop where
 ok:d8 R ps
 d0:0<D
 d1:D<2^1500
 da:∀a∈R.asks,a.size.den∣D
 dp:∀p∈ps,p.den∣D
theorem Uc.slid{R:aL}{ps:List Rat}{D:Nat}{s:g8}(h:Uc R ps D)(hs:Mv R ps s)(dm:s.am.den∣D):Uc R (RN ps s) D:=by
 have dk:∀k,k<ps.length->(ps.getD k 0).den∣D:=λk hk=>h.dp _ (by rw[bC hk];exact UD hk)
 have db:∀(k:Nat)(w:Bool),k<ps.length->(RM (ps.getD k 0) w s.am).den∣D:=λk w hk=>by
  unfold RM;cases w
  . exact mh h.d0 (dk k hk) dm
  . exact mf h.d0 (dk k hk) dm
 have dp':∀p∈RN ps s,p.den∣D:=λp hp=>by
  obtain⟨i,hi,rfl⟩:=List.getElem_of_mem hp;rw[<- bC hi,wF hs.k hs.l hs.kl];rw[j3]at hi;split
  . exact db _ _ hs.k
  .
   split
   . exact db _ _ hs.l
   . exact dk i hi
 refine⟨⟨h.ok.ok,by rw[j3];exact h.ok.len,λi hi=>?_,D,h.d0,h.d1,h.da,dp'⟩,h.d0,h.d1,h.da,dp'⟩;rw[j3]at hi;rw[wF hs.k hs.l hs.kl];split
 . rename_i e;subst e;exact Ah (h.ok.lo _ hs.k).1 (h.ok.lo _ hs.k).2 hs.nn hs.kn
 .
  split
  . rename_i e;subst e;exact Ah (h.ok.lo _ hs.l).1 (h.ok.lo _ hs.l).2 hs.nn hs.ln
  . exact h.ok.lo i hi
theorem Hw{R:aL}{ps:List Rat}(h:d8 R ps):∀p∈ps,RB 4000 p:=λp hp=>by obtain⟨i,hi,rfl⟩:=List.getElem_of_mem hp;rw[<- bC hi];exact(h.rb hi).mono x_
theorem DW{R:aL}{ss:List D}{j:Nat}{qs:List Rat}(h:j<ss.length):xa R j qs (ss.drop j)=if RV R qs ss[j]then xa R (j+1) (Ub qs ss[j]) (ss.drop (j+1))else some j:=by rw[List.drop_eq_getElem_cons h];rfl
theorem GH{ss:List D}{j:Nat}{x:D}(hj:(fm ss)[j]?=some x):∃h:j<ss.length,x=.tup [.int (j:Int),ss[j]]:=by
 have hj':j<ss.length:=by have:=(UA.mp hj).1;simpa[fm]using this
 refine⟨hj',?_⟩;have:(fm ss)[j]?=some (.tup [.int (j:Int),ss[j]]):=by simp[fm,hj']
 rw[this]at hj;exact(Option.some.inj hj).symm
theorem yN:∀ds so xp,ds.length=3->iz ds so xp->rp xp (ds.map .d++List.replicate 3 .un) (Re so):=by
 rintro ds so xp - ⟨R,ps,ss,D,rfl,hS,h20,hs,⟨d0,d1,da,dp⟩,h,hx⟩;unfold rp;walk_at "w";refine λa0=>dE _ (λj Z=>∃(qs:List Rat)(a:Addr)(x4 x5:L),Z=[.d (aP R),.d (.lst (ps.map QS)),.d (.lst ss),.own a (qs.map QS),x4,x5]/\Uc R qs D/\qs.length=ps.length/\xa R j qs (ss.drop j)=xa R 0 ps ss/\k7 R qs (ss.drop j)=k7 R ps ss) _ ⟨ps,_,_,_,rfl,⟨hS,d0,d1,da,dp⟩,rfl,rfl,rfl⟩ ?_ ?_
 .
  rintro j x Z hj ⟨qs,a,x4,x5,rfl,hD,hl,hb,hr⟩ Q h1 h2 h3' h4;obtain⟨hj',ex⟩:=GH hj;subst ex;have hm:=UD hj';have s3:=hs _ hm;rw[DW hj']at hb;have hr':k7 R (Ub qs ss[j]) (ss.drop (j+1))=k7 R ps ss:=by rw[<- hr,List.drop_eq_getElem_cons hj'];rfl
  unfold rn;walk_at "w";refine⟨R,qs,ss[j],rfl,hD.ok,λs e _ _=>(s3 s e).1.mono x_,?_⟩;walk_at "w"
  cases e:RV R qs ss[j]with
  | false =>
   rw[e,if_neg (by decide)]at hb;walk_at "w";exact⟨.inr trivial,x_,hx j hb.symm⟩
  | true =>
   rw[e,if_pos rfl]at hb;obtain⟨s,es,hk,hl',e'⟩:=Hn e;have dd:=DV hD.ok hk hl' e';have es':se ss[j]=some s:=by rw[es];exact qy s
   obtain⟨s4,s5⟩:=s3 s es';have est:Ub qs ss[j]=RN qs s:=by unfold Ub;rw[es']
   rw[est]at hb hr';rw[es];walk_at "w";refine⟨qs,s,rfl,by rw[hD.ok.len];exact hD.ok.ok.few,hk,hl',dd.kl,Hw hD.ok,s4,λc=>?_⟩;walk_at "w";exact h1 _ ⟨_,_,_,_,rfl,hD.slid dd s5,by rw[j3];exact hl,hb,hr'⟩
 .
  rintro Z ⟨qs,a,x4,x5,rfl,hD,hl,hb,hr⟩;have e:ss.drop (fm ss).length=[]:=by simp[fm]
  rw[e]at hb hr;walk_at "w";have h:=h hb.symm a;rw[<- hr]at h;exact h
def i8:FS:=λls so=>∃(R:aL)(k l:Nat)(hk:k<R.asks.length)(hl:l<R.asks.length),ls=[.d (aP R),.d (.int (k:Int)),.d (.int (l:Int))]/\R.Ok/\so (.d (.tup [.str (dA (bJ R.n R.asks[k] R.asks[l]).1),.str (dA (bJ R.n R.asks[k] R.asks[l]).2)])) ls
def ia:W Fl:=(QC (aW (aD dM (aq (aj 0) (aq (aj 1) (aq (ax aK (aj 3) (wC (.int 0))) (aq (aj 2) (aq (ax aK (aj 3) (wC (.int 1))) aI))))))) (bN (p5 3)) cm)
def km:W Fl:=(a5 (p6 (ub (nJ (aq (nJ (aq (wC (.str "on")) (aq (wC (.str "on")) aI))) (aq (nJ (aq (wC (.str "on")) (aq (wC (.str "back")) aI))) (aq (nJ (aq (wC (.str "back")) (aq (wC (.str "on")) aI))) aI))))) (bu 3) ia)
  (bN (nJ (aq (wC (.str "back")) (aq (wC (.str "back")) aI)))))
theorem yO{R:aL}{k l:Nat}(hk:k<R.asks.length)(hl:l<R.asks.length)(hR:R.Ok)(aw bw:Bool){Q:Fl->Ev->Prop}(h1:lg R.n R.asks[k] aw R.asks[l] bw=true->∀Z,xw Z [.d (aP R),.d (.int (k:Int)),.d (.int (l:Int))] [.d (aP R),.d (.int (k:Int)),.d (.int (l:Int))]->Q (.rt (.d (.tup [.str (dA aw),.str (dA bw)]))) Z)
  (h2:lg R.n R.asks[k] aw R.asks[l] bw=false->Q .nx [.d (aP R),.d (.int (k:Int)),.d (.int (l:Int)),.d (.tup [.str (dA aw),.str (dA bw)])]) :
  ia [.d (aP R),.d (.int (k:Int)),.d (.int (l:Int)),.d (.tup [.str (dA aw),.str (dA bw)])] Q:=by
 unfold ia;walk_at "w";refine⟨R,k,l,aw,bw,hk,hl,rfl,hR,?_⟩;walk_at "w"
 cases e:lg R.n R.asks[k] aw R.asks[l] bw with
 |true=>exact h1 e _ (ai (ai (ai aO)))
 |false=>exact h2 e
theorem sx:UR 3 1 i8 km:=by
 rintro ls so - ⟨R,k,l,hk,hl,rfl,hR,h⟩;unfold km;walk_at "w";have e1:Str.ofString "on"=dA true:=rfl;have e2:Str.ofString "back"=dA false:=rfl;rw[e1,e2];refine⟨x_,x_,x_,x_,?_⟩;unfold bJ at h;unfold d6;refine yO hk hl hR true true (λe Z b=>?_) λe=>?_
 . rw[if_pos e]at h;exact⟨_,b,h⟩
 rw[if_neg (by simp[e])]at h;unfold d6;refine yO hk hl hR true false (λe Z b=>?_) λe=>?_
 . rw[if_pos e]at h;exact⟨_,b,h⟩
 rw[if_neg (by simp[e])]at h;unfold d6;refine yO hk hl hR false true (λe Z b=>?_) λe=>?_
 . rw[if_pos e]at h;exact⟨_,b,h⟩
 rw[if_neg (by simp[e])]at h;unfold d6;exact⟨x_,_,ai (ai (ai aO)),h⟩
def eF:FS:=λls so=>∃(R:aL)(ps:List Rat)(k l:Nat)(hk:k<R.asks.length)(hl:l<R.asks.length),ls=[.d (aP R),.d (.lst (ps.map QS)),.d (.int (k:Int)),.d (.int (l:Int))]/\d8 R ps/\so (.d (RJ (RQ R ps k l (bJ R.n R.asks[k] R.asks[l])))) ls
def fz:W Fl:=(a5 (bD 4 (bI (aD i8 (aq (aj 0) (aq (aj 2) (aq (aj 3) aI))))))
  (a5 (bD 5 (nJ (aq (aj 2) (aq (ax aK (aj 4) (wC (.int 0))) (aq (aj 3) (aq (ax aK (aj 4) (wC (.int 1))) aI))))))
  (bN (ax zM (aj 5) (nJ (aq (bI (aD gS (aq (aj 0) (aq (aj 1) (aq (aj 5) aI))))) aI))))))
theorem nC:UR 4 2 eF fz:=by rintro ls so - ⟨R,ps,k,l,hk,hl,rfl,hS,h⟩;unfold fz;walk_at "w";refine⟨R,k,l,hk,hl,rfl,hS.ok,?_⟩;walk_at "w";refine⟨x_,R,ps,k,l,_,_,[],rfl,hS,by rw[hS.len];exact hk,by rw[hS.len];exact hl,?_⟩;walk_at "w";refine⟨x_,v6,v6,x_,_,ai (ai (ai (ai aO))),h⟩
def i9:FS:=λls so=>∃(R:aL)(ps:List Rat),ls=[.d (aP R),.d (.lst (ps.map QS))]/\d8 R ps/\∀a,so (.own a ((tI R 20 ps).map RJ)) ls
def lH:W Fl:=(a5 (bD 5 (bI (aD eF (aq (aj 0) (aq (aj 2) (aq (ax aK (aj 4) (wC (.int 0))) (aq (ax aK (aj 4) (wC (.int 1))) aI)))))))
  (a5 (vJ (IH 3 (aj 5)))
  (a5 (bD 2 (bI (aD gR (aq (aj 2) (aq (aj 5) aI)))))
  (bD 4 (bI (aD aS (aq (aj 0) (aq (bI (aD bR (aq (aj 0) (aq (aj 2) aI)))) aI))))))))
def kq:W Fl:=(a5 (bD 2 (aj 1))
  (a5 (bD 3 (r6 aI))
  (a5 (bD 4 (bI (aD aS (aq (aj 0) (aq (bI (aD bR (aq (aj 0) (aq (aj 2) aI)))) aI)))))
  (a5 (zr (aW (ax sW (aj 4) (wC .non))) lH)
  (bN (p5 3))))))
theorem xb{R:aL}{ps:List Rat}(h:d8 R ps){so:L->List L->Prop}(q:so (.d (yr (RS (RR R) (RU R ps)))) [.d (aP R),.d (.lst ((RU R ps).map λ(k:Nat)=>D.int (k:Int)))]):aS [.d (aP R),.d (.lst ((RU R ps).map λ(k:Nat)=>D.int (k:Int)))] so:=by refine⟨R,RU R ps,rfl,?_,λk hk=>by rw[<- h.len];exact(jt hk).1,q⟩;refine Nat.le_trans (List.length_filter_le _ _) ?_;rw[List.length_range,h.len];exact h.ok.few
theorem tN{R:aL}{ps:List Rat}(h:d8 R ps){so:L->List L->Prop}(q:∀a,so (.own a ((RU R ps).map λ(k:Nat)=>D.int (k:Int))) [.d (aP R),.d (.lst (ps.map QS))]):bR [.d (aP R),.d (.lst (ps.map QS))] so:=by refine⟨R,ps,1800,rfl,h.ok,h.len,λp hp=>?_,x_,q⟩;obtain⟨i,hi,rfl⟩:=List.getElem_of_mem hp;rw[<- bC hi];exact h.rb hi
theorem Oc{R:aL}{ps:List Rat}(h:d8 R ps){k l:Nat}(hk:k<ps.length)(hl:l<ps.length)(w:Bool×Bool):RB 4000 (RQ R ps k l w).am:=by
 show RB 4000 (RL R ps k w.1 l w.2);rcases(h.ms hk hl w.1 w.2).2.2.2 with e|e
 . rw[e];exact(wG h hk _).mono x_
 . rw[e];exact(wG h hl _).mono x_
theorem Od{R:aL}{ps:List Rat}(h:d8 R ps):∀p∈ps,RB 4000 p:=λp hp=>by obtain⟨i,hi,rfl⟩:=List.getElem_of_mem hp;rw[<- bC hi];exact(h.rb hi).mono x_
theorem sy:UR 2 4 i9 kq:=by
 rintro ls so - ⟨R,ps,rfl,hS,h⟩;unfold kq;walk_at "w";refine⟨x_,λa=>tN hS λb=>?_⟩;walk_at "w";refine xb hS ?_;walk_at "w";have h20:(RU R ps).length<=20:=by refine Nat.le_trans (List.length_filter_le _ _) ?_;rw[List.length_range,hS.len];exact hS.ok.few
 refine⟨λn Z=>∃(qs:List Rat)(done:List g8)(m:Nat)(x5:L),Z=[.d (aP R),.d (.lst (ps.map QS)),.d (.lst (qs.map QS)),.own a (done.map RJ),.d (yr (RS (RR R) (RU R qs))),x5]/\d8 R qs/\(RU R qs).length=n/\n<=m/\done.length+m=20/\done++tI R m qs=tI R 20 ps,
  ⟨_,ps,[],20,_,rfl,hS,rfl,h20,rfl,rfl⟩,?_⟩
 rintro n Z ⟨qs,done,m,x5,rfl,hQ,hn,hm,hd,hs⟩
 cases e:RS (RR R) (RU R qs)with
 | none =>
  unfold yr;walk_at "w"
  have e0:tI R m qs=[]:=by
   cases m with
   |zero=>rfl
   |succ m=>unfold tI Ak;rw[e];rfl
  rw[e0,List.append_nil]at hs;subst hs;exact⟨_,ai (ai aO),h a⟩
 | some p =>
  obtain⟨k,l⟩:=p;obtain⟨hk,hl,hkl,hc⟩:=pT (qv R qs) e;obtain⟨hk1,hk2⟩:=jt hk;obtain⟨hl1,hl2⟩:=jt hl;have hk':k<R.asks.length:=by rw[<- hQ.len];exact hk1
  have hl':l<R.asks.length:=by rw[<- hQ.len];exact hl1
  have hkl':k≠l:=by omega
  simp only[yr];walk_at "w";unfold lH;walk_at "w";refine⟨R,qs,k,l,hk',hl',rfl,hQ,?_⟩;have en:Ak R qs=some (RQ R qs k l (bJ R.n R.asks[k] R.asks[l])):=by unfold Ak;rw[e];show some (RQ R qs k l (bJ R.n (aM R k) (aM R l)))=_;rw[bH hk',bH hl']
  have ok2:=Hi hQ hk1 hl1 hkl' (bJ R.n R.asks[k] R.asks[l]);have less:=Aj hQ hk hl hkl' (bJ R.n R.asks[k] R.asks[l]);have arb:=Oc hQ hk1 hl1 (bJ R.n R.asks[k] R.asks[l]);generalize hs':RQ R qs k l (bJ R.n R.asks[k] R.asks[l])=s at *;have sk:s.k=k:=by rw[<- hs'];rfl
  have sl:s.l=l:=by rw[<- hs'];rfl
  walk_at "w";refine⟨?_,qs,s,rfl,by rw[hQ.len];exact hQ.ok.few,by rw[sk];exact hk1,by rw[sl];exact hl1,by rw[sk,sl];exact hkl',Od hQ,arb,λc=>?_⟩
  . exact UI (show done.length<=20 by omega) x_
  walk_at "w";refine tN ok2 λd=>?_;walk_at "w";refine xb ok2 ?_;walk_at "w"
  cases m with
  |zero=>omega
  | succ m =>
   refine⟨_,by rw[<- hn];exact less,RN qs s,done++[s],m,_,by rw[List.map_append];rfl,ok2,rfl,xL,by simp;omega,?_⟩;rw[<- hs,List.append_assoc]
   congr 1
   show s::tI R m (RN qs s)=tI R (m+1) qs
   conv=>rhs;unfold tI
   rw[en]
def eR:FS:=λls so=>∃(a:Ru)(p:Rat),ls=[.d (eM a),.d (QS p)]/\so (.d (.str (dA (decide (p=a.size))))) ls
def ja:W Fl:=(bN (BA (aW (ax sU (aj 1) (ax aK (aj 0) (wC (.int 3))))) (wC (.str "on")) (wC (.str "back"))))
theorem rq:UR 2 0 eR ja:=by
 rintro ls so - ⟨a,p,rfl,h⟩;unfold ja;have es:eM a=.tup [.str a.nm,.int a.one,.int a.other,QS a.size]:=rfl;rw[es]at h ⊢;walk_at "w";by_cases hp:p=a.size
 . rw[if_pos hp];rw[decide_eq_true hp]at h;exact⟨_,ai (ai aO),h⟩
 . rw[if_neg hp];rw[decide_eq_false hp]at h;exact⟨_,ai (ai aO),h⟩
def c8:FS:=λls so=>∃(R:aL)(ps:List Rat)(ks:List Nat)(ws:List Bool),ls=[.d (aP R),.d (.lst (ps.map QS)),.d (.lst (ks.map λ(k:Nat)=>D.int (k:Int))),.d (.lst (ws.map kT))]/\ps.length=R.asks.length/\ws.length=R.asks.length/\ks.length<=20/\R.asks.length<=20 /\
 so (.d (.bl ((List.range R.asks.length).all (R4 R ps ks ws)))) ls
def fF:W Fl:=(QC (K4 (aW (ax (AW true) (aj 4) (aj 2))) (K4 (aW (ax xK (ax aK (aj 5) (wC (.int 3))) (wC (.tup [(.int 0),(.int 1)])))) (aW (ax xK (ax aK (aj 3) (aj 4)) (aD eR (aq (aj 5) (aq (ax aK (aj 1) (aj 4)) aI))))))) (bN (wC (.bl false))) cm)
def dN:W Fl:=(a5 (p6 (xQ (ax aK (aj 0) (wC (.int 1)))) (cn [4,5]) fF)
  (bN (wC (.bl true))))
theorem ML(v w:Bool):QI (kT v) (.str (dA w))=decide (v=w):=by cases v<;>cases w<;>decide +kernel
theorem lj:UR 4 2 c8 dN:=by
 rintro ls so - ⟨R,ps,ks,ws,rfl,hl,hw,h20,hn,h⟩;unfold dN;walk_at "w";rw[wH];refine kP (enc:=λ(k:Nat)=>D.tup [.int (k:Int),eM (aM R k)]) (List.range R.asks.length) (λpre Z=>pre.all (R4 R ps ks ws)=true/\∃x4 x5,Z=[.d (aP R),.d (.lst (ps.map QS)),.d (.lst (ks.map λ(k:Nat)=>D.int (k:Int))),.d (.lst (ws.map kT)),x4,x5]) _ ⟨rfl,_,_,rfl⟩ ?_ ?_
 .
  rintro pre k suf Z hsp ⟨hp,x4,x5,rfl⟩ Q h1 h2 h3 h4
  have hk:k<R.asks.length:=by
   have:k∈List.range R.asks.length:=by rw[hsp];simp
   simpa using this
  unfold fF;walk_at "w";have ek:R4 R ps ks ws k=(decide (k∈ks) ||decide (R.asks[k].size=0) ||decide (ws[k]=decide (ps[k]=R.asks[k].size))):=by unfold R4;rw[Gh hk,uA (show k<ps.length by omega),UE,Ux (show k<ws.length by omega)];rfl
  have go:R4 R ps ks ws k=true->(pre++[k]).all (R4 R ps ks ws)=true:=λz=>by rw[List.all_append,hp,List.all_cons,z];rfl
  have no:R4 R ps ks ws k=false->(List.range R.asks.length).all (R4 R ps ks ws)=false:=λz=>by rw[hsp,List.all_append,List.all_cons,z,Bool.false_and,Bool.and_false]
  refine⟨rfl,Dk ks,?_⟩;rw[uy,Ad hk];by_cases c1:k∈ks
  . rw[if_neg (by simp[c1])];exact h1 _ ⟨go (by rw[ek];simp[c1]),_,_,rfl⟩
  rw[if_pos (by simp[c1])];refine⟨m6 0,?_⟩;have ez:QI (QS R.asks[k].size) (.tup [.int 0,.int 1])=decide (R.asks[k].size=0):=zG _ 0;rw[ez];by_cases c2:R.asks[k].size=0
  . rw[if_neg (by simp[c2])];exact h1 _ ⟨go (by rw[ek];simp[c2]),_,_,rfl⟩
  rw[if_pos (by simp[c2])];refine⟨_,ba xL,_,ba xL,_,_,rfl,eY _,eY _,?_⟩;rw[ML];by_cases c3:ws[k]=decide (ps[k]=R.asks[k].size)
  . rw[if_neg (by rw[decide_eq_true c3];decide)];exact h1 _ ⟨go (by rw[ek,decide_eq_true c3,Bool.or_true]),_,_,rfl⟩
  . rw[if_pos (decide_eq_false c3)];refine h4 _ _ ⟨_,ai (ai (ai (ai aO))),?_⟩;rw[no (by rw[ek,decide_eq_false c1,decide_eq_false c2,decide_eq_false c3];rfl)]at h;exact h
 . rintro Z ⟨hp,x4,x5,rfl⟩;rw[hp]at h;exact⟨_,ai (ai (ai (ai aO))),h⟩
def bU:FS:=λls so=>∃(R:aL)(ks:List Nat),ls=[.d (aP R),.d (.lst (ks.map λ(k:Nat)=>D.int (k:Int)))]/\R.Ok/\(∀k∈ks,k<R.asks.length)/\so (.d (QS (cu R ks))) ls
def fG:W Fl:=(bD 2 (bI (aD oh (aq (aj 2) (aq (ax aK (ax aK (ax aK (aj 0) (wC (.int 1))) (aj 3)) (wC (.int 3))) aI)))))
def dO:W Fl:=(a5 (bD 2 (wC (.tup [(.int 0),(.int 1)])))
  (a5 (p6 (ub (aj 1)) (bu 3) fG)
  (bN (aD uT (aq (aj 2) (aq (wC (.tup [(.int 1),(.int 2)])) aI))))))
theorem DX:RB 2 (1 / 2:Rat):=by
 have e:(1 / 2:Rat).num=1/\(1 / 2:Rat).den=2:=by decide +kernel
 unfold RB;rw[e.1,e.2];decide
theorem GI:QS (1 / 2:Rat)=.tup [.int 1,.int 2]:=by
 have e:(1 / 2:Rat).num=1/\(1 / 2:Rat).den=2:=by decide +kernel
 unfold QS;rw[e.1,e.2];rfl
theorem Hx{R:aL}(hR:R.Ok):∀(ks:List Nat)(g:Rat),(∀k∈ks,k<R.asks.length)->RB 1540 g->RB 1540 (RZ R ks g)
 |[],g,_,h=>h
 | k::ks,g,hk,h=>by
  show RB 1540 (RZ R ks _);refine Hx hR ks _ (λx hx=>hk x (tu _ hx)) ?_;dsimp only;split
  . rw[jE (hk k Uz)];exact hR.rb (UD _)
  . exact h
theorem DY{R:aL}(hR:R.Ok){ks:List Nat}(hk:∀k∈ks,k<R.asks.length):RB 1542 (cu R ks):=(Hx hR ks 0 hk (RB.zero.mono x_)).mul DX
theorem ll:UR 2 2 bU dO:=by
 rintro ls so - ⟨R,ks,rfl,hR,hk,h⟩;unfold dO;walk_at "w";refine dE _ (λj Z=>∃(g:Rat)(x:L),Z=[.d (aP R),.d (.lst (ks.map λ(k:Nat)=>D.int (k:Int))),.d (QS g),x]/\RB 1540 g/\RZ R (ks.drop j) g=RZ R ks 0) _ ⟨0,_,rfl,RB.zero.mono x_,rfl⟩ ?_ ?_
 .
  rintro j x Z hj ⟨g,x3,rfl,hg,e⟩ Q h1 h2 h3 h4;rw[List.getElem?_map]at hj
  have hj':j<ks.length:=by
   rcases Nat.lt_or_ge j ks.length with q|q
   . exact q
   . rw[List.getElem?_eq_none q]at hj;exact absurd hj v6
  rw[Ux hj']at hj;cases hj;have hk':=hk _ (UD hj');have rb:=hR.rb (UD hk');rw[List.drop_eq_getElem_cons hj']at e;unfold fG;walk_at "w";refine⟨_,ba hk',?_⟩;walk_at "w";refine⟨_,_,rfl,hg.mono x_,rb.mono x_,?_⟩;walk_at "w";refine h1 _ ⟨_,_,rfl,?_,?_⟩
  .
   split
   . exact rb
   . exact hg
  .
   rw[<- e]
   show _=RZ R _ (if g<R.sz ks[j]then R.sz ks[j]else g)
   rw[Gh hk']
 . rintro Z ⟨g,x,rfl,hg,e⟩;rw[UC,List.drop_length]at e;walk_at "w";refine⟨g,1 / 2,by rw[GI],hg.mono x_,DX.mono x_,?_⟩;walk_at "w";have e':g=RZ R ks 0:=e;rw[e'];exact⟨_,ai (ai aO),h⟩
def b9:FS:=λls so=>∃(R:aL)(k:Nat)(hk:k<R.asks.length),ls=[.d (.int (k:Int)),.d (aP R)]/\so (.d (.int (RX R.asks[k]))) []
def cA:W L:=(aD cx (aq (aj 1) (aq (aj 0) aI)))
theorem jb:∀a d so,b9 [.d a,.d d] so->cA [.d a,.d d] (λr _=>so r []):=by rintro a d so ⟨R,k,hk,e,h⟩;cases e;unfold cA;walk_at "w";exact⟨R,k,hk,rfl,h⟩
def cg:FS:=λls so=>∃(R:aL)(ks:List Nat),ls=[.d (aP R),.d (.lst (ks.map λ(k:Nat)=>D.int (k:Int)))]/\ks.length<=20/\(∀k∈ks,k<R.asks.length) /\
 ∀(a:Addr)(os:List Nat),os.Perm ks->os.Pairwise (λi j=>RY R i<=RY R j)->so (.own a (os.map λ(k:Nat)=>D.int (k:Int))) ls
def eG:W Fl:=(bN (CU b9 0 (aj 1)))
theorem mK:UR 2 0 cg eG:=by
 rintro ls so - ⟨R,ks,rfl,hl,hk,h⟩;unfold eG;walk_at "w";refine⟨ks.map λ(k:Nat)=>(k:Int),λn=>(RY R n.toNat:Int),by rw[List.map_map];rfl,by rw[UC];omega,λn hn=>?_,λa out op os=>?_⟩
 . obtain⟨k,hkm,rfl⟩:=List.mem_map.mp hn;have hk':=hk k hkm;refine⟨R,k,hk',rfl,?_⟩;show D.int _=D.int ((RY R ((k:Int)).toNat:Nat):Int);rw[Int.toNat_natCast];unfold RY;rw[UE,Ux hk'];rfl
 .
  obtain⟨ms,rfl⟩:∃ms:List Nat,out=ms.map λ(k:Nat)=>(k:Int):=by
   refine⟨out.map Int.toNat,?_⟩;rw[List.map_map]
   conv=>lhs;rw[<- List.map_id out]
   refine List.map_congr_left λn hn=>?_;obtain⟨k,_,rfl⟩:=List.mem_map.mp (op.mem_iff.mp hn);simp
  have inj:∀{l1 l2:List Nat},(l1.map λ(k:Nat)=>(k:Int)).Perm (l2.map λ(k:Nat)=>(k:Int))->l1.Perm l2:=λ{l1 l2} p=>by have:=p.map Int.toNat;rw[List.map_map,List.map_map]at this;simpa[Function.comp_def]using this
  refine⟨_,ai (ai aO),?_⟩
  have:=h a ms (inj op) (by
   rw[List.pairwise_map]at os
   exact os.imp λ{i j} q=>by
    simp only[Int.toNat_natCast]at q
    omega)
  rw[List.map_map];exact this
def dP:FS:=λls so=>∃(R:aL)(k:Nat),ls=[.d (aP R),.d (.int (k:Int))]/\k<R.asks.length/\so (.d (.str (dA (si R k)))) ls
def kr:W Fl:=(bN (BA (aW (ax vi (ax aK (ax aK (ax aK (aj 0) (wC (.int 1))) (aj 1)) (wC (.int 1))) (ax aK (ax aK (ax aK (aj 0) (wC (.int 1))) (aj 1)) (wC (.int 2))))) (wC (.str "on")) (wC (.str "back"))))
theorem sD:UR 2 0 dP kr:=by
 rintro ls so - ⟨R,k,rfl,hk,h⟩;have e:si R k=decide (R.asks[k].one<R.asks[k].other):=by unfold si;rw[UE,Ux hk];rfl
 rw[e]at h;unfold kr;walk_at "w";refine⟨_,ba hk,?_⟩;walk_at "w";refine⟨_,ba hk,?_⟩;walk_at "w";by_cases c:R.asks[k].one<R.asks[k].other
 . rw[if_pos (by omega)];rw[decide_eq_true c]at h;exact⟨_,ai (ai aO),h⟩
 . rw[if_neg (by omega)];rw[decide_eq_false c]at h;exact⟨_,ai (ai aO),h⟩
def fU:FS:=λls so=>∃(R:aL)(ps:List Rat)(k:Nat)(w:Bool),ls=[.d (aP R),.d (.lst (ps.map QS)),.d (.int (k:Int)),.d (kT w)]/\k<R.asks.length/\k<ps.length/\RB 1900 (R.sz k)/\RB 1900 (ps.getD k 0)/\so (.d (QS (bo R ps k w))) ls
def rC:W Fl:=(a5 (bD 4 (ax aK (ax aK (ax aK (aj 0) (wC (.int 1))) (aj 2)) (wC (.int 3))))
  (a5 (bD 5 (bI (BA (aW (ax sU (aD dP (aq (aj 0) (aq (aj 2) aI))) (wC (.str "on")))) (ax aK (aj 1) (aj 2)) (aD cT (aq (aj 4) (aq (ax aK (aj 1) (aj 2)) aI))))))
  (bN (aD cT (aq (BA (aW (ax sU (aj 3) (aD dP (aq (aj 0) (aq (aj 2) aI))))) (aj 4) (wC (.tup [(.int 0),(.int 1)]))) (aq (aj 5) aI))))))
theorem MM(v w:Bool):QI (kT v) (.str (dA w))=decide (v=w):=by cases v<;>cases w<;>decide +kernel
theorem Ar{p q:Rat}{b c:Bool}{e:Ev}{so:L->List L->Prop}(hp:RB 1900 p)(hq:RB 3802 q)(h:so (.d (QS ((if b=c then p else 0)-q))) e)(K:L->Prop)(hK:∀r,so r e->K r) :
  (if decide (b=c)=true then cT [.d (QS p),.d (QS q)] λr _=>K r else cT [.d (.tup [.int 0,.int 1]),.d (QS q)] λr _=>K r):=by
 by_cases x:b=c
 . rw[if_pos x]at h;rw[if_pos (decide_eq_true x)];exact fb (hp.mono x_) (hq.mono x_) (hK _ h)
 . rw[if_neg x]at h;rw[if_neg (by simp[x])];exact fb (p:=0) (RB.zero.mono x_) (hq.mono x_) (hK _ h)
theorem yP{R:aL}{ps:List Rat}(h:d8 R ps){k:Nat}(hk:k<ps.length)(w:Bool):RB 5703 (bo R ps k w):=by
 have a:RB 1900 (if w=si R k then R.sz k else 0):=by
  split
  . exact(h.sz_rb hk).mono x_
  . exact RB.zero.mono x_
 have b:RB 3802 (if si R k=true then ps.getD k 0 else R.sz k-ps.getD k 0):=by
  split
  . exact(h.rb hk).mono x_
  . exact((h.sz_rb hk).sub (h.rb hk)).mono x_
 exact(a.sub b).mono x_
theorem pU{R:aL}{ps:List Rat}{D:Nat}(hl:ps.length=R.asks.length)(d0:0<D)(da:∀a∈R.asks,a.size.den∣D)(dp:∀p∈ps,p.den∣D){k:Nat}(hk:k<ps.length)(w:Bool):(bo R ps k w).den∣D:=by
 have s:(R.sz k).den∣D:=by rw[jE xL];exact da _ (UD _)
 have p:(ps.getD k 0).den∣D:=by rw[bC hk];exact dp _ (UD _)
 unfold bo;refine mh d0 ?_ ?_
 .
  split
  . exact s
  . exact⟨D,(Nat.one_mul D).symm⟩
 .
  split
  . exact p
  . exact mh d0 s p
theorem yQ:UR 4 2 fU rC:=by
 rintro ls so - ⟨R,ps,k,w,rfl,hk,hp,b1,b2,h⟩;unfold rC;walk_at "w";refine⟨_,ba hk,?_⟩;walk_at "w";refine⟨R,k,rfl,hk,?_⟩;walk_at "w";unfold bo at h;rw[<- Gh hk];by_cases c:si R k=true
 . rw[if_pos c]at h ⊢;refine⟨_,ba hp,?_⟩;rw[<- uA hp];refine⟨R,k,rfl,hk,?_⟩;refine⟨eY _,eY _,?_⟩;rw[MM];exact Ar b1 (b2.mono x_) h _ λr hr=>⟨_,ai (ai (ai (ai aO))),hr⟩
 . rw[if_neg c]at h ⊢;refine⟨_,ba hp,?_⟩;rw[<- uA hp];refine fb (b1.mono x_) (b2.mono x_) ?_;refine⟨R,k,rfl,hk,?_⟩;refine⟨eY _,eY _,?_⟩;rw[MM];exact Ar b1 ((b1.sub b2).mono x_) h _ λr hr=>⟨_,ai (ai (ai (ai aO))),hr⟩
def gu:FS:=λls so=>∃(R:aL)(ps:List Rat)(ks:List Nat)(ws:List Bool),ls=[.d (aP R),.d (.lst (ps.map QS)),.d (.lst (ks.map λ(k:Nat)=>D.int (k:Int))),.d (.lst (ws.map kT))]/\d8 R ps/\ws.length=R.asks.length/\ks.length<=20/\(∀k∈ks,k<R.asks.length) /\
 ∀os:List Nat,os.Perm ks->os.Pairwise (λi j=>RY R i<=RY R j)->so (.d (.bl (R5 (cu R ks) 0 (R6 R ps ws os)))) ls
def jv:W Fl:=(a5 (bD 5 (bI (aD i3 (aq (aj 5) (aq (bI (aD fU (aq (aj 0) (aq (aj 1) (aq (aj 6) (aq (ax aK (aj 3) (aj 6)) aI)))))) aI)))))
  (QC (Qz (aW (aD dJ (aq (aj 4) (aq (aj 5) aI)))) (aW (aD dJ (aq (aj 5) (aq (bI (aD cT (aq (wC (.tup [(.int 0),(.int 1)])) (aq (aj 4) aI)))) aI))))) (bN (wC (.bl false))) cm))
def ib:W Fl:=(a5 (bD 4 (bI (aD bU (aq (aj 0) (aq (aj 2) aI)))))
  (a5 (bD 5 (wC (.tup [(.int 0),(.int 1)])))
  (a5 (p6 (ub (aD cg (aq (aj 0) (aq (aj 2) aI)))) (bu 6) jv)
  (bN (wC (.bl true))))))
theorem As(hf t g:Rat)(gs:List Rat):R5 hf t (g::gs)=(!(decide (hf<t+g) ||decide (t+g<0-hf)) && R5 hf (t+g) gs):=rfl
theorem pG:UR 4 3 gu ib:=by
 rintro ls so - ⟨R,ps,ks,ws,rfl,hS,hw,h20,hk,h⟩;have hb:=DY hS.ok hk;obtain⟨M,d0,d1,da,dp⟩:=hS.cd;have hl:=hS.len;unfold ib;walk_at "w";refine⟨R,ks,rfl,hS.ok,hk,?_⟩;walk_at "w";refine⟨R,ks,rfl,h20,hk,λa os op ow=>?_⟩;walk_at "w";have h:=h os op ow;have hko:∀k∈os,k<R.asks.length:=λk m=>hk k (op.mem_iff.mp m);have hol:os.length<=20:=by rw[op.length_eq];exact h20
 refine dE _ (λj Z=>∃(t:Rat)(x:L),Z=[.d (aP R),.d (.lst (ps.map QS)),.d (.lst (ks.map λ(k:Nat)=>D.int (k:Int))),.d (.lst (ws.map kT)),.d (QS (cu R ks)),.d (QS t),x]/\RB (5704*j+1) t/\t.den∣M/\R5 (cu R ks) t (R6 R ps ws (os.drop j))=R5 (cu R ks) 0 (R6 R ps ws os)) _ ⟨0,_,rfl,RB.zero,⟨M,(Nat.one_mul M).symm⟩,rfl⟩ ?_ ?_
 .
  rintro j x Z hj ⟨t,x6,rfl,ht,td,e⟩ Q h1 h2 h3 h4;rw[List.getElem?_map]at hj
  have hj':j<os.length:=by
   rcases Nat.lt_or_ge j os.length with q|q
   . exact q
   . rw[List.getElem?_eq_none q]at hj;exact absurd hj v6
  rw[Ux hj']at hj;cases hj;have hk':=hko _ (UD hj');have hkp:os[j]<ps.length:=by omega
  rw[List.drop_eq_getElem_cons hj']at e;have gr:=yP hS hkp (ws.getD os[j] true);have gd:=pU hl d0 da dp hkp (ws.getD os[j] true);have sr:=ht.add gr;have sd:=mf d0 td gd;unfold jv;walk_at "w";have ew:ws[os[j]]'(by omega)=ws.getD os[j] true:=by rw[UE,Ux xL];rfl
  refine⟨_,ba xL,?_⟩;rw[ew];have b6:5704*(j+1)+1<=114081:=by omega
  have tn:t.den*(bo R ps os[j] (ws.getD os[j] true)).den<2^9000 :=
   UB (bj (UI (Nat.le_of_dvd d0 td) d1) (UI (Nat.le_of_dvd d0 gd) d1)) (Nat.pow_le_pow_right x_ x_)
  refine⟨R,ps,_,_,rfl,hk',hkp,(hS.sz_rb hkp).mono x_,(hS.rb hkp).mono x_,?_⟩;refine⟨t,_,rfl,ht.mono xL,gr.mono x_,tn,?_⟩;have e:R5 (cu R ks) t (bo R ps os[j] (ws.getD os[j] true)::R6 R ps ws (os.drop (j+1)))=R5 (cu R ks) 0 (R6 R ps ws os):=e;rw[As]at e;refine⟨_,_,rfl,hb.mono x_,sr.mono xL,?_⟩
  show if _ then _ else _
  by_cases c1:cu R ks<t+bo R ps os[j] (ws.getD os[j] true)
  . rw[if_pos (decide_eq_true c1)];rw[decide_eq_true c1,Bool.true_or,Bool.not_true,Bool.false_and]at e;refine h4 _ _ ⟨_,ai (ai (ai (ai aO))),?_⟩;rw[<- e]at h;exact h
  rw[if_neg (by rw[decide_eq_false c1];decide)];refine fb (p:=0) (RB.zero.mono x_) (hb.mono x_) ?_;have mb:RB 1544 (0-cu R ks):=(RB.zero.sub hb).mono x_;refine⟨_,_,rfl,sr.mono xL,mb.mono x_,?_⟩
  show if _ then _ else _
  by_cases c2:t+bo R ps os[j] (ws.getD os[j] true)<0-cu R ks
  . rw[if_pos (decide_eq_true c2)];rw[decide_eq_true c2,Bool.or_true,Bool.not_true,Bool.false_and]at e;refine h4 _ _ ⟨_,ai (ai (ai (ai aO))),?_⟩;rw[<- e]at h;exact h
  . rw[if_neg (by rw[decide_eq_false c2];decide)];rw[decide_eq_false c1,decide_eq_false c2,Bool.or_self,Bool.not_false,Bool.true_and]at e;exact h1 _ ⟨_,_,rfl,sr.mono xL,sd,e⟩
 . rintro Z ⟨t,x,rfl,_,_,e⟩;rw[UC,List.drop_length]at e;walk_at "w";rw[<- e]at h;exact⟨_,ai (ai (ai (ai aO))),h⟩
def b7:FS:=λls so=>∃(R:aL)(ps:List Rat)(d:D)(M:Nat),ls=[.d (aP R),.d (.lst (ps.map QS)),.d d]/\d8 R ps/\(0<M/\M<2^1500/\(∀a∈R.asks,a.size.den∣M)/\(∀p∈ps,p.den∣M)) /\
 (∀x y,d=.tup [x,y]->(∀xs,y=.lst xs->xs.length<=99)/\∃ss,x=.lst ss/\ss.length<=99/\∀u∈ss,∀s,se u=some s->RB 4000 s.am/\s.am.den∣M) /\
 ((∀(ss:List D)(ws:List Bool),d=.tup [.lst ss,.lst (ws.map kT)]->ws.length=R.asks.length->xa R 0 ps ss=none->RS (RR R) (RU R (k7 R ps ss))=none->False)->so (.d (.bl false)) ls) /\
 ∀(ss:List D)(ws:List Bool)(os:List Nat),d=.tup [.lst ss,.lst (ws.map kT)]->ws.length=R.asks.length->xa R 0 ps ss=none->RS (RR R) (RU R (k7 R ps ss))=none->os.Perm (RU R (k7 R ps ss))->os.Pairwise (λi j=>RY R i<=RY R j) ->
  so (.d (.bl ((List.range R.asks.length).all (R4 R (k7 R ps ss) (RU R (k7 R ps ss)) ws) && R5 (cu R (RU R (k7 R ps ss))) 0 (R6 R (k7 R ps ss) ws os)))) ls
def iA:W Fl:=(bN (k9 (aD c8 (aq (aj 0) (aq (aj 3) (aq (aj 4) (aq (ax aK (aj 2) (wC (.int 1))) aI))))) (aD gu (aq (aj 0) (aq (aj 3) (aq (aj 4) (aq (ax aK (aj 2) (wC (.int 1))) aI)))))))
def iB:W Fl:=(a5 (QC (aW (ax sW (aD aS (aq (aj 0) (aq (aj 4) aI))) (wC .non))) (bN (wC (.bl false))) cm)
  iA)
def iC:W Fl:=(a5 (bD 4 (bI (aD bR (aq (aj 0) (aq (aj 3) aI)))))
  iB)
def iD:W Fl:=(a5 (M1 (λxt=>(bD 3 (bI (v9 iz xt (aq (aj 0) (aq (aj 1) (aq (ax aK (aj 2) (wC (.int 0))) aI))))))) "NoSlide" (bN (wC (.bl false))))
  iC)
def gv:W Fl:=(a5 (QC (Qz (vI (aW (QB (pk "tuple") (aj 2)))) (Qz (aW (ax xK (bp fh (aq (aj 2) aI)) (wC (.int 2)))) (vI (aW (aD i5 (aq (aj 0) (aq (ax aK (aj 2) (wC (.int 1))) aI))))))) (bN (wC (.bl false))) cm)
  iD)
theorem Ka{n:Nat}{d:D}(h:Hq n d=true):∃ws:List Bool,d=.lst (ws.map kT)/\ws.length=n:=by
 unfold Hq at h
 cases d with
 | lst xs =>
  rw[Bool.and_eq_true,UG]at h;obtain⟨h1,h2⟩:=h;refine⟨xs.map λx=>(mi x).getD true,?_,by rw[UC];exact h1⟩
  congr 1
  rw[List.map_map]
  conv=>lhs;rw[<- List.map_id xs]
  refine List.map_congr_left λx hx=>?_;have:=List.all_eq_true.mp h2 x hx;rw[uI]at this;obtain⟨w,e⟩:=Option.isSome_iff_exists.mp this;show x=kT ((mi x).getD true);rw[e];exact uH e
 |_=>cases h
theorem GJ{n:Nat}{ws:List Bool}(h:ws.length=n):Hq n (.lst (ws.map kT))=true:=by unfold Hq;rw[Bool.and_eq_true,UG,UC];refine⟨h,?_⟩;rw[List.all_map,List.all_eq_true];intro w _;show vk (.str (dA w))=true;rw[uI,qx];rfl
theorem Hy{R:aL}{M:Nat}:∀(ss:List D)(i:Nat)(ps:List Rat),Uc R ps M->(∀u∈ss,∀s,se u=some s->RB 4000 s.am/\s.am.den∣M)->xa R i ps ss=none->Uc R (k7 R ps ss) M
 |[],_,_,h,_,_=>h
 | d::ss,i,ps,h,ha,hb=>by
  unfold xa at hb
  cases e:RV R ps d with
  |false=>rw[e]at hb;cases hb
  | true =>
   rw[e,if_pos rfl]at hb;obtain⟨s,es,hk,hl,e'⟩:=Hn e;have es':se d=some s:=by rw[es];exact qy s
   have st:Ub ps d=RN ps s:=by unfold Ub;rw[es']
   show Uc R (k7 R (Ub ps d) ss) M;rw[st]at hb ⊢;exact Hy ss (i+1) _ (h.slid (DV h.ok hk hl e') (ha d Uz s es').2) (λu hu=>ha u (tu _ hu)) hb
theorem yR{as bs:List D}{x y:D}(e:D.tup [.lst as,x]=.tup [.lst bs,y]):as=bs:=by injection e with e;injection e with e _;injection e
theorem Hz(R:aL)(ks:List Nat):∃os:List Nat,os.Perm ks/\os.Pairwise λi j=>RY R i<=RY R j:=by refine⟨ks.mergeSort λi j=>decide (RY R i<=RY R j),List.mergeSort_perm _ _,?_⟩;have:=List.pairwise_mergeSort (le:=λi j=>decide (RY R i<=RY R j)) (λa b c h1 h2=>by simp only[UG]at *;omega) (λa b=>by simp only[Bool.or_eq_true,UG];omega) ks;exact this.imp λh=>by simpa using h
theorem Oe{k:W Fl}{R:aL}{P d x3 x4:D}{so:Fl->Ev->Prop}(hy:∀x y,d=.tup [x,y]->∀xs,y=.lst xs->xs.length<=99)
  (h1:(∀(x:D)(ws:List Bool),d=.tup [x,.lst (ws.map kT)]->ws.length=R.asks.length->False)->so (.rt (.d (.bl false))) [.d (aP R),.d P,.d d,.un,.un])
  (h2:∀(x:D)(ws:List Bool),d=.tup [x,.lst (ws.map kT)]->ws.length=R.asks.length->k [.d (aP R),.d P,.d d,.un,.un] so) :
  a5 (QC (Qz (vI (aW (QB (pk "tuple") (aj 2)))) (Qz (aW (ax xK (bp fh (aq (aj 2) aI)) (wC (.int 2)))) (vI (aW (aD i5 (aq (aj 0) (aq (ax aK (aj 2) (wC (.int 1))) aI))))))) (bN (wC (.bl false))) cm) k [.d (aP R),.d P,.d d,.un,.un] so:=by
 by_cases ht:∃xs,d=.tup xs
 .
  obtain⟨xs,rfl⟩:=ht;by_cases hl:xs.length=2
  .
   match xs,hl with
   | [x,y],_ =>
    walk_at "w";refine⟨R,y,rfl,hy x y rfl,?_⟩;walk_at "w"
    cases e:Hq R.asks.length y with
    | false =>
     walk_at "w";refine h1 λx' ws ed hw=>?_;cases ed;rw[GJ hw]at e;cases e
    | true =>
     obtain⟨ws,ew,hw⟩:=Ka e;walk_at "w";exact h2 x ws (by rw[ew]) hw
  .
   have hn:¬((xs.length:Int)=2):=by omega
   walk_at "w";rw[if_pos (by simpa using hn)];refine h1 λx' ws ed hw=>?_;cases ed;exact hl rfl
 .
  have ei:mY "tuple" d=false:=by
   cases d<;>first
    |exact absurd ⟨_,rfl⟩ ht
    |rfl
  walk_at "w";rw[ei];walk_at "w";refine h1 λx' ws ed hw=>ht ⟨_,ed⟩
theorem MN{k:W Fl}{R:aL}{ps:List Rat}{ss:List D}{y:D}{M:Nat}{so:Fl->Ev->Prop}(hS:d8 R ps)(h99:ss.length<=99)(ha:∀u∈ss,∀s,se u=some s->RB 4000 s.am/\s.am.den∣M)(hD:0<M/\M<2^1500/\(∀a∈R.asks,a.size.den∣M)/\(∀p∈ps,p.den∣M))
  (h1:xa R 0 ps ss=none->k [.d (aP R),.d (.lst (ps.map QS)),.d (.tup [.lst ss,y]),.d (.lst ((k7 R ps ss).map QS)),.un] so) (h2:∀i,xa R 0 ps ss=some i->so (.rt (.d (.bl false))) [.d (aP R),.d (.lst (ps.map QS)),.d (.tup [.lst ss,y]),.un,.un]) :
  a5 (M1 (λxt=>(bD 3 (bI (v9 iz xt (aq (aj 0) (aq (aj 1) (aq (ax aK (aj 2) (wC (.int 0))) aI))))))) "NoSlide" (bN (wC (.bl false)))) k [.d (aP R),.d (.lst (ps.map QS)),.d (.tup [.lst ss,y]),.un,.un] so:=by
 walk_at "w";refine⟨R,ps,ss,M,rfl,hS,h99,ha,hD,λe a=>?_,λi e=>⟨by rw[beq_self_eq_true,Bool.true_or],h2 i e⟩⟩;walk_at "w";exact h1 e
theorem Kb{k:W Fl}{R:aL}{ps qs:List Rat}{d:D}{so:Fl->Ev->Prop}(hS:d8 R qs)
  (h:k [.d (aP R),.d (.lst (ps.map QS)),.d d,.d (.lst (qs.map QS)),.d (.lst ((RU R qs).map λ(k:Nat)=>D.int (k:Int)))] so) :
  a5 (bD 4 (bI (aD bR (aq (aj 0) (aq (aj 3) aI))))) k [.d (aP R),.d (.lst (ps.map QS)),.d d,.d (.lst (qs.map QS)),.un] so:=by
 walk_at "w";refine⟨R,qs,4000,rfl,hS.ok,hS.len,Hw hS,x_,λa=>?_⟩;walk_at "w";exact h
theorem DZ{R:aL}{qs:List Rat}(hS:d8 R qs):(RU R qs).length<=20/\∀k∈RU R qs,k<R.asks.length:=by refine⟨?_,λk hk=>by rw[<- hS.len];exact(jt hk).1⟩;unfold RU;refine Nat.le_trans (List.length_filter_le _ _) ?_;rw[List.length_range,hS.len];exact hS.ok.few
theorem Kc{k:W Fl}{R:aL}{ps qs:List Rat}{d:D}{so:Fl->Ev->Prop}(hS:d8 R qs)
  (h1:RS (RR R) (RU R qs)=none->k [.d (aP R),.d (.lst (ps.map QS)),.d d,.d (.lst (qs.map QS)),.d (.lst ((RU R qs).map λ(k:Nat)=>D.int (k:Int)))] so)
  (h2:RS (RR R) (RU R qs)≠none->so (.rt (.d (.bl false))) [.d (aP R),.d (.lst (ps.map QS)),.d d,.d (.lst (qs.map QS)),.d (.lst ((RU R qs).map λ(k:Nat)=>D.int (k:Int)))]) :
  a5 (QC (aW (ax sW (aD aS (aq (aj 0) (aq (aj 4) aI))) (wC .non))) (bN (wC (.bl false))) cm) k [.d (aP R),.d (.lst (ps.map QS)),.d d,.d (.lst (qs.map QS)),.d (.lst ((RU R qs).map λ(k:Nat)=>D.int (k:Int)))] so:=by
 walk_at "w";refine⟨R,_,rfl,(DZ hS).1,(DZ hS).2,?_⟩
 cases e:RS (RR R) (RU R qs)with
 | none =>
  unfold yr;walk_at "w";exact h1 e
 | some p =>
  obtain⟨a,b⟩:=p;unfold yr;walk_at "w";exact h2 (by rw[e];exact λz=>nomatch z)
theorem D1{R:aL}{D:Nat}:∀(m i:Nat)(qs:List Rat),Uc R qs D->xa R i qs ((tI R m qs).map RJ)=none/\k7 R qs ((tI R m qs).map RJ)=DA R m qs/\Uc R (DA R m qs) D
 |0,_,_,h=>⟨rfl,rfl,h⟩
 | m+1,i,qs,h=>by
  unfold tI DA
  cases e:Ak R qs with
  |none=>exact⟨rfl,rfl,h⟩
  | some u =>
   obtain⟨h1,h2,_⟩:=uG h.ok e;have ha:=Dz h.ok e h.d0 h.da h.dp;have st:Ub qs (RJ u)=RN qs u:=by unfold Ub;rw[qy]
   obtain⟨r1,r2,r3⟩:=D1 m (i+1) (RN qs u) (h.slid h1 ha);refine⟨?_,?_,r3⟩
   .
    show(if RV R qs (RJ u)then xa R (i+1) (Ub qs (RJ u)) _ else some i)=none
    rw[Hm h1.k h1.l,h2,if_pos rfl,st];exact r1
   . show k7 R (Ub qs (RJ u)) _=_;rw[st];exact r2
theorem HD{R:aL}{D:Nat}:∀(m:Nat)(qs:List Rat),Uc R qs D->∀s∈tI R m qs,RB 4000 s.am/\s.am.den∣D
 |0,_,_,s,hs=>by cases hs
 | m+1,qs,h,s,hs=>by
  unfold tI at hs
  cases e:Ak R qs with
  |none=>rw[e]at hs;cases hs
  | some u =>
   rw[e]at hs;obtain⟨h1,_,_,_,h5,_⟩:=uG h.ok e;have ha:=Dz h.ok e h.d0 h.da h.dp;rcases UK.mp hs with rfl|hs
   . exact⟨h5,ha⟩
   . exact HD m (RN qs u) (h.slid h1 ha) s hs
theorem GK{as bs:List Bool}(h:as.map kT=bs.map kT):as=bs:=by
 have e:∀l:List Bool,(l.map kT).map (λd=>(mi d).getD true)=l:=λl=>by
  rw[List.map_map]
  conv=>rhs;rw[<- List.map_id l]
  exact List.map_congr_left λw _=>by show(mi (.str (dA w))).getD true=w;rw[qx];rfl
 rw[<- e as,<- e bs,h]
theorem GL{x y:D}{as bs:List Bool}(e:D.tup [x,.lst (as.map kT)]=.tup [y,.lst (bs.map kT)]):as=bs:=by injection e with e;injection e with _ e;injection e with e _;injection e with e;exact GK e
theorem Au{R:aL}{ps:List Rat}{ss:List D}{ws:List Bool}{M:Nat}{so:L->List L->Prop}(hD:Uc R ps M)(h99:ss.length<=99)(ha:∀u∈ss,∀s,se u=some s->RB 4000 s.am/\s.am.den∣M)(hw:ws.length=R.asks.length)
  (h0:(xa R 0 ps ss=none->RS (RR R) (RU R (k7 R ps ss))=none->False)->so (.d (.bl false)) [.d (aP R),.d (.lst (ps.map QS)),.d (.tup [.lst ss,.lst (ws.map kT)])])
  (h1:∀os:List Nat,xa R 0 ps ss=none->RS (RR R) (RU R (k7 R ps ss))=none->os.Perm (RU R (k7 R ps ss))->os.Pairwise (λi j=>RY R i<=RY R j) ->
   so (.d (.bl ((List.range R.asks.length).all (R4 R (k7 R ps ss) (RU R (k7 R ps ss)) ws) && R5 (cu R (RU R (k7 R ps ss))) 0 (R6 R (k7 R ps ss) ws os)))) [.d (aP R),.d (.lst (ps.map QS)),.d (.tup [.lst ss,.lst (ws.map kT)])]) :
  b7 [.d (aP R),.d (.lst (ps.map QS)),.d (.tup [.lst ss,.lst (ws.map kT)])] so:=by
 refine⟨R,ps,_,M,rfl,hD.ok,⟨hD.d0,hD.d1,hD.da,hD.dp⟩,λx y e=>?_,λno=>h0 λa b=>no ss ws rfl hw a b,λss' ws' os e hw' hb hc op ow=>?_⟩
 . cases e;have:=hD.ok.ok.few;exact⟨λxs e=>by cases e;rw[UC];omega,ss,rfl,h99,ha⟩
 . obtain rfl:=GL e;obtain rfl:=yR e;exact h1 os hb hc op ow
theorem oE:UR 3 2 b7 gv:=by
 rintro ls so - ⟨R,ps,d,M,rfl,hS,hM,hd,hf,ht⟩;have bk:∀(b:Bool)(x y:L),so (.d (.bl b)) [.d (aP R),.d (.lst (ps.map QS)),.d d]->aR [.d (aP R),.d (.lst (ps.map QS)),.d d] so (.rt (.d (.bl b))) [.d (aP R),.d (.lst (ps.map QS)),.d d,x,y]:=λb x y h=>⟨_,ai (ai (ai aO)),h⟩;unfold gv;refine Oe (x3:=.non) (x4:=.non) (λx y e=>(hd x y e).1) (λno=>bk _ _ _ (hf λss ws e hw _ _=>no _ ws e hw)) λx ws e hw=>?_;subst e;obtain⟨_,ss,rfl,h99,ha⟩:=hd _ _ rfl;unfold iD;refine MN hS h99 ha hM (λhb=>?_) λi hb=>bk _ _ _ (hf λss' ws' e hw' hb' _=>?_)
 .
  have hQ:d8 R (k7 R ps ss):=(Hy ss 0 ps ⟨hS,hM.1,hM.2.1,hM.2.2.1,hM.2.2.2⟩ ha hb).ok;unfold iC;refine Kb hQ ?_;unfold iB;refine Kc hQ (λhc=>?_) λhc=>bk _ _ _ (hf λss' ws' e hw' hb' hc'=>?_)
  .
   unfold iA;walk_at "w";obtain⟨p1,p2⟩:=DZ hQ;refine⟨R,_,_,ws,rfl,hQ.len,hw,p1,hQ.ok.few,?_⟩;have ht:=ht ss ws;generalize k7 R ps ss=qs at *
   cases e:(List.range R.asks.length).all (R4 R qs (RU R qs) ws)with
   | false =>
    walk_at "w";obtain⟨os,op,ow⟩:=Hz R (RU R qs);have:=ht os rfl hw hb hc op ow;rw[e,Bool.false_and]at this;exact bk _ _ _ this
   | true =>
    walk_at "w";refine⟨R,_,_,ws,rfl,hQ,hw,p1,p2,λos op ow=>?_⟩;have:=ht os rfl hw hb hc op ow;rw[e,Bool.true_and]at this;exact bk _ _ _ this
  . obtain rfl:=yR e;exact hc hc'
 . obtain rfl:=yR e;rw[hb]at hb';cases hb'
def gw:FS:=λls so=>∃(R:aL)(ps:List Rat),ls=[.d (aP R),.d (.lst (ps.map QS))]/\d8 R ps /\
 ∀(a:Addr)(os:List Nat),os.Perm (cM R ps)->os.Pairwise (λi j=>RY R i<=RY R j)->so (.own a ((R1 R ps (cu R (cM R ps)) 0 (R3 R ps) os).map kT)) ls
def jw:W Fl:=(a5 (ue 3 (aj 6) (aD dP (aq (aj 0) (aq (aj 6) aI))))
  (a5 (QC (aW (aD dJ (aq (aj 4) (aq (bI (aD i3 (aq (aj 5) (aq (bI (aD fU (aq (aj 0) (aq (aj 1) (aq (aj 6) (aq (dD 3 (vN 3 (aj 6)) (ax aK (aj 3) (aj 6))) aI)))))) aI)))) aI)))) (ue 3 (aj 6) (aD kg (aq (dD 3 (vN 3 (aj 6)) (ax aK (aj 3) (aj 6))) aI))) cm)
  (bD 5 (bI (aD i3 (aq (aj 5) (aq (bI (aD fU (aq (aj 0) (aq (aj 1) (aq (aj 6) (aq (dD 3 (vN 3 (aj 6)) (ax aK (aj 3) (aj 6))) aI)))))) aI)))))))
def jx:W L:=(aD eR (aq (aj 0) (aq (aj 1) aI)))
def ic:W Fl:=(a5 (bD 2 (bI (aD bR (aq (aj 0) (aq (aj 1) aI)))))
  (a5 (bD 3 (jW 2 [] (Lo (ax aK (aj 0) (wC (.int 1))) (aj 1)) (cn [0,1]) g6 jx))
  (a5 (bD 4 (bI (aD bU (aq (aj 0) (aq (aj 2) aI)))))
  (a5 (bD 5 (wC (.tup [(.int 0),(.int 1)])))
  (a5 (p6 (ub (aD cg (aq (aj 0) (aq (aj 2) aI)))) (bu 6) jw)
  (bN (p5 3)))))))
theorem pH:UR 2 5 gw ic:=by
 rintro ls so - ⟨R,ps,rfl,hS,h⟩;have hl:=hS.len;have few:=hS.ok.few;have prb:∀p∈ps,RB 1800 p:=λp hp=>by obtain⟨i,hi,rfl⟩:=List.getElem_of_mem hp;rw[<- bC hi];exact hS.rb hi
 unfold ic;walk_at "w";refine⟨R,ps,1800,rfl,hS.ok,hl,prb,x_,λa0=>?_⟩;walk_at "w";have e:BB (R.asks.map eM) (ps.map QS)=(R.asks.zip ps).map λx=>D.tup [eM x.1,QS x.2]:=by unfold BB;rw[List.zip_map,List.map_map];rfl
 rw[e];refine⟨by rw[UC,List.length_zip];exact Nat.le_trans (show min R.asks.length ps.length<=20 by omega) x_,?_⟩;refine qq (h:=λx=>kT (decide (x.2=x.1.size))) _ _ _ _ (λx hx Q q=>?_) λl m a=>?_
 . unfold jx;walk_at "w";exact⟨_,_,rfl,q⟩
 have hkp:∀k∈cM R ps,k<ps.length:=λk hk=>by unfold cM at hk;simpa using(List.mem_filter.mp hk).1
 have pl:(cM R ps).length<=20:=by unfold cM;refine Nat.le_trans (List.length_filter_le _ _) ?_;rw[List.length_range];omega
 have hkr:∀k∈cM R ps,k<R.asks.length:=λk hk=>by have:=hkp k hk;omega
 refine⟨R,_,rfl,hS.ok,hkr,?_⟩;refine⟨R,_,rfl,pl,hkr,λb os op ow=>?_⟩;walk_at "w";have h:=h a os op ow;have hko:∀k∈os,k<R.asks.length:=λk m=>hkr k (op.mem_iff.mp m);have hol:os.length<=20:=by rw[op.length_eq];exact pl
 have hb:=DY hS.ok hkr;obtain⟨M,d0,d1,da,dp⟩:=hS.cd;have en:(R.asks.zip ps).map (λx=>kT (decide (x.snd=x.fst.size)))=(R3 R ps).map kT:=by unfold R3;rw[List.map_map];rfl
 rw[en];have nl:(R3 R ps).length=R.asks.length:=by unfold R3;rw[UC,List.length_zip];omega
 generalize cu R (cM R ps)=hf at hb h ⊢;refine dE _ (λj Z=>∃(t:Rat)(ws:List Bool)(x:L),Z=[.d (aP R),.d (.lst (ps.map QS)),.d (.lst ((cM R ps).map λ(k:Nat)=>D.int (k:Int))),.own a (ws.map kT),.d (QS hf),.d (QS t),x]/\ws.length=R.asks.length/\RB (5704*j+1) t/\t.den∣M/\R1 R ps hf t ws (os.drop j)=R1 R ps hf 0 (R3 R ps) os) _ ⟨0,_,_,rfl,nl,RB.zero,⟨M,(Nat.one_mul M).symm⟩,rfl⟩ ?_ ?_
 .
  rintro j x Z hj ⟨t,ws,x6,rfl,wl,ht,td,e⟩ Q h1 h2 h3 h4;rw[List.getElem?_map]at hj
  have hj':j<os.length:=by
   rcases Nat.lt_or_ge j os.length with q|q
   . exact q
   . rw[List.getElem?_eq_none q]at hj;exact absurd hj v6
  rw[Ux hj']at hj;cases hj;have hk':=hko _ (UD hj');rw[List.drop_eq_getElem_cons hj']at e;generalize os[j]=k at hk' e ⊢;have hkp:k<ps.length:=by omega
  have gr:=λw=>yP hS hkp w;have gd:=λw=>pU hl d0 da dp hkp w;have sr:=λw=>ht.add (gr w);have sd:=λw=>mf d0 td (gd w);have b6:5704*(j+1)+1<=114081:=by omega
  have tn:∀w,t.den*(bo R ps k w).den<2^9000:=λw =>
   UB (bj (UI (Nat.le_of_dvd d0 td) d1) (UI (Nat.le_of_dvd d0 (gd w)) d1)) (Nat.pow_le_pow_right x_ x_)
  have kl:k<ws.length:=by omega
  have ix:∀{n:Nat},k<n->Qe n (k:Int)=some k:=λ{n} hn=>by unfold Qe;rw[if_pos (by omega),if_pos (by omega),Int.toNat_natCast]
  have st:∀(us:List Bool)(w:Bool),(us.map kT).set k (.str (dA w))=(us.set k w).map kT:=λus w=>by rw[List.map_set];rfl
  have at1:∀(us:List Bool)(w:Bool),k<us.length->Qf ((us.set k w).map kT) (k:Int)=some (kT w):=λus w hu=>by rw[ba (by rw[List.length_set];exact hu),List.getElem_set_self]
  have pls:∀(w:Bool)(so:L->List L->Prop),so (.d (QS (t+bo R ps k w))) [.d (QS t),.d (QS (bo R ps k w))]->i3 [.d (QS t),.d (QS (bo R ps k w))] so:=λw so q=>⟨t,_,rfl,ht.mono xL,(gr w).mono x_,tn w,q⟩;have gns:∀(w:Bool)(so:L->List L->Prop),so (.d (QS (bo R ps k w))) [.d (aP R),.d (.lst (ps.map QS)),.d (.int (k:Int)),.d (kT w)]->fU [.d (aP R),.d (.lst (ps.map QS)),.d (.int (k:Int)),.d (kT w)] so:=λw so q=>⟨R,ps,k,w,rfl,hk',hkp,(hS.sz_rb hkp).mono x_,(hS.rb hkp).mono x_,q⟩;have e:R1 R ps hf (t+bo R ps k (R0 R ps hf t k)) (ws.set k (R0 R ps hf t k)) (os.drop (j+1))=_:=e;unfold jw;walk_at "w";refine⟨R,k,rfl,hk',?_⟩;dsimp only;refine⟨k,ix kl,?_⟩;rw[st];refine⟨_,at1 _ _ kl,gns _ _ (pls _ _ ⟨hf,_,rfl,hb.mono x_,(sr _).mono xL,?_⟩)⟩;dsimp only;by_cases c:hf<t+bo R ps k (si R k)
  . have ew:R0 R ps hf t k=!si R k:=if_pos c;rw[ew]at e;rw[if_pos (decide_eq_true c)];refine⟨_,at1 _ _ kl,_,rfl,?_⟩;dsimp only;refine⟨k,ix (by simpa using kl),?_⟩;rw[st];refine⟨_,at1 _ _ (by simpa using kl),gns _ _ (pls _ _ ?_)⟩;rw[List.set_set];exact h1 _ ⟨_,_,_,rfl,by rw[List.length_set];exact wl,(sr _).mono xL,sd _,e⟩
  . have ew:R0 R ps hf t k=si R k:=if_neg c;rw[ew]at e;rw[if_neg (by rw[decide_eq_false c];decide)];refine⟨_,at1 _ _ kl,gns _ _ (pls _ _ ?_)⟩;exact h1 _ ⟨_,_,_,rfl,by rw[List.length_set];exact wl,(sr _).mono xL,sd _,e⟩
 . rintro Z ⟨t,ws,x,rfl,_,_,_,e⟩;rw[UC,List.drop_length]at e;have e:ws=_:=e;walk_at "w";rw[<- e]at h;exact⟨_,ai (ai aO),h⟩
def ie:FS:=λls so=>∃(R:aL)(ps:List Rat),ls=[.d (aP R),.d (.lst (ps.map QS))]/\d8 R ps /\
 ∀(a b:Addr)(os:List Nat),os.Perm (cM R (DA R 20 ps))->os.Pairwise (λi j=>RY R i<=RY R j) ->
  so (.bx none [.own a ((tI R 20 ps).map RJ),.own b ((R1 R (DA R 20 ps) (cu R (cM R (DA R 20 ps))) 0 (R3 R (DA R 20 ps)) os).map kT)]) ls
def jc:W Fl:=(a5 (bD 2 (aD i9 (aq (aj 0) (aq (aj 1) aI))))
  (bN (Js 2 (xv 2 (aq (aD gw (aq (aj 0) (aq (bI (vY 2 (zS iz (λ_=>False) (aq (aj 0) (aq (aj 1) (aq (aj 2) aI)))))) aI))) aI)))))
theorem rE:UR 2 1 ie jc:=by
 rintro ls so - ⟨R,ps,rfl,hS,h⟩;obtain⟨M,d0,d1,da,dp⟩:=hS.cd;have hD:Uc R ps M:=⟨hS,d0,d1,da,dp⟩;obtain⟨r1,r2,r3⟩:=D1 20 0 ps hD;unfold jc;walk_at "w";refine⟨R,ps,rfl,hS,λa=>?_⟩;walk_at "w";have len:((tI R 20 ps).map RJ).length<=99:=by rw[UC];refine Nat.le_trans (Du 20 ps hS) (Nat.le_trans (List.length_filter_le _ _) ?_);rw[List.length_range,hS.len];exact Nat.le_trans hS.ok.few x_
 refine⟨R,ps,_,M,rfl,hS,len,λd hd s es=>?_,⟨d0,d1,da,dp⟩,λ_ b=>?_,λi hi=>?_⟩
 . obtain⟨u,hu,rfl⟩:=List.mem_map.mp hd;rw[qy]at es;cases es;exact HD 20 ps hD _ hu
 . rw[r2];refine⟨by walk_at "w",?_⟩;refine⟨R,DA R 20 ps,rfl,r3.ok,λc os op ow=>?_⟩;exact⟨x_,⟨_,_,rfl⟩,_,ai (ai aO),h a c os op ow⟩
 . rw[r1]at hi;cases hi
noncomputable def xc(R:aL)(ps:List Rat)(ws:List Bool)(t:Nat):Rat:=iV R.n R.asks (lG R.asks ws) t-iV R.n R.asks ps t
def mL:FS:=λls so=>∃(R:aL)(ps:List Rat)(ws:List Bool),ls=[.d (aP R),.d (.lst (ps.map QS)),.d (.lst (ws.map λw=>D.str (dA w)))]/\d8 R ps/\ws.length=R.asks.length/\∀a,so (.own a (Rv R.n (xc R ps ws))) ls
def o5:W L:=(aD cT (aq (aj 0) (aq (aj 1) aI)))
def oF:W Fl:=(a5 (bD 3 (bI (aD i4 (aq (aj 0) (aq (bI (aD oA (aq (aj 0) (aq (aj 2) aI)))) aI)))))
  (bN (jW 2 [] (Lo (aj 3) (aD i4 (aq (aj 0) (aq (aj 1) aI)))) (cn [0,1]) g6 o5)))
theorem MO{R:aL}{ws:List Bool}(h:ws.length=R.asks.length){k:Nat}(hk:k<R.asks.length):(lG R.asks ws).getD k 0=if ws.getD k true then R.sz k else 0:=by unfold lG;rw[UE,List.getElem?_map,Ux (by rw[List.length_zip];omega),List.getElem_zip,jE hk,UE,Ux (show k<ws.length by omega)];rfl
theorem D2{R:aL}{ws:List Bool}(h:ws.length=R.asks.length):(lG R.asks ws).length=R.asks.length:=by unfold lG;rw[UC,List.length_zip];omega
theorem Of{R:aL}{qs:List Rat}{ws:List Bool}(hS:d8 R qs)(h:ws.length=R.asks.length):d8 R (lG R.asks ws):=by
 obtain⟨D,d0,d1,da,dp⟩:=hS.cd;refine⟨hS.ok,D2 h,λk hk=>?_,D,d0,d1,da,λp hp=>?_⟩
 .
  rw[D2 h]at hk;rw[MO h hk];have:=hS.lo k (by rw[hS.len];exact hk);have s0:=Rat.le_trans this.1 this.2;split
  . exact⟨s0,Rat.le_refl⟩
  . exact⟨Rat.le_refl,s0⟩
 .
  unfold lG at hp;obtain⟨x,hx,rfl⟩:=List.mem_map.mp hp;have:=da x.1 (List.of_mem_zip hx).1;split
  . exact this
  . exact Nat.one_dvd _
theorem Og{R:aL}{qs:List Rat}(h:d8 R qs):LB R qs:=by
 obtain⟨N,d0,d1,da,dp⟩:=h.cd;have hl:=h.len
 have st:∀(k:Nat)(h1:k<R.asks.length)(h2:k<qs.length)(t:Nat),RB 4100 (pS R.n R.asks[k] qs[k] t)/\(pS R.n R.asks[k] qs[k] t).den∣N:=λk h1 h2 t=>by
  have a:=h.rb h2;have b:=h.sz_rb h2;rw[bC h2]at a;rw[jE h1]at b;unfold pS;split
  . exact⟨a.mono x_,dp _ (UD h2)⟩
  . exact⟨(b.sub a).mono x_,mh d0 (da _ (UD h1)) (dp _ (UD h2))⟩
 refine⟨λp hp=>?_,λk t=>((JT h).1 k t).mono x_,λk h1 h2 t=>(st k h1 h2 t).1,λt=>.inr ⟨N,d0,UB d1 (Nat.pow_le_pow_right x_ x_),λq hq=>?_⟩⟩
 . obtain⟨k,hk,rfl⟩:=List.getElem_of_mem hp;rw[<- bC hk];exact(h.rb hk).mono x_
 . obtain⟨x,hx,rfl⟩:=List.mem_map.mp hq;obtain⟨k,hk,rfl⟩:=List.getElem_of_mem hx;rw[List.length_zip]at hk;rw[List.getElem_zip];exact(st k xL xL t).2
theorem xf:UR 3 1 mL oF:=by
 rintro ls so - ⟨R,ps,ws,rfl,hS,hw,h⟩;have hR:=hS.ok;have hhi:=hR.hi;have hfew:=hR.few;have hW:=Of hS hw;have lb:∀{qs:List Rat},d8 R qs->LB R qs:=λ{qs} h=>Og h;unfold oF;walk_at "w";refine⟨R,ws,rfl,hfew,hw,λa1=>?_⟩;refine⟨R,_,rfl,hR,hW.len,lb hW,λa2=>?_⟩;walk_at "w";refine⟨R,ps,rfl,hR,hS.len,lb hS,λa3=>?_⟩;walk_at "w";rw[JM];refine⟨by rw[UC,List.length_range];exact Nat.le_trans hhi x_,?_⟩;have hf:=(JT hS).2;have hg:=(JT hW).2;refine qq (h:=λt=>QS (xc R ps ws t)) _ _ _ _ (λt ht Q q=>?_) λl' m' a=>?_
 . unfold o5;walk_at "w";refine fb ((hg t).mono x_) ((hf t).mono xL) ?_;walk_at "w";exact q
 . walk_at "w";exact⟨_,ai (ai (ai aO)),h a⟩
def dQ:FS:=λls so=>∃(ns:List Int)(k:Int),ls=[.d (.lst (ns.map .int)),.d (.int k)]/\0<=k/\k<=100/\∀a xs,BC xs->so (.own a xs) ls
def ku:W Fl:=(a5 (bD 2 (wC (.int 0)))
  (a5 (QC (aW (ax vi (aj 1) (bp fh (aq (aj 0) aI)))) (bD 2 (ax aK (aj 0) (aj 1))) cm)
  (bN (r6 (aq (aj 2) (aq (ax jS (ax fP (ax fP (ax jS (aj 2) (wC (.int 2147483587))) (ax bF (ax bF (wC (.int 48271)) (aj 1)) (aj 1))) (wC (.int 13))) (wC (.int 2147483587))) (aq (ax K9 (aj 2) (ax AO (wC (.int 10)) (wC (.int 18)))) aI)))))))
theorem sE:UR 2 1 dQ ku:=by
 rintro ls so - ⟨ns,k,rfl,h0,h1,h⟩;unfold ku
 have PR:∀(c:Int)(Z:Ev)(e:Z=[.d (.lst (ns.map .int)),.d (.int k),.d (.int c)]),∀a:Addr,aR [.d (.lst (ns.map .int)),.d (.int k)] so (.rt (.own a [.int c,.int ((c.fmod 2147483587+48271*k*k+13).fmod 2147483587),.bl (decide ((10:Int)^18<=c))])) Z:=λc Z e a=>by
  refine⟨_,ai (ai aO),h a _ ⟨_,_,_,rfl,?_,?_⟩⟩
  . rw[Int.fmod_eq_emod_of_nonneg _ x_];exact Int.emod_nonneg _ x_
  . rw[Int.fmod_eq_emod_of_nonneg _ x_];have:=Int.emod_lt_of_pos (c.fmod 2147483587+48271*k*k+13) (b:=2147483587) x_;omega
 have hb1:cQ 48271:=bK x_;have hb2:cQ k:=bK (UI (show k.natAbs<=100 by omega) x_);have hb3:cQ (48271*k):=bK (UI (show(48271*k).natAbs<=4827100 by omega) x_);walk_at "w"
 try rw[UC]
 split
 .
  rename_i hk;have hk:k<(ns.length:Int):=by simpa using hk
  have hi:k.toNat<ns.length:=by omega
  refine⟨.int ns[k.toNat],Mf h0 (by rw[List.getElem?_map,Ux hi];rfl),?_⟩;exact⟨x_,hb1,hb2,hb3,hb2,x_,x_,x_,x_,x_,PR _ _ rfl⟩
 . exact⟨x_,hb1,hb2,hb3,hb2,x_,x_,x_,x_,x_,PR _ _ rfl⟩
def bc:FS:=λls so=>∃(a:Addr)(xs:List D)(m:Int),ls=[.own a xs,.d (.int m)]/\BC xs/\0<m/\m<=10^60/\∀(r:Int)(ys:List D),BC ys->0<=r->r<m->so (.d (.int r)) [.own a ys,.d (.int m)]
def jd:W Fl:=(a5 (ue 0 (wC (.int 1)) (ax jS (ax fP (ax bF (dD 0 (vN 0 (wC (.int 1))) (ax aK (aj 0) (wC (.int 1)))) (wC (.int 39373))) (wC (.int 17))) (wC (.int 2147483647))))
  (bD 3 (bI (ax fP (ax bF (aj 3) (wC (.int 2147483629))) (ax jS (ax bF (dD 0 (vN 0 (wC (.int 1))) (ax aK (aj 0) (wC (.int 1)))) (dD 0 (vN 0 (wC (.int 1))) (ax aK (aj 0) (wC (.int 1))))) (wC (.int 2147483629)))))))
def mM:W Fl:=(a5 (QC (aW (dD 0 (vN 0 (wC (.int 2))) (ax aK (aj 0) (wC (.int 2))))) (a5 (bD 2 (ax jS (dD 0 (vN 0 (wC (.int 0))) (ax aK (aj 0) (wC (.int 0)))) (aj 1)))
  (a5 (ue 0 (wC (.int 0)) (ax uc (dD 0 (vN 0 (wC (.int 0))) (ax aK (aj 0) (wC (.int 0)))) (aj 1)))
  (a5 (ue 0 (wC (.int 2)) (ax Kq (dD 0 (vN 0 (wC (.int 0))) (ax aK (aj 0) (wC (.int 0)))) (wC (.int 0))))
  (bN (p5 2))))) cm)
  (a5 (bD 3 (wC (.int 0)))
  (a5 (p6 (r9 (ax fP (wC (.int 1)) (ax bF (wC (.int 8)) (bp AS (aq (ax Kq (aj 1) (ax AO (wC (.int 10)) (wC (.int 6)))) aI))))) (bu 4) jd)
  (bN (ax jS (ax uc (aj 3) (wC (.int 64))) (aj 1))))))
theorem xg{a:Addr}{c:Int}{m x2:L}{so:Fl->Ev->Prop}:∀(items:List D)(sd dr:Int)(j:Nat)(x4:L),j+items.length<=100->0<=sd->sd<2147483647->0<=dr->dr<2^(40*j) ->
  (∀sd' dr' x',0<=sd'->sd' < 2147483647->0<=dr'->so .nx [.own a [.int c,.int sd',.bl false],m,x2,.d (.int dr'),x']) ->
  d6 (bu 4) jd items [.own a [.int c,.int sd,.bl false],m,x2,.d (.int dr),x4] so
 |[],sd,dr,j,x4,_,h0,h1,h2,h3,h=>h sd dr x4 h0 h1 h2
 | y::items,sd,dr,j,x4,hl,h0,h1,h2,h3,h=>by
  unfold d6 jd;walk_at "w";obtain⟨r0,r1⟩:=ng (sd*39373+17) (m:=2147483647) x_;generalize (sd*39373+17).fmod 2147483647=s' at r0 r1 ⊢;obtain⟨q0,q1⟩:=ng (s'*s') (m:=2147483629) x_;generalize (s'*s').fmod 2147483629=t' at q0 q1 ⊢;have hl':j+(items.length+1)<=100:=hl;have b1:cQ sd:=yc (n:=40) h0 xL x_;have b2:cQ s':=yc (n:=40) r0 xL x_;have b3:cQ dr:=yc (n:=40*j) h2 h3 xL;have b4:cQ 39373:=bK x_;have b5:cQ 2147483629:=bK x_;refine⟨b1,b4,x_,b3,b5,b2,b2,x_,?_⟩;refine xg items s' (dr*2147483629+t') (j+1) _ xL r0 r1 xL ?_ h;have e:(2:Int)^(40*(j+1))=2^(40*j)*1099511627776:=by rw[Nat.mul_succ,Int.pow_add];rfl
  omega
theorem u5:UR 2 3 bc mM:=by
 rintro ls so - ⟨a,xs,m,rfl,⟨c,sd,t,rfl,h0,h1⟩,hm,hM,h⟩;unfold mM;have hm0:m≠0:=by omega
 have hmz:=wj xL hM
 cases t with
 | true =>
  walk_at "w";obtain⟨r0,r1⟩:=ng c hm;exact⟨hm0,hm0,hmz,_,t9 Uz (ai aO),h _ _ ⟨_,_,_,rfl,h0,h1⟩ r0 r1⟩
 | false =>
  walk_at "w";refine⟨x_,x_,x_,bK x_,bK (by split<;>decide),⟨by split<;>decide,by split<;>decide⟩,?_⟩;refine xg (c:=c) _ sd 0 0 _ (by simp only[rW,UC,List.length_range];split<;>decide) h0 h1 x_ x_ λsd' dr' x' g0 g1 g2=>?_;walk_at "w";obtain⟨r0,r1⟩:=ng (dr'.fdiv 64) hm;exact⟨x_,x_,hm0,_,t9 Uz (ai aO),h _ _ ⟨_,_,_,rfl,g0,g1⟩ r0 r1⟩
def cB:FS:=λls so=>∃t b:Int,ls=[.d (.int t),.d (.int b)]/\b≠0/\b.natAbs<2^9000/\so (.d (QS (Rat.divInt t b))) ls
def o7:W Fl:=(Nm 2 3 (ax jS (aj 3) (aj 2)) (aj 2))
def oG:W Fl:=(a5 (bD 2 (bI (bp xN (aq (aj 0) aI))))
  (a5 (bD 3 (bI (bp xN (aq (aj 1) aI))))
  (a5 (zr (aW (ax xK (aj 2) (wC (.int 0)))) o7)
  (a5 (QC (aW (ax vi (aj 1) (wC (.int 0)))) (bD 3 (ax ph (wC (.int 0)) (aj 3))) cm)
  (bN (nJ (aq (ax uc (aj 0) (aj 3)) (aq (ax uc (aj 1) (aj 3)) aI))))))))
theorem xh:UR 2 2 cB oG:=by
 rintro ls so - ⟨t,b,rfl,hb,hz,h⟩;unfold oG;walk_at "w";have h1:=zE (t:=t) hb;have h2:=UI (zF (t:=t) hb) hz
 have PR:∀{g:Int}{Z:Ev},g=cJ t b->g≠0/\g.natAbs<2^9000/\g≠0/\g.natAbs<2^9000/\2<=sizeLine/\aR [.d (.int t),.d (.int b)] so (.rt (.d (.tup [.int (t.fdiv g),.int (b.fdiv g)]))) Z:=λ{g Z} e=>by
  have e1:g≠0:=by rw[e];exact h1
  have e2:g.natAbs<2^9000:=by rw[e];exact h2
  refine⟨e1,e2,e1,e2,x_,_,ai (ai aO),?_⟩;rw[zX hb e];exact h
 refine⟨λn Z=>∃x y:Int,Z=[.d (.int t),.d (.int b),.d (.int x),.d (.int y)]/\0<=x/\0<=y/\Int.gcd x y=Int.gcd t b/\n=x.natAbs,⟨_,_,_,rfl,by split<;>omega,by split<;>omega,?_,rfl⟩,?_⟩
 .
  have e1:(if t<0 then -t else t)=(t.natAbs:Int):=by split<;>omega
  have e2:(if b<0 then -b else b)=(b.natAbs:Int):=by split<;>omega
  rw[e1,e2];simp[Int.gcd]
 .
  rintro n Z ⟨x,y,rfl,x0,y0,hg,rfl⟩;unfold o7;walk_at "w";split
  .
   rename_i hx;have hx:x≠0:=by simpa using hx
   refine⟨hx,_,lB y hx,_,_,rfl,(ng y xL).1,x0,?_,rfl⟩;rw[Int.gcd_comm,zC,Int.gcd_comm];exact hg
  .
   rename_i hx;have hx:x=0:=by simpa using hx
   subst hx;have hy:y=(Int.gcd t b:Int):=by rw[<- hg,Int.gcd_zero_left];omega
   split
   . rename_i hlt;exact PR (by simp[cJ,hlt,hy])
   . rename_i hlt;exact PR (by simp[cJ,hlt,hy])
def ig:FS:=λls so=>∃(a:Addr)(xs:List D)(least kind:Int),ls=[.own a xs,.d (.int least),.d (.int kind)]/\BC xs/\0<=least/\least<=1/\0<=kind/\kind<5 /\
 ∀(q:Rat)(ys:List D),BC ys->0<=q->(least=1->0<q)->RB 60 q->so (.d (QS q)) [.own a ys,.d (.int least),.d (.int kind)]
def kx:W Fl:=(bN (aD cB (aq (aj 4) (aq (aj 3) aI))))
def ky:W Fl:=(a5 (bD 4 (bI (ax fP (aj 1) (fV bc 0 0 (xv 0 (aq (ax aK (r6 (aq (wC (.int 3)) (aq (wC (.int 10)) (aq (wC (.int 10)) (aq (wC (.int 40)) (aq (ax AO (wC (.int 10)) (wC (.int 12))) aI)))))) (aj 2)) aI))))))
  kx)
def je:W Fl:=(a5 (bD 3 (bI (ax fP (wC (.int 1)) (fV bc 0 0 (xv 0 (aq (ax aK (r6 (aq (wC (.int 1)) (aq (wC (.int 1)) (aq (wC (.int 4)) (aq (wC (.int 12)) (aq (wC (.int 12)) aI)))))) (aj 2)) aI))))))
  ky)
theorem rF{t b:Int}(h0:0<=t)(h1:t<2^59)(h2:0<b)(h3:b<2^59):0<=Rat.divInt t b/\(0<t->0<Rat.divInt t b)/\RB 60 (Rat.divInt t b):=by
 have e:=Rat.divInt_nonneg (a:=t) (b:=b) h0 xL;refine⟨e,λht=>?_,RB.of_divInt xL ?_ ?_⟩
 .
  refine Rat.lt_of_le_of_ne e λz=>?_;have:Rat.divInt 0 1=Rat.divInt t b:=by rw[<- z];rfl
  rw[Rat.divInt_eq_divInt_iff x_ xL]at this;omega
 .
  have:(2:Int)^59=((2^59:Nat):Int):=by decide
  have:(2:Nat)^59<2^60:=by decide
  omega
 .
  have:(2:Int)^59=((2^59:Nat):Int):=by decide
  have:(2:Nat)^59<2^60:=by decide
  omega
theorem Oh{k:Int}(h0:0<=k)(h1:k<5):∃m:Int,Qf [D.int 1,.int 1,.int 4,.int 12,.int 12] k=some (.int m)/\1<=m/\m<=12:=by
 obtain rfl|rfl|rfl|rfl|rfl:k=0∨k=1∨k=2∨k=3∨k=4:=by omega
 all_goals exact⟨_,rfl,x_,x_⟩
theorem Oi{k:Int}(h0:0<=k)(h1:k<5):∃m:Int,Qf [D.int 3,.int 10,.int 10,.int 40,.int (10^12)] k=some (.int m)/\1<=m/\m<=10^12:=by
 obtain rfl|rfl|rfl|rfl|rfl:k=0∨k=1∨k=2∨k=3∨k=4:=by omega
 all_goals exact⟨_,rfl,x_,x_⟩
theorem rG:UR 3 2 ig je:=by rintro ls so - ⟨a,xs,least,kind,rfl,hx,l0,l1,k0,k1,h⟩;obtain⟨m1,e1,m10,m11⟩:=Oh k0 k1;obtain⟨m2,e2,m20,m21⟩:=Oi k0 k1;unfold je;walk_at "w";refine⟨x_,λ_=>⟨_,e1,a,xs,m1,rfl,hx,xL,xL,λr ys hy r0 r1=>⟨ys,rfl,?_⟩⟩⟩;unfold ky;walk_at "w";refine⟨x_,x_,x_,x_,λ_=>⟨_,e2,a,ys,m2,rfl,hy,xL,xL,λs zs hz s0 s1=>⟨zs,rfl,?_⟩⟩⟩;unfold kx;walk_at "w";obtain⟨a1,a2,a3⟩:=rF (t:=least+s) (b:=1+r) xL xL xL xL;exact⟨_,_,rfl,xL,wj xL xL,_,t9 v6 (ai (ai aO)),h _ zs hz a1 (λe=>a2 xL) a3⟩
def jf:FS:=λls so=>∃ns:List Int,ls=[.d (.lst (ns.map .int))]/\∀(R:aL)(h:Nat),oX R h->so (.d (.tup [.lst (R.rooms.map QS),.lst (R.asks.map eM),.int (h:Int)])) ls
def lI:W L:=(nJ (aq (aj 0) (aq (aj 1) (aq (aj 2) (aq (ax aK (dD 4 (vN 4 (wC (.int 0))) (ax aK (aj 4) (wC (.int 0)))) (wC (.int 3))) aI)))))
def eT:W Fl:=(bN (nJ (aq (bI (Ny (r6 (aq (nJ (aq (wC (.int 1)) (aq (wC (.int 1)) aI))) aI)) (aj 3))) (aq (aj 8) (aq (aj 2) aI)))))
def eH:W Fl:=(vJ (IH 8 (nJ (aq (ax aK (wC (.str "abcde")) (aj 9)) (aq (dD 11 (vN 11 (wC (.int 0))) (ax aK (aj 11) (wC (.int 0)))) (aq (dD 11 (vN 11 (wC (.int 1))) (ax aK (aj 11) (wC (.int 1)))) (aq (bI (fV ig 0 6 (xv 6 (aq (wC (.int 1)) (aq (aj 7) aI))))) aI)))))))
def iE:W Fl:=(a5 (QC (aW (ax sU (fV bc 0 1 (xv 1 (aq (wC (.int 2)) aI))) (wC (.int 1)))) (vJ (Jk 11)) cm)
  eH)
def iF:W Fl:=(a5 (bD 11 (r6 (aq (aj 10) (aq (bI (ax fP (aj 10) (aj 2))) aI))))
  iE)
def lJ:W Fl:=(a5 (bD 10 (bI (CT 5 (fV bc 0 1 (xv 1 (aq (bI (dD 5 (II 5) (bp fh (aq (aj 5) aI)))) aI))))))
  iF)
def lK:W Fl:=(a5 (QC (aW (ax sU (fV bc 0 1 (xv 1 (aq (wC (.int 3)) aI))) (wC (.int 0)))) (bD 8 (jW 4 [8] (ub (aj 8)) (cn [0,1,2,3]) g6 lI)) cm)
  eT)
def lL:W Fl:=(a5 (p6 (r9 (aj 4)) (bu 9) lJ)
  lK)
def lM:W Fl:=(a5 (bD 8 (r6 aI))
  lL)
def lN:W Fl:=(a5 (bD 7 (bI (fV bc 0 1 (xv 1 (aq (wC (.int 5)) aI)))))
  lM)
def lO:W Fl:=(a5 (bD 6 (aD dQ (aq (aj 0) (aq (wC (.int 1)) aI))))
  lN)
def lP:W Fl:=(a5 (bD 5 (CQ (aj 2)))
  lO)
def lQ:W Fl:=(a5 (bD 4 (bI (ax fP (wC (.int 1)) (fV bc 0 1 (xv 1 (aq (aj 2) aI))))))
  lP)
def lR:W Fl:=(a5 (bD 3 (bI (ax fP (ax bF (wC (.int 2)) (aj 2)) (fV bc 0 1 (xv 1 (aq (wC (.int 2)) aI))))))
  lQ)
def lS:W Fl:=(a5 (bD 2 (bI (ax fP (wC (.int 2)) (fV bc 0 1 (xv 1 (aq (wC (.int 4)) aI))))))
  lR)
def kB:W Fl:=(a5 (bD 1 (aD dQ (aq (aj 0) (aq (wC (.int 0)) aI))))
  lS)
theorem Pl:∀ k:Fin 5,("abcde" : Str).cps.toList[k.val]?=some (97+k.val):=by decide +kernel
theorem Ud{k:Nat}(h:k<5):PyData.strOk ⟨#[97+k]⟩=true:=by unfold PyData.strOk;simp;omega
structure MP (n h:Nat) (b:Ru):Prop where
 ok:nY n b
 rb:RB 60 b.size
 pos:0<b.size
 ends:eh b<h/\eZ b=eh b+h
theorem tO{α β:Type}(f:α->β):∀(xs:List α)(k:Nat),(xs.map f).eraseIdx k=(xs.eraseIdx k).map f
 |[],_=>by simp
 |x::xs,0=>rfl
 | x::xs,k+1=>by show f x::(xs.map f).eraseIdx k=f x::(xs.eraseIdx k).map f;rw[tO f xs k]
theorem tP{α:Type}:∀(xs:List α)(k:Nat)(h:k<xs.length),(xs[k]::xs.eraseIdx k).Perm xs
 |x::xs,0,_=>List.Perm.refl _
 |x::xs,k+1,h=>(List.Perm.swap x _ _).trans ((tP xs k (by simpa using h)).cons x)
theorem HE{S:D}{a b c d e:Addr}{n h:Nat}{x3 x4 x10:L}{ys us:List D}{as:List Ru}{lf:List D}{kd:Int}{j p o:Nat}{Q:Fl->Ev->Prop}(hu:BC us)(k0:0<=kd)(k1:kd<5)(hj:j<5)(hal:as.length=j)(hp:p<n)(ho:o<n)(hpo:p≠o)
  (hh:∀(A:Ru)(u2:List D),BC u2->A.one=p->A.other=o->nY n A->RB 60 A.size->0<A.size->Q .nx [.d S,.own a ys,.d (.int (h:Int)),x3,x4,.own d lf,.own b u2,.d (.int kd),.own c ((as++[A]).map eM),.d (.int (j:Int)),x10,.own e [.int (p:Int),.int (o:Int)]]) :
  eH [.d S,.own a ys,.d (.int (h:Int)),x3,x4,.own d lf,.own b us,.d (.int kd),.own c (as.map eM),.d (.int (j:Int)),x10,.own e [.int (p:Int),.int (o:Int)]] Q:=by
 unfold eH;walk_at "w";refine⟨y_,_,iP (Pl ⟨j,hj⟩),?_⟩;walk_at "w";refine⟨b,us,1,kd,rfl,hu,x_,x_,k0,k1,λq u2 hu2 q0 q1 qb=>⟨u2,rfl,?_⟩⟩;walk_at "w";refine⟨x_,UI (show as.length<=20 by omega) x_,?_⟩;have:=hh ⟨⟨#[97+j]⟩,p,o,q⟩ u2 hu2 rfl rfl ⟨hp,ho,hpo,q0,Gc qb,Ud hj⟩ qb (q1 rfl);rw[List.map_append]at this;exact this
theorem sG:UR 1 11 jf kB:=by
 rintro ls so - ⟨ns,rfl,h⟩;unfold kB;walk_at "w";refine⟨ns,0,rfl,x_,x_,λa xs hx=>?_⟩;walk_at "w";unfold lS;walk_at "w";refine⟨a,xs,4,rfl,hx,x_,x_,λr0 x1 hx1 r00 r01=>⟨x1,rfl,?_⟩⟩;obtain⟨r0,rfl⟩:=Int.eq_ofNat_of_zero_le r00;walk_at "w";rw[show(2:Int)+(r0:Int)=((2+r0:Nat):Int) by omega];have hh2:2<=2+r0:=by omega
 have hh5:2+r0<=5:=by omega
 generalize 2+r0=hf at hh2 hh5;unfold lR;walk_at "w";refine⟨bK x_,bK (by rw[Int.natAbs_natCast];exact UI hh5 x_),a,x1,2,rfl,hx1,x_,x_,λr1 x2 hx2 r10 r11=>⟨x2,rfl,?_⟩⟩;obtain⟨r1,rfl⟩:=Int.eq_ofNat_of_zero_le r10;walk_at "w";rw[show(2:Int)*(hf:Int)+(r1:Int)=((2*hf+r1:Nat):Int) by omega];have hn1:2*hf<=2*hf+r1:=by omega
 have hn2:2*hf+r1<=11:=by omega
 generalize 2*hf+r1=n at hn1 hn2;unfold lQ;walk_at "w";refine⟨a,x2,(hf:Int),rfl,hx2,xL,xL,λr2 x3 hx3 r20 r21=>⟨x3,rfl,?_⟩⟩;obtain⟨r2,rfl⟩:=Int.eq_ofNat_of_zero_le r20;walk_at "w";rw[show(1:Int)+(r2:Int)=((1+r2:Nat):Int) by omega];have hm1:1<=1+r2:=by omega
 have hm2:1+r2<=hf:=by omega
 generalize 1+r2=many at hm1 hm2;unfold lP;walk_at "w";refine⟨by unfold pB;omega,λd=>?_⟩;rw[Int.toNat_natCast,m9];unfold lO;walk_at "w";refine⟨ns,1,rfl,x_,x_,λb zs hz=>?_⟩;walk_at "w";unfold lN;walk_at "w";refine⟨a,x3,5,rfl,hx3,x_,x_,λkd x4 hx4 k0 k1=>⟨x4,rfl,?_⟩⟩;walk_at "w";unfold lM;walk_at "w";refine⟨x_,λc=>?_⟩;unfold lL;walk_at "w";refine⟨⟨xL,xL⟩,?_⟩;rw[Int.toNat_natCast];refine qr many (λj Z=>∃(ys us:List D)(as:List Ru)(lf:List Nat)(x9 x10 x11:L),Z=[.d (.lst (ns.map .int)),.own a ys,.d (.int (hf:Int)),.d (.int (n:Int)),.d (.int (many:Int)),.own d (lf.map λ(i:Nat)=>D.int (i:Int)),.own b us,.d (.int kd),.own c (as.map eM),x9,x10,x11]/\BC ys/\BC us/\as.length=j/\(as.map eh++lf).Perm (List.range hf)/\∀b∈as,MP n hf b) _ ⟨x4,zs,[],List.range hf,_,_,_,rfl,hx4,hz,rfl,List.Perm.refl _,v6⟩ ?_ ?_
 .
  rintro j Z hj ⟨ys,us,as,lf,x9,x10,x11,rfl,hy,hu,hal,hpm,ha⟩ Q h1 h2 h3 h4;have hlf:lf.length+j=hf:=by have:=hpm.length_eq;rw[List.length_append,UC,List.length_range]at this;omega
  unfold lJ;walk_at "w";unfold CT;walk_at "w";refine⟨a,ys,(lf.length:Int),rfl,hy,xL,xL,λq y1 hy1 q0 q1=>⟨y1,rfl,?_⟩⟩;obtain⟨q',rfl⟩:=Int.eq_ofNat_of_zero_le q0;have hq:q' < lf.length:=by omega
  have hpq:lf[q']<hf:=List.mem_range.mp (hpm.mem_iff.mp (List.mem_append_right _ (UD hq)));walk_at "w";refine⟨q',D.int (lf[q']:Int),rfl,xL,by rw[List.getElem?_map,Ux hq];rfl,?_⟩;unfold iF;walk_at "w";refine⟨x_,λe=>?_⟩;unfold iE;walk_at "w";refine⟨a,y1,2,rfl,hy1,x_,x_,λw y2 hy2 w0 w1=>⟨y2,rfl,?_⟩⟩;walk_at "w";rw[show(lf[q']:Int)+(hf:Int)=((lf[q']+hf:Nat):Int) by omega,tO]
  have nx:∀(A:Ru)(u2:List D)(x9 x10 x11:L),BC u2->eh A=lf[q']->MP n hf A->Q .nx [.d (.lst (ns.map .int)),.own a y2,.d (.int (hf:Int)),.d (.int (n:Int)),.d (.int (many:Int)),.own d ((lf.eraseIdx q').map λ(i:Nat)=>D.int (i:Int)),.own b u2,.d (.int kd),.own c ((as++[A]).map eM),x9,x10,x11]:=λA u2 x9 x10 x11 hu2 hlo hA=>by
   refine h1 _ ⟨y2,u2,as++[A],lf.eraseIdx q',_,_,_,rfl,hy2,hu2,by rw[List.length_append,hal];rfl,?_,λb hb=>?_⟩
   . refine List.Perm.trans ?_ hpm;rw[List.map_append,List.append_assoc];refine List.Perm.append_left _ ?_;show(eh A::lf.eraseIdx q').Perm lf;rw[hlo];exact tP lf q' hq
   .
    rcases List.mem_append.mp hb with hb|hb
    . exact ha b hb
    . rw[List.mem_singleton.mp hb];exact hA
  have ac:∀A:Ru,(A.one=lf[q']/\A.other=lf[q']+hf∨A.one=lf[q']+hf/\A.other=lf[q'])->eh A=lf[q']/\(nY n A->RB 60 A.size->0<A.size->MP n hf A):=λA z=>by
   have e1:eh A=lf[q']:=by unfold eh;omega
   have e2:eZ A=lf[q']+hf:=by unfold eZ;omega
   exact⟨e1,λo r s=>⟨o,r,s,by rw[e1];exact hpq,by rw[e2,e1]⟩⟩
  split
  . unfold Jk;walk_at "w";exact HE hu k0 k1 xL hal xL xL xL λA u2 hu2 e1 e2 o r s=>nx A u2 _ _ _ hu2 (ac A (.inr ⟨e1,e2⟩)).1 ((ac A (.inr ⟨e1,e2⟩)).2 o r s)
  . exact HE hu k0 k1 xL hal xL xL xL λA u2 hu2 e1 e2 o r s=>nx A u2 _ _ _ hu2 (ac A (.inl ⟨e1,e2⟩)).1 ((ac A (.inl ⟨e1,e2⟩)).2 o r s)
 .
  rintro Z ⟨ys,us,as,lf,x9,x10,x11,rfl,hy,hu,hal,hpm,ha⟩
  have PR:∀as':List Ru,as'.map eh=as.map eh->(∀b∈as',MP n hf b)->oX ⟨List.replicate n 1,as'⟩ hf:=λas' e hb=>by
   have hl:as'.length=many:=by have:=congrArg List.length e;rw[UC,UC]at this;omega
   have nn:aL.n ⟨List.replicate n 1,as'⟩=n:=by unfold aL.n;exact List.length_replicate
   refine⟨⟨by rw[nn];omega,by rw[nn];omega,by show as'.length<=20;omega,λq hq=>?_,λb hb'=>by rw[nn];exact(hb b hb').ok,NO (λb hb'=>(hb b hb').rb) (by show as'.length<=20;omega)⟩,λb hb'=>(hb b hb').rb,λb hb'=>(hb b hb').pos,by show as'.length<=5;omega,by show 0<as'.length;omega,hh5,by rw[nn];exact hn1,λb hb'=>(hb b hb').ends,?_⟩
   . rw[(List.mem_replicate.mp hq).2];exact⟨x_,x_,x_⟩
   . show(as'.map eh).Nodup;rw[e];exact(List.nodup_append.mp (hpm.nodup_iff.mpr List.nodup_range)).1
  have er:∀m:Nat,(List.replicate m [D.tup [.int 1,.int 1]]).flatten=(List.replicate m (1:Rat)).map QS:=λm=>by
   induction m with
   |zero=>rfl
   | succ m ih =>
    rw[List.replicate_succ,List.replicate_succ,List.flatten_cons,ih];rfl
  have tail:∀(as':List Ru)(r8:L)(ys:List D)(x9 x10 x11:L),(r8=.d (.lst (as'.map eM))∨∃c,r8=.own c (as'.map eM))->as'.map eh=as.map eh->(∀b∈as',MP n hf b)->eT [.d (.lst (ns.map .int)),.own a ys,.d (.int (hf:Int)),.d (.int (n:Int)),.d (.int (many:Int)),.own d (lf.map λ(i:Nat)=>D.int (i:Int)),.own b us,.d (.int kd),r8,x9,x10,x11] (aR [.d (.lst (ns.map .int))] so):=λas' r8 ys x9 x10 x11 h8 e hb=>by
   have F:=PR as' e hb;have es:(sizeLine:Nat)=16777216:=by decide
   rcases h8 with rfl|⟨c,rfl⟩
   . unfold eT;walk_at "w";refine⟨x_,x_,λ_=>⟨⟨xL,xL⟩,by rw[Int.toNat_natCast];omega,λ_=>⟨x_,_,ai aO,?_⟩⟩⟩;rw[Int.toNat_natCast,er];exact h _ _ F
   . unfold eT;walk_at "w";refine⟨x_,x_,λ_=>⟨⟨xL,xL⟩,by rw[Int.toNat_natCast];omega,λ_=>⟨x_,_,ai aO,?_⟩⟩⟩;rw[Int.toNat_natCast,er];exact h _ _ F
  unfold lK;walk_at "w";refine⟨a,ys,3,rfl,hy,x_,x_,λr y2 hy2 r0 r1=>⟨y2,rfl,?_⟩⟩;walk_at "w";split
  .
   have h0:0<as.length:=by omega
   refine⟨Nat.le_trans (show as.length<=20 by omega) x_,?_⟩;refine Af (h:=λA=>eM ⟨A.nm,A.one,A.other,as[0].size⟩) as [] _ _ _ _ (λA hA Q q=>?_) λl1 l2 l3 l4 a1=>?_
   . unfold lI;walk_at "w";refine⟨_,ba (f:=eM) h0,?_⟩;walk_at "w";exact⟨x_,q⟩
   .
    rw[List.nil_append];walk_at "w";have e0:as.map (λA=>eM ⟨A.nm,A.one,A.other,as[0].size⟩)=(as.map λA=>(⟨A.nm,A.one,A.other,as[0].size⟩:Ru)).map eM:=by rw[List.map_map];rfl
    rw[e0];refine tail _ _ _ _ _ _ (.inr ⟨_,rfl⟩) (by rw[List.map_map];rfl) λb hb=>?_;obtain⟨A,hA,rfl⟩:=List.mem_map.mp hb;have f:=ha A hA;have g:=ha _ (UD h0);exact⟨⟨f.ok.one,f.ok.other,f.ok.ne,g.ok.size,g.ok.lt,f.ok.nm⟩,g.rb,g.pos,f.ends⟩
  . exact tail as _ _ _ _ _ (.inr ⟨_,rfl⟩) rfl ha
def fA:FS:=λls so=>∃n:Nat,ls=[.d (.int (n:Int))]/\n<=7/\∀c,so (.own c ((wz n).map fu)) ls
def iG:W L:=(ax fP (aj 0) (r6 (aq (wC (.str "on")) aI)))
def iH:W L:=(ax fP (aj 0) (r6 (aq (wC (.str "back")) aI)))
def iI:W Fl:=(bD 1 (ax fP (jW 1 [] (ub (aj 1)) (bu 0) g6 iG) (jW 1 [] (ub (aj 1)) (bu 0) g6 iH)))
def gy:W Fl:=(a5 (bD 1 (r6 (aq (bI (r6 aI)) aI)))
  (a5 (p6 (r9 (aj 0)) (bu 2) iI)
  (bN (p5 1))))
theorem oH:UR 1 2 fA gy:=by
 rintro ls so - ⟨n,rfl,hn,h⟩;unfold gy;walk_at "w";refine⟨x_,λc1=>⟨x_,λc2=>⟨⟨xL,xL⟩,?_⟩⟩⟩;rw[Int.toNat_natCast];refine qr _ (λj Z=>∃c x2,Z=[.d (.int (n:Int)),.own c ((wz j).map fu),x2]) _ ⟨_,_,rfl⟩ ?_ ?_
 .
  rintro j Z hj ⟨c,x2,rfl⟩ Q h1 h2 h3 h4;have hp:2^j<=2^6:=Nat.pow_le_pow_right x_ xL;unfold iI;walk_at "w";have sl:(128:Nat)<=sizeLine:=by decide
  rw[uB];have one:∀v,v∈wz j->v.length+1<=sizeLine:=λv hv=>by rw[uC.mp hv];omega
  refine⟨xL,gO (h:=λv=>fu (v++[true])) _ _ _ (λv hv Q hQ=>?_) λl c3=>⟨xL,gO (h:=λv=>fu (v++[false])) _ _ _ (λv hv Q hQ=>?_) λl c4=>?_⟩⟩
  .
   unfold iG;have e:fu (v++[true])=.lst ((v.map λw=>D.str (dA w))++[.str "on"]):=by rw[fu,List.map_append]; rfl
   rw[e]at hQ;unfold fu;walk_at "w";exact⟨x_,λ_=>⟨one v hv,λ_=>hQ⟩⟩
  .
   unfold iH;have e:fu (v++[false])=.lst ((v.map λw=>D.str (dA w))++[.str "back"]):=by rw[fu,List.map_append]; rfl
   rw[e]at hQ;unfold fu;walk_at "w";exact⟨x_,λ_=>⟨one v hv,λ_=>hQ⟩⟩
  rw[List.nil_append,List.nil_append,UC,UC,uB];refine⟨xL,λc5=>h1 _ ⟨c5,.d (.int (j:Int)),?_⟩⟩;rw[wz,List.map_append,List.map_map,List.map_map];rfl
 . rintro Z ⟨c,x2,rfl⟩;walk_at "w";exact⟨_,ai aO,h _⟩
def bV:FS:=λls so=>∃p q:Rat,ls=[.d (QS p),.d (QS q)]/\RB 4400 p/\RB 4400 q/\so (.d (QS (p-q))) ls
def kC:W Fl:=(bN (aD cB (aq (ax ph (ax bF (ax aK (aj 0) (wC (.int 0))) (ax aK (aj 1) (wC (.int 1)))) (ax bF (ax aK (aj 1) (wC (.int 0))) (ax aK (aj 0) (wC (.int 1))))) (aq (bI (ax bF (ax aK (aj 0) (wC (.int 1))) (ax aK (aj 1) (wC (.int 1))))) aI))))
theorem sH:UR 2 0 bV kC:=by
 rintro ls so - ⟨p,q,rfl,hp,hq,h⟩;unfold kC;walk_at "w";refine⟨hp.bn x_,hq.bd x_,hq.bn x_,hp.bd x_,hp.bd x_,hq.bd x_,_,_,rfl,nX p q,?_,_,ai (ai aO),?_⟩
 . rw[kQ];exact UB (bj hp.2 hq.2) (Nat.pow_le_pow_right x_ x_)
 . rw[G3];exact h
noncomputable def Ek(R:aL)(qs:List Rat)(ws:List Bool)(k:Nat):Int×D:=((RY R k:Int),QS (bo R qs k (ws.getD k true)))
def kE:FS:=λls so=>∃(R:aL)(h:Nat)(ps:List Rat)(ws:List Bool),ls=[.d (.lst (R.asks.map eM)),.d (.lst (ps.map QS)),.d (.lst (ws.map λw=>D.str (dA w)))]/\di R h ps/\ws.length=R.asks.length /\
 ∀(a:Addr)(os:List Nat),os.Perm (List.range R.asks.length)->os.Pairwise (λi j=>RY R i<=RY R j)->so (.own a ((os.map (Ek R ps ws)).map Rt)) ls
def fB:W Fl:=(vJ (IH 3 (nJ (aq (bI (bp AR (aq (ax aK (aj 5) (wC (.int 1))) (aq (ax aK (aj 5) (wC (.int 2))) aI)))) (aq (aj 6) aI)))))
def jy:W Fl:=(a5 (QC (aW (ax Kq (ax aK (aj 5) (wC (.int 1))) (ax aK (aj 5) (wC (.int 2))))) (bD 6 (bI (aD bV (aq (nJ (aq (wC (.int 0)) (aq (wC (.int 1)) aI))) (aq (aj 6) aI))))) cm)
  fB)
def nD:W Fl:=(a5 (bD 6 (ax aK (r6 (aq (bI (aD bV (aq (nJ (aq (wC (.int 0)) (aq (wC (.int 1)) aI))) (aq (ax aK (aj 1) (aj 4)) aI)))) (aq (bI (aD bV (aq (ax aK (aj 5) (wC (.int 3))) (aq (ax aK (aj 1) (aj 4)) aI)))) aI))) (bp AS (aq (ax sU (ax aK (aj 2) (aj 4)) (wC (.str "on"))) aI))))
  jy)
def mN:W Fl:=(a5 (bD 3 (r6 aI))
  (a5 (p6 (xQ (aj 0)) (cn [4,5]) nD)
  (bN (vY 3 (bp CZ (aq (aj 3) aI))))))
theorem D3:∀{as bs:List (Int×D)},as.Pairwise (λx y=>x.1<y.1)->bs.Pairwise (λx y=>x.1<y.1)->as.Perm bs->as=bs
 |[],bs,_,_,p=>List.Perm.nil_eq p
 |a::as,[],_,_,p=>absurd p.length_eq v6
 | a::as,b::bs,ha,hb,p=>by
  obtain⟨a1,a2⟩:=List.pairwise_cons.mp ha;obtain⟨b1,b2⟩:=List.pairwise_cons.mp hb
  have e:a=b:=by
   rcases UK.mp (p.mem_iff.mp (Uz (a:=a) (l:=as)))with q|q
   . exact q
   .
    rcases UK.mp (p.mem_iff.mpr (Uz (a:=b) (l:=bs)))with r|r
    . exact r.symm
    . have:=a1 b r;have:=b1 a q;omega
  subst e;rw[D3 a2 b2 p.cons_inv]
theorem HF:∀ps:List (Int×Rat),rX (ps.map λx=>Rt (x.1,QS x.2))=true
 |[]=>rfl
 | k::os=>by rw[List.map_cons];simp only[rX,HF os,Bool.and_true];rfl
theorem Kd{R:aL}{qs:List Rat}{ws:List Bool}(os:List Nat):rX ((os.map (Ek R qs ws)).map Rt)=true:=by have:=HF (os.map λk=>((RY R k:Int),bo R qs k (ws.getD k true)));rw[List.map_map]at this ⊢;exact this
theorem Ke(R:aL)(ks:List Nat):∃os:List Nat,os.Perm ks/\os.Pairwise λi j=>RY R i<=RY R j:=by refine⟨ks.mergeSort λi j=>decide (RY R i<=RY R j),List.mergeSort_perm _ _,?_⟩;have:=List.pairwise_mergeSort (le:=λi j=>decide (RY R i<=RY R j)) (λa b c h1 h2=>by simp only[UG]at *;omega) (λa b=>by simp only[Bool.or_eq_true,UG];omega) ks;exact this.imp λh=>by simpa using h
theorem MQ(b:Bool)(x y:Rat):Qf [QS x,QS y] (if b=true then 1 else 0)=some (QS (if b=true then y else x)):=by cases b<;>rfl
theorem Oj(w:Bool):QI (.str (dA w)) (.str (Str.ofString "on"))=w:=by cases w <;> decide +kernel
theorem MR{R:aL}{h:Nat}{ps:List Rat}{k:Nat}(hC:di R h ps)(w:Bool)(hk:k<R.asks.length):(if(R.asks[k].one:Int) > (R.asks[k].other:Int)then 0-(if w=true then R.asks[k].size-ps.getD k 0 else 0-ps.getD k 0)else(if w=true then R.asks[k].size-ps.getD k 0 else 0-ps.getD k 0))=bo R ps k w:=by
 unfold bo;rw[DC,bH hk,jE hk];unfold RP;have ne:=(hC.ch.ok.ask _ (UD hk)).ne;rcases Nat.lt_or_gt_of_ne ne with c|c
 . rw[if_neg (by omega),decide_eq_true c];cases w<;>simp<;>grind
 . rw[if_pos (by omega),decide_eq_false xL];cases w<;>simp<;>grind
theorem u6:UR 3 4 kE mN:=by
 rintro ls so - ⟨R,hf,ps,ws,rfl,hC,hw,h⟩;have hS:=hC.sl;have few:=hC.ch.few;unfold mN;walk_at "w";refine⟨x_,λb=>?_⟩;rw[wH]
 have el:∀{k:Nat}(hk:k<R.asks.length),(RY R k:Int)=if(R.asks[k].other:Int)<(R.asks[k].one:Int)then(R.asks[k].other:Int)else(R.asks[k].one:Int):=λ{k} hk=>by rw[j4,bH hk];unfold eh;split<;>omega
 refine Be _ (λj Z=>∃y4 y5 y6:L,Z=[.d (.lst (R.asks.map eM)),.d (.lst (ps.map QS)),.d (.lst (ws.map λw=>D.str (dA w))),.own b (((List.range j).map (Ek R ps ws)).map Rt),y4,y5,y6]/\eX y4=true/\eX y5=true/\eX y6=true) _ ⟨_,_,_,rfl,rfl,rfl,rfl⟩ ?_ ?_
 .
  rintro k Z hk ⟨y4,y5,y6,rfl,f4,f5,f6⟩ Q h1 h2 h3 h4;have hkp:k<ps.length:=by rw[hS.len];exact hk
  have pb:RB 1800 ps[k]:=by rw[<- bC hkp];exact hS.rb hkp
  have sb:RB 1800 R.asks[k].size:=by rw[<- jE hk];exact hS.sz_rb hkp
  have eg:=MR (w:=ws.getD k true) hC hk;rw[bC hkp]at eg
  have nx:∀(q:Rat)(y4 y5 y6:D),q=bo R ps k (ws.getD k true)->Q .nx [.d (.lst (R.asks.map eM)),.d (.lst (ps.map QS)),.d (.lst (ws.map λw=>D.str (dA w))),.own b (((List.range k).map (Ek R ps ws)).map Rt++[.tup [.int (if(R.asks[k].other:Int)<(R.asks[k].one:Int)then(R.asks[k].other:Int)else(R.asks[k].one:Int)),QS q]]),.d y4,.d y5,.d y6]:=λq y4 y5 y6 e=>by refine h1 _ ⟨.d y4,.d y5,.d y6,?_,qe _,qe _,qe _⟩;rw[e,<- el hk,List.range_succ,List.map_append,List.map_append];rfl
  rw[Ad hk];unfold nD;walk_at "w";refine⟨x_,_,ba hkp,?_⟩;refine⟨0,_,rfl,RB.zero.mono x_,pb.mono x_,?_⟩;dsimp only;refine⟨_,ba hkp,_,_,rfl,sb.mono x_,pb.mono x_,?_⟩;dsimp only;have hkw:k<ws.length:=by omega
  have ew:ws[k]=ws.getD k true:=by rw[UE,Ux hkw];rfl
  refine⟨x_,λ_=>⟨_,ba (f:=λw=>D.str (dA w)) hkw,eY _,?_⟩⟩;rw[Oj,ew];refine⟨_,MQ _ _ _,?_⟩;have ln:(((List.range k).map (Ek R ps ws)).map Rt).length<sizeLine:=by rw[UC,UC,List.length_range];exact UI (show k<=20 by omega) x_
  have qb:RB 3700 (if ws.getD k true=true then R.asks[k].size-ps[k]else 0-ps[k]):=by
   split
   . exact(sb.sub pb).mono x_
   . exact(RB.zero.sub pb).mono x_
  generalize (if ws.getD k true=true then R.asks[k].size-ps[k]else 0-ps[k])=q at *
  unfold jy;walk_at "w";by_cases c:(R.asks[k].one:Int) > (R.asks[k].other:Int)
  . rw[if_pos c]at eg;rw[if_pos (by omega)];refine⟨x_,0,_,rfl,RB.zero.mono x_,qb.mono x_,?_⟩;walk_at "w";unfold fB;walk_at "w";exact⟨x_,by simpa only[UC]using ln,nx _ _ _ _ eg⟩
  . rw[if_neg c]at eg;rw[if_neg (by omega)];unfold fB;walk_at "w";exact⟨x_,by simpa only[UC]using ln,nx _ _ _ _ eg⟩
 .
  rintro Z ⟨y4,y5,y6,rfl,f4,f5,f6⟩;walk_at "w";obtain⟨os,op,ow⟩:=Ke R (List.range R.asks.length);have opr:(os.map (Ek R ps ws)).Perm ((List.range R.asks.length).map (Ek R ps ws)):=op.map _;have opw:(os.map (Ek R ps ws)).Pairwise λx y=>x.1<y.1:=by rw[List.pairwise_map];have pw:=Ap hC.cross (by rw[hC.all];exact op) ow;refine pw.imp λ{i j} z=>?_;show(RY R i:Int)<(RY R j:Int);rw[j4,j4];omega
  refine⟨by rw[f4,f5,f6];rfl,_,rfl,by rw[UC,List.length_range];omega,?_,λc out outp outw=>?_⟩
  . refine(List.Perm.nodup_iff (opr.map _)).mp ?_;refine List.Pairwise.imp (λ{a b} (z:a<b)=>Int.ne_of_lt z) ?_;rw[List.pairwise_map];exact opw
  obtain rfl:out=os.map (Ek R ps ws):=D3 outw opw (outp.trans opr.symm);exact⟨by rw[zJ];exact Kd os,_,ai (ai (ai aO)),h c os op ow⟩
def fS:FS:=λls so=>∃p q:Rat,ls=[.d (QS p),.d (QS q)]/\RB 400000 p/\RB 400000 q/\so (.d (.bl (decide (p<q)))) ls
def kF:W Fl:=(bN (ax vi (ax bF (ax aK (aj 0) (wC (.int 0))) (ax aK (aj 1) (wC (.int 1)))) (ax bF (ax aK (aj 1) (wC (.int 0))) (ax aK (aj 0) (wC (.int 1))))))
theorem sI:UR 2 0 fS kF:=by rintro ls so - ⟨p,q,rfl,hp,hq,h⟩;unfold kF;walk_at "w";refine⟨hp.bn x_,hq.bd x_,hq.bn x_,hp.bd x_,_,ai (ai aO),?_⟩;rw[Mg];exact h
def dj:FS:=λls so=>∃p q:Rat,ls=[.d (QS p),.d (QS q)]/\RB 400000 p/\RB 400000 q/\p.den*q.den<2^9000/\so (.d (QS (p+q))) ls
def mO:W Fl:=(bN (aD cB (aq (bI (ax fP (ax bF (ax aK (aj 0) (wC (.int 0))) (ax aK (aj 1) (wC (.int 1)))) (ax bF (ax aK (aj 1) (wC (.int 0))) (ax aK (aj 0) (wC (.int 1)))))) (aq (bI (ax bF (ax aK (aj 0) (wC (.int 1))) (ax aK (aj 1) (wC (.int 1))))) aI))))
theorem u7:UR 2 0 dj mO:=by rintro ls so - ⟨p,q,rfl,hp,hq,hz,h⟩;unfold mO;walk_at "w";refine⟨hp.bn x_,hq.bd x_,hq.bn x_,hp.bd x_,hp.bd x_,hq.bd x_,_,_,rfl,nX p q,by rw[kQ];exact hz,_,ai (ai aO),?_⟩;rw[vW];exact h
noncomputable def Ue(p:Int×Rat):D:=.tup [.int p.1,QS p.2]
noncomputable def Ug(as:List Ru)(g:Rat):Rat:=as.foldl (λg a=>if g<a.size then a.size else g) g
def gz:FS:=λls so=>∃(as:List Ru)(rs:List (Int×Rat))(M:Nat),ls=[.d (.lst (as.map eM)),.d (.lst (rs.map Ue))]/\(∀a∈as,RB 60 a.size)/\(0<M/\M<2^1500)/\rs.length<=20/\(∀p∈rs,RB 5703 p.2/\p.2.den∣M)/\so (.d (.bl (R5 (Ug as 0*(1 / 2)) 0 (rs.map (·.2))))) ls
def gA:W Fl:=(QC (aW (aD fS (aq (bI (aD cB (aq (ax aK (aj 2) (wC (.int 0))) (aq (bI (ax bF (wC (.int 2)) (ax aK (aj 2) (wC (.int 1))))) aI)))) (aq (bI (aD cB (aq (bI (bp xN (aq (ax aK (aj 7) (wC (.int 0))) aI))) (aq (ax aK (aj 7) (wC (.int 1))) aI)))) aI)))) (bN (wC (.bl false))) cm)
def jz:W Fl:=(a5 (bD 7 (bI (aD dj (aq (aj 7) (aq (aj 9) aI)))))
  gA)
def jA:W Fl:=(QC (aW (aD fS (aq (aj 2) (aq (aj 6) aI)))) (bD 2 (aj 6)) cm)
def ij:W Fl:=(a5 (bD 2 (nJ (aq (wC (.int 0)) (aq (wC (.int 1)) aI))))
  (a5 (p6 (ub (aj 0)) (cn [3,4,5,6]) jA)
  (a5 (bD 7 (nJ (aq (wC (.int 0)) (aq (wC (.int 1)) aI))))
  (a5 (p6 (ub (aj 1)) (cn [8,9]) jz)
  (bN (wC (.bl true)))))))
theorem Ol{hf t g:Rat}:(decide (hf<t+g) ||decide (t+g<0-hf))=decide (hf<if t+g<0 then -(t+g)else t+g):=by
 rw[Bool.eq_iff_iff,Bool.or_eq_true,UG,UG,UG];constructor
 . rintro (h|h)<;>split<;>grind
 .
  intro h;split at h
  . exact .inr (by grind)
  . exact .inl h
theorem Kg(q:Rat):Rat.divInt (if q.num<0 then -q.num else q.num) (q.den:Int)=if q<0 then -q else q:=by
 by_cases c:q<0
 .
  have:q.num<0:=by rw[<- Rat.not_le,<- Rat.num_nonneg]at c;omega
  rw[if_pos c,if_pos this,<- Rat.neg_num,<- Rat.neg_den,Rat.num_divInt_den]
 .
  have:¬q.num<0:=by have:=Rat.num_nonneg.mpr (Rat.not_lt.mp c);omega
  rw[if_neg c,if_neg this,Rat.num_divInt_den]
theorem Kh(g:Rat):Rat.divInt g.num (2*(g.den:Int))=g*(1 / 2):=by
 have e1:Rat.divInt g.num (2*(g.den:Int))=Rat.divInt 1 2*g:=by
  conv=>rhs;rw[<- Rat.num_divInt_den g,Rat.divInt_mul_divInt,Int.one_mul]
 rw[e1,Rat.mul_comm];have e2:Rat.divInt 1 2=1 / 2:=by decide +kernel
 rw[e2]
theorem D4{g:Rat}(h:RB 60 g):RB 200 (g*(1 / 2)):=by have b:RB 2 (1 / 2:Rat):=⟨y_,y_⟩;exact(h.mul b).mono x_
theorem pJ:UR 2 8 gz ij:=by
 rintro ls so - ⟨as,rs,M,rfl,ha,⟨d0,d1⟩,hl,hr,ht⟩;unfold ij;walk_at "w";refine⟨x_,?_⟩;refine kP (enc:=eM) as (λpre Z=>∃(g:Rat)(x3 x4 x5 x6:L),Z=[.d (.lst (as.map eM)),.d (.lst (rs.map Ue)),.d (QS g),x3,x4,x5,x6,.un,.un,.un]/\RB 60 g/\g=Ug pre 0) _ ⟨0,_,_,_,_,rfl,RB.zero.mono x_,rfl⟩ ?_ ?_
 .
  rintro pre a suf Z hsp ⟨g,x3,x4,x5,x6,rfl,hg,eg⟩ Q h1 h2 h3 h4;have am:=ha a (by rw[hsp];simp)
  have e2:Ug (pre++[a]) 0=if g<a.size then a.size else g:=by unfold Ug;rw[List.foldl_append,eg];rfl
  unfold jA eM;walk_at "w";refine⟨g,a.size,rfl,hg.mono x_,am.mono x_,?_⟩;walk_at "w";by_cases c:g<a.size
  . rw[if_pos c]at e2 ⊢;exact h1 _ ⟨_,_,_,_,_,rfl,am,e2.symm⟩
  . rw[if_neg c]at e2 ⊢;exact h1 _ ⟨_,_,_,_,_,rfl,hg,e2.symm⟩
 .
  rintro Z ⟨g,x3,x4,x5,x6,rfl,hg,eg⟩;rw[<- eg]at ht;have hb:=D4 hg;have dpos:=g.den_pos;walk_at "w";refine⟨x_,?_⟩;refine dE _ (λj Z=>∃(t:Rat)(y8 y9:L),Z=[.d (.lst (as.map eM)),.d (.lst (rs.map Ue)),.d (QS g),x3,x4,x5,x6,.d (QS t),y8,y9]/\RB (5704*j+1) t/\t.den∣M/\R5 (g*(1 / 2)) t ((rs.drop j).map (·.2))=R5 (g*(1 / 2)) 0 (rs.map (·.2))) _ ⟨0,_,_,rfl,RB.zero,⟨M,(Nat.one_mul M).symm⟩,rfl⟩ ?_ ?_
  .
   rintro j x Z hj ⟨t,y8,y9,rfl,htr,td,e⟩ Q h1 h2 h3 h4;rw[List.getElem?_map]at hj
   have hj':j<rs.length:=by
    rcases Nat.lt_or_ge j rs.length with q|q
    . exact q
    . rw[List.getElem?_eq_none q]at hj;exact absurd hj v6
   rw[Ux hj']at hj;cases hj;rw[List.drop_eq_getElem_cons hj',List.map_cons]at e;obtain⟨gr,gd⟩:=hr _ (UD hj');have sr:=htr.add gr;have sd:=mf d0 td gd;have b6:5704*(j+1)+1<=114081:=by omega
   have tn:t.den*(rs[j].2).den<2^9000 :=
    UB (bj (UI (Nat.le_of_dvd d0 td) d1) (UI (Nat.le_of_dvd d0 gd) d1)) (Nat.pow_le_pow_right x_ x_)
   rw[As,Ol]at e;show cn [8,9] (.tup [.int rs[j].1,QS rs[j].2]) _ _;generalize rs[j].2=gn at *;walk_at "w";unfold jz;walk_at "w";refine⟨t,gn,rfl,htr.mono xL,gr.mono x_,tn,?_⟩;walk_at "w";unfold gA;walk_at "w";refine⟨bK x_,hg.bd x_,_,_,rfl,xL,?_,?_⟩
   .
    rw[Int.natAbs_mul,Int.natAbs_natCast];have e0:(2:Nat)*2^60<=2^9000:=by rw[<- Nat.pow_succ'];exact Nat.pow_le_pow_right x_ x_
    refine UB ?_ e0;exact Nat.mul_lt_mul_of_pos_left hg.2 x_
   rw[Kh];walk_at "w";have dq:=(t+gn).den_pos;refine⟨_,_,rfl,xL,?_,?_⟩
   . rw[Int.natAbs_natCast];exact UB (UI (Nat.le_of_dvd d0 sd) d1) (Nat.pow_le_pow_right x_ x_)
   rw[Kg];walk_at "w"
   have ar:RB (5704*(j+1)+1) (if t+gn<0 then -(t+gn)else t+gn):=by
    split
    . exact(Ho sr).mono xL
    . exact sr.mono xL
   refine⟨_,_,rfl,hb.mono x_,ar.mono xL,?_⟩;dsimp only
   generalize (if t+gn<0 then -(t+gn)else t+gn)=av at *
   by_cases c:g*(1 / 2)<av
   . rw[if_pos (decide_eq_true c)];rw[decide_eq_true c,Bool.not_true,Bool.false_and]at e;rw[<- e]at ht;exact h4 _ _ ⟨_,ai (ai aO),ht⟩
   . rw[if_neg (by rw[decide_eq_false c];decide)];rw[decide_eq_false c,Bool.not_false,Bool.true_and]at e;exact h1 _ ⟨_,_,_,rfl,sr.mono xL,sd,e⟩
  . rintro Z ⟨t,y8,y9,rfl,htr,td,e⟩;rw[UC,List.drop_length]at e;walk_at "w";rw[<- e]at ht;exact⟨_,ai (ai aO),ht⟩
noncomputable def Uh(rs:List (Int×Rat))(j:Nat):Rat:=gG (rs.map λp=>if p.1<(j:Int)then p.2 else 0)
noncomputable def GM(rs:List (Int×Rat))(t:Nat):Rat:=Uh rs (t+1)+Uh rs (t+1)-gG (rs.map (·.2))
def Sm(M c:Nat)(q:Rat):Prop:=q.den∣M/\-(((2^60:Nat):Rat)*(c:Rat))<=q/\q<=((2^60:Nat):Rat)*(c:Rat)
def c9:FS:=λls so=>∃(rs:List (Int×Rat))(h n M:Nat)(gs:Nat->Rat),ls=[.d (.lst (rs.map Ue)),.d (.int (h:Int)),.d (.lst (Rv n gs))]/\(0<M/\M<2^1500)/\rs.length<=5/\h<=5/\2*h<=n/\(∀p∈rs,Sm M 1 p.2)/\(∀p∈rs,0<=p.1)/\(∀t,t<h->gs t=GM rs t/\gs (t+h)=0-GM rs t)/\so (.d (.bl true)) ls
def dR:W Fl:=(QC (Qz (aW (ax xK (ax aK (aj 2) (aj 4)) (aj 8))) (aW (ax xK (ax aK (aj 2) (ax fP (aj 4) (aj 1))) (aD bV (aq (nJ (aq (wC (.int 0)) (aq (wC (.int 1)) aI))) (aq (aj 8) aI)))))) (bN (wC (.bl false))) cm)
def fH:W Fl:=(QC (aW (ax sU (aj 7) (aj 4))) (bD 6 (bI (aD dj (aq (aj 6) (aq (aj 5) aI))))) cm)
def dS:W Fl:=(a5 (bD 8 (bI (aD bV (aq (bI (aD dj (aq (aj 6) (aq (aj 6) aI)))) (aq (aj 3) aI)))))
  dR)
def fJ:W Fl:=(a5 (p6 (ub (aj 0)) (cn [7,5]) fH)
  dS)
def fK:W Fl:=(bN (wC (.bl true)))
def fM:W Fl:=(a5 (p6 (r9 (aj 1)) (bu 4) fJ)
  fK)
def fN:W Fl:=(bD 3 (bI (aD dj (aq (aj 3) (aq (aj 5) aI)))))
def fO:W Fl:=(a5 (bD 6 (nJ (aq (wC (.int 0)) (aq (wC (.int 1)) aI))))
  fM)
def lp:W Fl:=(a5 (p6 (ub (aj 0)) (cn [4,5]) fN)
  fO)
def dU:W Fl:=(a5 (bD 3 (nJ (aq (wC (.int 0)) (aq (wC (.int 1)) aI))))
  lp)
theorem Sm.add{M c d:Nat}{p q:Rat}(m0:0<M)(a:Sm M c p)(b:Sm M d q):Sm M (c+d) (p+q):=by
 obtain⟨a0,a1,a2⟩:=a;obtain⟨b0,b1,b2⟩:=b;have e:((c+d:Nat):Rat)=(c:Rat)+(d:Rat):=by push_cast;rfl
 refine⟨mf m0 a0 b0,?_,?_⟩<;>rw[e]<;>generalize ((2^60:Nat):Rat)=V at*<;> grind
theorem Sm.zero{M:Nat}:Sm M 0 0:=by refine⟨⟨M,(Nat.one_mul M).symm⟩,?_,?_⟩<;>decide +kernel
theorem Sm.rb{M c:Nat}{q:Rat}(h:Sm M c q)(m0:0<M)(m1:M<2^1500)(hc:c<=100):RB 1800 q:=by
 obtain⟨a,b,d⟩:=h;have c0:(c:Rat)<=((100:Nat):Rat):=by exact_mod_cast hc
 have k:((2^60:Nat):Rat)*(c:Rat)<=((2^60:Nat):Rat)*((100:Nat):Rat):=Rat.mul_le_mul_of_nonneg_left c0 y_;have z:((2^60:Nat):Rat)*((100:Nat):Rat)<((2^300:Nat):Rat):=by decide +kernel
 generalize ((2^60:Nat):Rat)*((100:Nat):Rat)=U at *;generalize ((2^60:Nat):Rat)*(c:Rat)=V at *;exact Mx (by grind) (by grind) m0 m1 a
theorem Sm.if{M c:Nat}{q:Rat}(h:Sm M c q)(p:Prop)[Decidable p]:Sm M c (if p then q else 0):=by
 split
 . exact h
 .
  refine⟨⟨M,(Nat.one_mul M).symm⟩,?_,?_⟩
  . have:=h.2.1;have:=h.2.2;generalize ((2^60:Nat):Rat)*(c:Rat)=V at *;grind
  . have:=h.2.1;have:=h.2.2;generalize ((2^60:Nat):Rat)*(c:Rat)=V at *;grind
theorem Sm.sum{M:Nat}(m0:0<M):∀{qs:List Rat},(∀q∈qs,Sm M 1 q)->Sm M qs.length (gG qs)
 |[],_=>Sm.zero
 | q::qs,h=>by rw[aQ,List.length_cons,Nat.add_comm];exact(h q Uz).add m0 (Sm.sum m0 λx hx=>h x (tu _ hx))
theorem Sm.den{M c d:Nat}{p q:Rat}(a:Sm M c p)(b:Sm M d q)(m0:0<M)(m1:M<2^1500):p.den*q.den<2^9000 :=
 UB (bj (UI (Nat.le_of_dvd m0 a.1) m1) (UI (Nat.le_of_dvd m0 b.1) m1)) (Nat.pow_le_pow_right x_ x_)
theorem D5(j:Nat):∀rs:List (Int×Rat),Uh rs (j+1)=Uh rs j+gG (rs.map λp=>if p.1=(j:Int)then p.2 else 0)
 | []=>by show(0:Rat)=0+0;grind
 | p::rs=>by
  have ih:=D5 j rs;unfold Uh at ih ⊢;rw[List.map_cons,List.map_cons,List.map_cons,aQ,aQ,aQ,ih];by_cases e:p.1=(j:Int)
  . rw[if_pos (by omega),if_neg (by omega),if_pos e];grind
  .
   by_cases l:p.1<(j:Int)
   . rw[if_pos (by omega),if_pos l,if_neg e];grind
   . rw[if_neg (by omega),if_neg l,if_neg e];grind
theorem f0(rs:List (Int×Rat))(h:∀p∈rs,0<=p.1):Uh rs 0=0:=by
 unfold Uh
 induction rs with
 |nil=>rfl
 | cons p rs ih =>
  have:=h p Uz;rw[List.map_cons,aQ,ih λq hq=>h q (tu _ hq),if_neg (by omega),Rat.add_zero]
theorem Pn(q:Rat):q+gG []=q:=by show q+0=q;grind
theorem lq:UR 3 6 c9 dU:=by
 rintro ls so - ⟨rs,h,n,M,gs,rfl,⟨m0,m1⟩,hl,h5,hn,hr,h0,hg,ht⟩
 have sums:∀f:Int×Rat->Rat,(∀p∈rs,Sm M 1 (f p))->∀pre:List (Int×Rat),(∀p∈pre,p∈rs)->Sm M pre.length (gG (pre.map f)):=λf hf pre hp=>by
  have:=Sm.sum m0 (qs:=pre.map f) λq hq=>by obtain⟨p,hp',rfl⟩:=List.mem_map.mp hq;exact hf p (hp p hp')
  rwa [UC]at this
 unfold dU;walk_at "w";refine⟨x_,?_⟩;refine kP (enc:=Ue) rs (λpre Z=>∃(x4 x5:L),Z=[.d (.lst (rs.map Ue)),.d (.int (h:Int)),.d (.lst (Rv n gs)),.d (QS (gG (pre.map (·.2)))),x4,x5,.un,.un,.un]) _ ⟨_,_,rfl⟩ ?_ ?_
 .
  rintro pre p suf Z hsp ⟨x4,x5,rfl⟩ Q h1 h2 h3 h4;have hp:∀q∈pre,q∈rs:=λq hq=>by rw[hsp];simp[hq]
  have pm:p∈rs:=by rw[hsp];simp
  have pl:pre.length<5:=by have:=congrArg List.length hsp;rw[List.length_append,List.length_cons]at this;omega
  have s1:=sums (·.2) hr pre hp;have s2:=hr p pm;show cn [4,5] (.tup [.int p.1,QS p.2]) _ _;unfold fN;walk_at "w";refine⟨_,_,rfl,(s1.rb m0 m1 xL).mono x_,(s2.rb m0 m1 xL).mono x_,s1.den s2 m0 m1,?_⟩;walk_at "w";exact h1 _ ⟨_,_,by rw[List.map_append,List.map_singleton,j2]⟩
 .
  rintro Z ⟨x4,x5,rfl⟩;have sw:=sums (·.2) hr rs λ_ z=>z;generalize hW:gG (rs.map (·.2))=W at *;walk_at "w";unfold fO;walk_at "w";refine⟨x_,?_⟩;unfold fM;walk_at "w";refine⟨⟨xL,xL⟩,?_⟩;rw[Int.toNat_natCast];refine qr _ (λj Z=>∃(x4 x5 x7 x8:L),Z=[.d (.lst (rs.map Ue)),.d (.int (h:Int)),.d (.lst (Rv n gs)),.d (QS W),x4,x5,.d (QS (Uh rs j)),x7,x8]) _ ⟨_,_,_,_,by rw[f0 _ h0];rfl⟩ ?_ ?_
  .
   rintro j Z hj ⟨x4,x5,x7,x8,rfl⟩ Q h1 h2 h3 h4;have hj:j<h:=by omega
   obtain⟨g1,g2⟩:=hg j hj
   have sF:∀j,Sm M rs.length (Uh rs j):=λj=>sums (λp=>if p.1<(j:Int)then p.2 else 0) (λp hp=>(hr p hp).if _) rs λ_ z=>z
   unfold fJ;walk_at "w"
   refine kP (enc:=Ue) rs (λpre Z=>∃(x5 x7:L),Z=[.d (.lst (rs.map Ue)),.d (.int (h:Int)),.d (.lst (Rv n gs)),.d (QS W),.d (.int (j:Int)),x5,.d (QS (Uh rs j+gG (pre.map λp=>if p.1=(j:Int)then p.2 else 0))),x7,x8]) _ ⟨_,_,by rw[List.map_nil,Pn]⟩ ?_ ?_
   .
    rintro pre p suf Z hsp ⟨x5,x7,rfl⟩ Q h1 h2 h3 h4;have hp:∀q∈pre,q∈rs:=λq hq=>by rw[hsp];simp[hq]
    have pm:p∈rs:=by rw[hsp];simp
    have pl:pre.length<5:=by have:=congrArg List.length hsp;rw[List.length_append,List.length_cons]at this;omega
    have s1:=(sF j).add m0 (sums (λp=>if p.1=(j:Int)then p.2 else 0) (λp hp=>(hr p hp).if _) pre hp)
    have s2:=hr p pm;show cn [7,5] (.tup [.int p.1,QS p.2]) _ _;unfold fH;walk_at "w";by_cases c:p.1=(j:Int)
    . rw[if_pos c];refine⟨_,_,rfl,(s1.rb m0 m1 xL).mono x_,(s2.rb m0 m1 xL).mono x_,s1.den s2 m0 m1,?_⟩;walk_at "w";exact h1 _ ⟨_,_,by rw[List.map_append,List.map_singleton,j2,if_pos c,Rat.add_assoc]⟩
    . rw[if_neg c];exact h1 _ ⟨_,_,by rw[List.map_append,List.map_singleton,j2,if_neg c,Rat.add_zero]⟩
   .
    rintro Z ⟨x5,x7,rfl⟩;rw[<- D5];have s3:=sF (j+1);have sd:Sm M (rs.length+rs.length) (Uh rs (j+1)+Uh rs (j+1)):=s3.add m0 s3;walk_at "w";unfold dS;walk_at "w";refine⟨_,_,rfl,(s3.rb m0 m1 xL).mono x_,(s3.rb m0 m1 xL).mono x_,s3.den s3 m0 m1,?_⟩;walk_at "w";refine⟨_,_,rfl,(sd.rb m0 m1 xL).mono x_,(sw.rb m0 m1 xL).mono x_,?_⟩;walk_at "w";have eD:Uh rs (j+1)+Uh rs (j+1)-W=GM rs j:=by unfold GM;rw[hW]
    have rD:RB 4400 (GM rs j):=by rw[<- eD];exact(RB.sub (sd.rb m0 m1 xL) (sw.rb m0 m1 xL)).mono x_
    rw[eD];unfold dR;walk_at "w";refine⟨_,Hc (show j<n by omega),m6 _,?_⟩;rw[zG,g1,decide_eq_true rfl,if_neg (by decide)];refine⟨_,by rw[<- Int.natCast_add];exact Hc (show j+h<n by omega),x_,0,_,rfl,RB.zero.mono x_,rD,?_⟩;dsimp only;refine⟨m6 _,m6 _,?_⟩;rw[zG,g2,decide_eq_true rfl,if_neg (by decide)];exact h1 _ ⟨_,_,_,_,rfl⟩
  . rintro Z ⟨x4,x5,x7,x8,rfl⟩;walk_at "w";unfold fK;walk_at "w";exact⟨_,ai (ai (ai aO)),ht⟩
def jg:FS:=λls so=>∃(R:aL)(h:Nat)(ps:List Rat),ls=[.d (aP R),.d (.int (h:Int)),.d (.lst (ps.map QS))]/\di R h ps/\so (.d (.bl true)) ls
def lT:W Fl:=(bN (k9 (aD b7 (aq (aj 0) (aq (aj 2) (aq (nJ (aq (aj 8) (aq (aj 9) aI))) aI)))) (k9 (vY 4 (ax xK (aj 4) (r6 aI))) (MX (ax xK (aj 8) (r6 aI)) (vY 4 (ax (Ls false) (aj 9) (aj 4)))))))
def iJ:W Fl:=(QC (aW (aj 7)) (vJ (IH 4 (aj 5))) cm)
def iK:W Fl:=(a5 (QC (vI (aW (aD c9 (aq (aj 6) (aq (aj 1) (aq (bI (aD mL (aq (aj 0) (aq (aj 2) (aq (aj 5) aI))))) aI)))))) (bN (wC (.bl false))) cm)
  iJ)
def iL:W Fl:=(a5 (QC (aW (ax xK (aD b7 (aq (aj 0) (aq (aj 2) (aq (nJ (aq (bI (r6 aI)) (aq (aj 5) aI))) aI)))) (aj 7))) (bN (wC (.bl false))) cm)
  iK)
def iM:W Fl:=(a5 (bD 7 (bI (aD gz (aq (aj 3) (aq (aj 6) aI)))))
  iL)
def lU:W Fl:=(a5 (bD 6 (bI (aD kE (aq (aj 3) (aq (aj 2) (aq (aj 5) aI))))))
  iM)
def lV:W Fl:=(a5 (Fc [8,9] (aD ie (aq (aj 0) (aq (aj 2) aI))))
  lT)
def lW:W Fl:=(a5 (p6 (ub (aD fA (aq (bI (bp fh (aq (aj 3) aI))) aI))) (bu 5) lU)
  lV)
def lX:W Fl:=(a5 (bD 4 (r6 aI))
  lW)
def kG:W Fl:=(a5 (bD 3 (ax aK (aj 0) (wC (.int 1))))
  lX)
theorem Bq(l:List (List Bool)):cH (.lst (l.map fu)):=eL (n:=2) (uu l λx _=>uD x) x_
theorem Ki(l:List (List Bool)):QI (.lst (l.map fu)) (.lst [])=l.isEmpty:=by rw[Cw];cases l<;>rfl
theorem di.sld{R:aL}{h:Nat}{ps:List Rat}(c:di R h ps):∃M,Uc R ps M:=by obtain⟨M,d0,d1,da,dp⟩:=c.sl.cd;exact⟨M,⟨c.sl,d0,d1,da,dp⟩⟩
noncomputable def Av(R:aL)(ps:List Rat)(os:List Nat)(ws:List Bool):Bool:=R5 (cu R (List.range R.asks.length)) 0 (R6 R ps ws os)
noncomputable def HG(R:aL)(ps:List Rat)(ws:List Bool)(k:Nat):Int×Rat:=((RY R k:Int),bo R ps k (ws.getD k true))
theorem Kj(R:aL)(ps:List Rat)(ws:List Bool)(os:List Nat):(os.map (Ek R ps ws)).map Rt=(os.map (HG R ps ws)).map Ue:=by rw[List.map_map,List.map_map];rfl
theorem GN(R:aL):R.asks=(List.range R.asks.length).map (aM R):=by refine List.ext_getElem v6 λi h1 h2=>?_;rw[List.getElem_map,List.getElem_range,bH h1]
theorem Om(R:aL):Ug R.asks 0*(1 / 2)=cu R (List.range R.asks.length):=by
 have key:∀(ks:List Nat)(g:Rat),(∀k∈ks,k<R.asks.length)->Ug (ks.map (aM R)) g=RZ R ks g:=by
  intro ks
  induction ks with
  |nil=>exact λ_ _=>rfl
  | cons k ks ih =>
   intro g hk;have h1:=hk k Uz;have e:(aM R k).size=R.sz k:=by rw[bH h1,jE h1]
   have i:=ih (if g<R.sz k then R.sz k else g) λk' hk'=>hk k' (tu _ hk')
   unfold Ug RZ at i ⊢;rw[List.map_cons,List.foldl_cons,List.foldl_cons,e];exact i
 unfold cu;rw[<- key _ 0 λk hk=>List.mem_range.mp hk,<- GN]
theorem Kk{R:aL}{h M:Nat}{ps:List Rat}(c:di R h ps)(hD:Uc R ps M){k:Nat}(hk:k<R.asks.length)(w:Bool):Sm M 1 (bo R ps k w):=by obtain⟨a,b⟩:=c.gn hk w;have e:((2^60:Nat):Rat)*((1:Nat):Rat)=((2^60:Nat):Rat):=Rat.mul_one _;refine⟨pU c.sl.len hD.d0 hD.da hD.dp (by rw[c.sl.len];exact hk) w,?_,?_⟩<;>rw[e]<;>assumption
theorem MS{R:aL}{h:Nat}{ps:List Rat}(c:di R h ps){ws:List Bool}(hw:ws.length=R.asks.length){os:List Nat}(op:os.Perm (List.range R.asks.length)){t:Nat}(ht:t<h) :
  xc R ps ws t=GM (os.map (HG R ps ws)) t/\xc R ps ws (t+h)=0-GM (os.map (HG R ps ws)) t:=by
 obtain⟨a,b⟩:=c.at (xs:=lG R.asks ws) (ws:=ws) (D2 hw) (λk hk=>MO hw hk) op ht
 have e:GM (os.map (HG R ps ws)) t=DF R (λk=>bo R ps k (ws.getD k true)) os (t+1)+DF R (λk=>bo R ps k (ws.getD k true)) os (t+1)-gG (os.map λk=>bo R ps k (ws.getD k true)):=by
  have e1:Uh (os.map (HG R ps ws)) (t+1)=DF R (λk=>bo R ps k (ws.getD k true)) os (t+1):=by
   unfold Uh DF;rw[List.map_map];refine kR λk _=>?_
   show(if(RY R k:Int)<((t+1:Nat):Int)then bo R ps k (ws.getD k true)else 0)=_
   rw[j4];by_cases z:eh (aM R k)<t+1
   . rw[if_pos z,if_pos (by omega)]
   . rw[if_neg z,if_neg (by omega)]
  unfold GM;rw[e1,List.map_map];rfl
 rw[e];exact⟨a,b⟩
theorem sJ:UR 3 7 jg kG:=by
 rintro ls so - ⟨R,h,ps,rfl,hC,ht⟩;obtain⟨M,hD⟩:=hC.sld;have few:=hC.ch.few;have hc:=hC.cross;obtain⟨os,op,ow⟩:=Hz R (RU R ps);have opr:os.Perm (List.range R.asks.length):=by rw[<- hC.all];exact op
 unfold kG;walk_at "w";unfold lX;walk_at "w";refine⟨x_,λa=>?_⟩;unfold lW;walk_at "w";refine⟨R.asks.length,rfl,xL,λc=>?_⟩;walk_at "w";refine kP (enc:=fu) (wz R.asks.length) (λpre Z=>∃(x5 x6 x7:L),Z=[.d (aP R),.d (.int (h:Int)),.d (.lst (ps.map QS)),.d (.lst (R.asks.map eM)),.own a ((pre.filter (Av R ps os)).map fu),x5,x6,x7,.un,.un]/\(eX x5 && (eX x6 && eX x7))=true) _ ⟨_,_,_,rfl,rfl⟩ ?_ ?_
 .
  rintro pre ws suf Z hsp ⟨x5,x6,x7,rfl,hfl⟩ Q h1 h2 h3 h4;have wm:ws∈wz R.asks.length:=by rw[hsp];simp
  have wl:ws.length=R.asks.length:=uC.mp wm;have osl:∀k∈os,k<R.asks.length:=λk hk=>List.mem_range.mp (opr.mem_iff.mp hk);have ol:os.length<=5:=by rw[opr.length_eq,List.length_range];exact few
  unfold lU;walk_at "w";refine⟨R,h,ps,ws,rfl,hC,wl,λb os' op' ow'=>?_⟩;obtain rfl:os=os':=uJ hc op ow (by rw[hC.all];exact op') ow';rw[Kj];walk_at "w";unfold iM;walk_at "w";refine⟨R.asks,os.map (HG R ps ws),M,rfl,hC.ch.rb,⟨hD.d0,hD.d1⟩,by rw[UC];omega,λp hp=>?_,?_⟩
  . obtain⟨k,hk,rfl⟩:=List.mem_map.mp hp;exact⟨yP hC.sl (by rw[hC.sl.len];exact osl k hk) _,pU hC.sl.len hD.d0 hD.da hD.dp (by rw[hC.sl.len];exact osl k hk) _⟩
  rw[Om];have eb:R5 (cu R (List.range R.asks.length)) 0 ((os.map (HG R ps ws)).map (λx:Int×Rat=>x.2))=Av R ps os ws:=by rw[List.map_map];rfl
  rw[eb];walk_at "w";unfold iL;walk_at "w";refine⟨x_,λ_=>⟨x_,?_⟩⟩;refine Au (ss:=[]) (ws:=ws) hD x_ v6 wl (λz=>(z rfl hc).elim) λos' _ _ op' ow'=>?_;obtain rfl:os=os':=uJ hc op ow op' ow';have ek:((List.range R.asks.length).all (R4 R (k7 R ps []) (RU R (k7 R ps [])) ws) && R5 (cu R (RU R (k7 R ps []))) 0 (R6 R (k7 R ps []) ws os))=Av R ps os ws:=by show((List.range R.asks.length).all (R4 R ps (RU R ps) ws) && R5 (cu R (RU R ps)) 0 (R6 R ps ws os))=_;rw[hC.kw,Bool.true_and,hC.all];rfl
  rw[ek];dsimp only;refine⟨eL (n:=1) rfl x_,?_⟩;rw[G4,decide_eq_true rfl,if_neg (by decide)];unfold iK;walk_at "w";refine⟨R,ps,ws,rfl,hC.sl,wl,λd=>?_⟩;walk_at "w";refine⟨os.map (HG R ps ws),h,R.n,M,xc R ps ws,rfl,⟨hD.d0,hD.d1⟩,by rw[UC];exact ol,hC.ch.h5,hC.ch.hn,λp hp=>?_,λp hp=>?_,λt ht=>MS hC wl opr ht,?_⟩
  . obtain⟨k,hk,rfl⟩:=List.mem_map.mp hp;exact Kk hC hD (osl k hk) _
  . obtain⟨k,hk,rfl⟩:=List.mem_map.mp hp;exact Int.natCast_nonneg _
  walk_at "w";unfold iJ;walk_at "w"
  have nf:(pre++[ws]).filter (Av R ps os)=pre.filter (Av R ps os)++if Av R ps os ws then[ws]else[]:=by rw[List.filter_append];cases e:Av R ps os ws<;>simp[e]
  by_cases c:Av R ps os ws=true
  . rw[if_pos c]at nf ⊢;refine⟨?_,h1 _ ⟨_,_,_,by rw[nf,List.map_append];rfl,rfl⟩⟩;have l1:(pre.filter (Av R ps os)).length<=pre.length:=List.length_filter_le _ _;have l2:=congrArg List.length hsp;rw[uB,List.length_append]at l2;have l3:2^R.asks.length<=2^5:=Nat.pow_le_pow_right x_ few;exact UI (show _<=32 by omega) x_
  . rw[if_neg c]at nf ⊢;exact h1 _ ⟨_,_,_,by rw[nf,List.append_nil],rfl⟩
 .
  rintro Z ⟨x5,x6,x7,rfl,hfl⟩;walk_at "w";unfold lV;walk_at "w";refine⟨R,ps,rfl,hC.sl,λa' b' os' op' ow'=>?_⟩;have en:Ak R ps=none:=by unfold Ak;rw[hc];rfl
  have eb:DA R 20 ps=ps:=by unfold DA;rw[en]
  have es:tI R 20 ps=[]:=by unfold tI;rw[en]
  rw[es,eb];rw[eb]at op';have op':os'.Perm (RU R ps):=op';obtain rfl:os=os':=uJ hc op ow op' ow';walk_at "w";unfold lT;walk_at "w";have wl:(R1 R ps (cu R (cM R ps)) 0 (R3 R ps) os).length=R.asks.length:=by rw[Hr,Ht hC.sl]
  have wd:Av R ps os (R1 R ps (cu R (cM R ps)) 0 (R3 R ps) os)=true:=by have:=J1 hC.sl op;unfold Av;rw[hC.all]at this;have e:cM R ps=List.range R.asks.length:=hC.all;rw[e];exact this
  generalize R1 R ps (cu R (cM R ps)) 0 (R3 R ps) os=ws at *;have hm:ws∈(wz R.asks.length).filter (Av R ps os):=List.mem_filter.mpr ⟨uC.mpr wl,wd⟩;refine⟨x_,Au (ss:=[]) (ws:=ws) hD x_ v6 wl (λz=>(z rfl hc).elim) λos' _ _ op' ow'=>?_⟩;obtain rfl:os=os':=uJ hc op ow op' ow';have ek:((List.range R.asks.length).all (R4 R (k7 R ps []) (RU R (k7 R ps [])) ws) && R5 (cu R (RU R (k7 R ps []))) 0 (R6 R (k7 R ps []) ws os))=true:=by show((List.range R.asks.length).all (R4 R ps (RU R ps) ws) && R5 (cu R (RU R ps)) 0 (R6 R ps ws os))=_;rw[hC.kw,Bool.true_and,hC.all];exact wd
  rw[ek];dsimp only;rw[if_pos rfl];refine⟨hfl,x_,λ_=>⟨Bq _,eL (n:=1) rfl x_,?_⟩⟩
  have ne:((wz R.asks.length).filter (Av R ps os)).isEmpty=false:=by
   cases e:(wz R.asks.length).filter (Av R ps os)
   . rw[e]at hm;cases hm
   . rfl
  rw[Ki,ne,if_pos rfl];refine⟨x_,λ_=>⟨eL (n:=1) rfl x_,eL (n:=1) rfl x_,?_⟩⟩;rw[show QI (D.lst []) (D.lst [])=true from by decide +kernel,if_neg (by decide)];refine⟨hfl,tG ws,Bf ws,Ds _,?_⟩;show _/\aR _ so (.rt (.d (.bl (AQ (fu ws) _)))) _;rw[Gp,decide_eq_true hm];exact⟨rfl,_,ai (ai (ai aO)),ht⟩
def fs_law:FS:=λls so=>∃ns:List Int,ls=[.d (.lst (ns.map .int))]/\ns.length<=63/\so (.d (.bl true)) ls
theorem D6{ns:List Int}(hl:ns.length<=63):fs_law [.d (.lst (ns.map .int))] (λr _=>r=.d (.bl true)):=⟨ns,rfl,hl,rfl⟩
def oI:W Fl:=(vJ (IH 7 (aD cB (aq (bI (ax bF (ax aK (aj 12) (wC (.int 0))) (aj 13))) (aq (bI (ax bF (ax aK (aj 12) (wC (.int 1))) (wC (.int 12)))) aI)))))
def D7:W Fl:=(a5 (bD 13 (ax aK (r6 (aq (bI (ax fP (wC (.int 1)) (fV bc 0 6 (xv 6 (aq (wC (.int 11)) aI))))) (aq (wC (.int 6)) aI))) (bp AS (aq (aj 8) aI))))
  oI)
def tQ:W Fl:=(QC (vI (aW (vY 7 (aD jg (aq (aj 4) (aq (aj 3) (aq (aj 7) aI))))))) (bN (wC (.bl false))) cm)
def tR:W Fl:=(a5 (p6 (ub (aj 2)) (cn [9,10,11,12]) D7)
  tQ)
def tS:W Fl:=(a5 (bD 8 (ax sU (fV bc 0 6 (xv 6 (aq (wC (.int 4)) aI))) (wC (.int 0))))
  tR)
def tT:W Fl:=(a5 (bD 7 (r6 aI))
  tS)
def D8:W Fl:=(a5 (bD 6 (aD dQ (aq (aj 0) (aq (aj 5) aI))))
  tT)
def D9:W Fl:=(bN (wC (.bl true)))
def Ea:W Fl:=(a5 (p6 (Ir (wC (.int 2)) (bp Cg (aq (wC (.int 3)) (aq (bI (bp AR (aq (bI (bp fh (aq (aj 0) aI))) (aq (wC (.int 4)) aI)))) aI)))) (bu 5) D8)
  D9)
def Eb:W Fl:=(a5 (bD 4 (nJ (aq (aj 1) (aq (aj 2) aI))))
  Ea)
def Kl:W Fl:=(a5 (Fc [1,2,3] (aD jf (aq (aj 0) aI)))
  Eb)
def Ui(z p:Rat):Prop:=∃v:Int,1<=v/\v<=11/\p=z*Rat.divInt v 12
theorem On{z p:Rat}(h:Ui z p)(hz:0<z):0<p/\p<z:=by
 obtain⟨v,v0,v1,rfl⟩:=h;have f0:0<Rat.divInt v 12:=(rF xL xL x_ x_).2.1 xL
 have f1:0<1-Rat.divInt v 12:=by
  have e1:1-Rat.divInt v 12=Rat.divInt (12-v) 12:=by have:(1:Rat)=Rat.divInt 12 12:=rfl;rw[this,Rat.divInt_sub_divInt _ _ x_ x_,Rat.divInt_eq_divInt_iff x_ x_];omega
  rw[e1];exact(rF xL xL x_ x_).2.1 xL
 have m0:=Rat.mul_pos hz f0;have m1:=Rat.mul_pos hz f1;exact⟨m0,by grind⟩
theorem Oo{R:aL}{h:Nat}{ps:List Rat}(c:oX R h)(hl:ps.length=R.asks.length)(ht:∀x∈R.asks.zip ps,Ui x.1.size x.2):di R h ps:=by
 have at':∀k,k<R.asks.length->Ui (R.sz k) (ps.getD k 0):=λk hk=>by
  have hz:k<(R.asks.zip ps).length:=by rw[List.length_zip];omega
  have:=ht _ (UD hz);rw[List.getElem_zip]at this;rw[bC (show k<ps.length by omega),jE hk];exact this
 have pos:∀k,k<R.asks.length->0<R.sz k:=λk hk=>by rw[jE hk];exact c.pos _ (UD hk)
 have lt:∀k,k<R.asks.length->0<ps.getD k 0/\ps.getD k 0<R.sz k:=λk hk=>On (at' k hk) (pos k hk);refine⟨c,⟨c.ok,hl,λk hk=>?_,?_⟩,lt,λk hk=>?_⟩
 . obtain⟨a,b⟩:=lt k xL;exact⟨by grind,by grind⟩
 .
  obtain⟨D,d0,d1,da⟩:=c.ok.cd;refine⟨D*12,xL,xL,λa ha=>Nat.dvd_trans (da a ha) (Nat.dvd_mul_right _ _),λp hp=>?_⟩;obtain⟨k,hk,rfl⟩:=List.getElem_of_mem hp;have hk':k<R.asks.length:=by omega
  obtain⟨v,v0,v1,e⟩:=at' k hk';rw[<- bC hk,e];refine Nat.dvd_trans (yo _ _) (Nat.mul_dvd_mul ?_ ?_)
  . rw[jE hk'];exact da _ (UD hk')
  . have:=yn (t:=v) (b:=12) x_;exact this
 . rw[jE hk];exact Pc (c.rb _ (UD hk))
theorem Km:UR 1 13 fs_law Kl:=by
 rintro ls so - ⟨ns,rfl,hl,hp⟩;unfold Kl;walk_at "w";refine⟨ns,rfl,λR h hC=>?_⟩;walk_at "w";unfold Eb;walk_at "w";unfold Ea;walk_at "w";refine⟨x_,⟨x_,x_⟩,⟨?_,?_⟩,?_⟩
 . split<;>split<;>omega
 . split<;>split<;>omega
 refine zW 2 _ (λj Z=>∃(x5 x6 x7 x8 x9 x10 x11 x12 x13:L),Z=[.d (.lst (ns.map .int)),.d (.lst (R.rooms.map QS)),.d (.lst (R.asks.map eM)),.d (.int (h:Int)),.d (aP R),x5,x6,x7,x8,x9,x10,x11,x12,x13]/\(eX x9 && (eX x10 && (eX x11 && (eX x12 && eX x13))))=true) _ ⟨_,_,_,_,_,_,_,_,_,rfl,rfl⟩ ?_ ?_
 .
  rintro j Z hj ⟨x5,x6,x7,x8,x9,x10,x11,x12,x13,rfl,hfl⟩ Q h1 h2 h3 h4;have hj':j<24:=by split at hj<;>split at hj<;>omega
  clear hj;unfold D8;walk_at "w";refine⟨ns,2+(j:Int),rfl,xL,xL,λa xs hx=>?_⟩;walk_at "w";unfold tT;walk_at "w";refine⟨x_,λc=>?_⟩;unfold tS;walk_at "w";refine⟨a,xs,4,rfl,hx,x_,x_,λr ys hy r0 r1=>⟨ys,rfl,?_⟩⟩;walk_at "w";unfold tR;walk_at "w";refine kP (enc:=eM) R.asks (λpre Z=>∃(ps:List Rat)(zs:List D)(x9 x10 x11 x12 x13:L),Z=[.d (.lst (ns.map .int)),.d (.lst (R.rooms.map QS)),.d (.lst (R.asks.map eM)),.d (.int (h:Int)),.d (aP R),.d (.int (2+(j:Int))),.own a zs,.own c (ps.map QS),.d (.bl (decide (r=0))),x9,x10,x11,x12,x13]/\(eX x9 && (eX x10 && (eX x11 && (eX x12 && eX x13))))=true/\BC zs/\ps.length=pre.length/\∀x∈pre.zip ps,Ui x.1.size x.2) _ ⟨[],ys,_,_,_,_,_,rfl,hfl,hy,rfl,v6⟩ ?_ ?_
  .
   rintro pre A suf Z hsp ⟨ps,zs,x9,x10,x11,x12,x13,rfl,hfl,hz,p4,htw⟩ Q h1 h2 h3 h4;have hA:nY R.n A:=hC.ok.ask A (by rw[hsp];simp);have hAb:RB 60 A.size:=hC.rb A (by rw[hsp];simp);have pl:pre.length<5:=by have:=congrArg List.length hsp;rw[List.length_append,List.length_cons]at this;have:=hC.few;omega
   have PR:∀(v:Int)(us:List D)(d9 d10 d11:D),BC us->1<=v->v<=11->oI [.d (.lst (ns.map .int)),.d (.lst (R.rooms.map QS)),.d (.lst (R.asks.map eM)),.d (.int (h:Int)),.d (aP R),.d (.int (2+(j:Int))),.own a us,.own c (ps.map QS),.d (.bl (decide (r=0))),.d d9,.d d10,.d d11,.d (QS A.size),.d (.int v)] Q:=by
    intro v us d9 d10 d11 hu v0 v1;have hd:=A.size.den_pos;unfold oI;walk_at "w";refine⟨hAb.bn x_,bK xL,hAb.bd x_,bK x_,A.size.num*v,(A.size.den:Int)*12,rfl,Int.mul_ne_zero xL x_,?_,?_⟩
    . rw[Int.natAbs_mul];exact UB (bj (m:=60) (n:=10) (by rw[Int.natAbs_natCast];exact hAb.2) (show(12:Int).natAbs<2^10 by decide)) (Nat.pow_le_pow_right x_ x_)
    rw[<- Rat.divInt_mul_divInt,Rat.num_divInt_den];dsimp only;refine⟨UB (show ps.length<20 by omega) x_,h1 _ ⟨ps++[A.size*Rat.divInt v 12],us,_,_,_,_,_,by rw[List.map_append];rfl,by simp only[qe,Bool.and_true],hu,by rw[List.length_append,List.length_append,p4];rfl,λx hx=>?_⟩⟩;rw[List.zip_append xL]at hx;rcases List.mem_append.mp hx with hx|hx
    . exact htw x hx
    .
     have:x=(A,A.size*Rat.divInt v 12):=by simpa using hx
     subst this;exact⟨v,v0,v1,rfl⟩
   unfold D7;show cn [9,10,11,12] (.tup [.str A.nm,.int (A.one:Int),.int (A.other:Int),QS A.size]) _ _;walk_at "w";refine⟨a,zs,11,rfl,hz,x_,x_,λv us hu v0 v1=>⟨us,rfl,?_⟩⟩;refine⟨x_,λ_=>?_⟩;by_cases c:r=0
   . rw[if_pos c];exact⟨_,yb,PR 6 us _ _ _ hu x_ x_⟩
   . rw[if_neg c];exact⟨_,ya,PR (1+v) us _ _ _ hu xL xL⟩
  .
   rintro Z ⟨ps,zs,x9,x10,x11,x12,x13,rfl,hfl,hz,p4,htw⟩;walk_at "w";unfold tQ;walk_at "w";refine⟨?_,R,h,ps,rfl,Oo hC p4 htw,rfl,?_⟩
   . obtain⟨i1,i2,b,rfl,_⟩:=hz;exact hfl
   exact h1 _ ⟨_,_,_,_,_,_,_,_,_,rfl,hfl⟩
 . rintro Z ⟨x5,x6,x7,x8,x9,x10,x11,x12,x13,rfl,hfl⟩;walk_at "w";unfold D9;walk_at "w";exact⟨_,ai aO,hp⟩
noncomputable abbrev ik:Stmt:=Hd.inCls (Hd.top 3) 0
noncomputable abbrev kH:FuncData:=Rj "__init__" "LoadError.__init__" ik (.str "ringloads.errors" 198) 34
noncomputable abbrev gT:Stmt:=Hd.inCls (Hd.top 4) 0
noncomputable abbrev jh:FuncData:=Rj "__init__" "NoSlide.__init__" gT (.str "ringloads.errors" 198) 54
structure Tx (K:PySem.W.Frag) (mg:Str->Option Value) (ad:Nat->Addr) (fd:Nat->FuncData):Prop where
 Vj:FX K mg "greatest_shared" ej (ad 0) (fd 0) ["one","other"]
 U9:FX K mg "is_whole" n4 (ad 1) (fd 1) ["thing"]
 Vk:FX K mg "is_number_below" eu (ad 2) (fd 2) ["thing","many"]
 VC:FX K mg "are_two_wholes" fv (ad 3) (fd 3) ["thing"]
 VD:FX K mg "is_ratio" n6 (ad 4) (fd 4) ["thing"]
 Va:FX K mg "lowest" uK (ad 5) (fd 5) ["top","bottom"]
 U3:FX K mg "plus" DJ (ad 6) (fd 6) ["one","other"]
 UZ:FX K mg "minus" yv (ad 7) (fd 7) ["one","other"]
 VE:FX K mg "times" yw (ad 8) (fd 8) ["one","other"]
 UW:FX K mg "under" yx (ad 9) (fd 9) ["one","other"]
 VF:FX K mg "greater" qF (ad 10) (fd 10) ["one","other"]
 VG:FX K mg "lesser" uL (ad 11) (fd 11) ["one","other"]
 VH:FX K mg "sum_of" uM (ad 12) (fd 12) ["some"]
 Vb:FX K mg "lesser_place" g9 (ad 13) (fd 13) ["ring","k"]
 Vl:FX K mg "greater_place" gh (ad 14) (fd 14) ["ring","k"]
 VI:FX K mg "do_cross" n8 (ad 15) (fd 15) ["ring","k","l"]
 U5:FX K mg "parted_in" iW (ad 16) (fd 16) ["ring","sending"]
 Vc:FX K mg "first_side_by_side" cL (ad 17) (fd 17) ["ring","some"]
 Vd:FX K mg "is_way" uN (ad 18) (fd 18) ["thing"]
 VJ:FX K mg "other_way" mj (ad 19) (fd 19) ["way"]
 Vm:FX K mg "ties_of" j5 (ad 20) (fd 20) ["ring","k","way"]
 VL:FX K mg "is_over" qJ (ad 21) (fd 21) ["ring","k","way","tie"]
 VM:FX K mg "sent_over" ml (ad 22) (fd 22) ["ring","sending","k","tie"]
 VN:FX K mg "load_of" nh (ad 23) (fd 23) ["ring","sending","tie"]
 Vn:FX K mg "loads_of" kU (ad 24) (fd 24) ["ring","sending"]
 VO:FX K mg "are_ways" kW (ad 25) (fd 25) ["ring","thing"]
 VP:FX K mg "sent_by" nj (ad 26) (fd 26) ["ring","ways"]
 Vo:FX K mg "part_behind" iX (ad 27) (fd 27) ["part","way","amount"]
 Vp:FX K mg "slid_once" mn (ad 28) (fd 28) ["sending","slide"]
 Vq:FX K mg "share_no_tie" eN (ad 29) (fd 29) ["ring","k","way","l","other"]
 VQ:FX K mg "has_form_of_slide" cZ (ad 30) (fd 30) ["thing","asks"]
 Vr:FX K mg "not_sent" n9 (ad 31) (fd 31) ["ring","sending","k","way"]
 Vs:FX K mg "most_slid" mr (ad 32) (fd 32) ["ring","sending","slide"]
 VR:FX K mg "is_slide" oa (ad 33) (fd 33) ["ring","sending","thing"]
 Vt:FX K mg "slid_by" qK (ad 34) (fd 34) ["ring","sending","thing"]
 VS:FX K mg "ways_apart" j6 (ad 35) (fd 35) ["ring","k","l"]
 VT:FX K mg "greatest_slide" fw (ad 36) (fd 36) ["ring","sending","k","l"]
 VU:FX K mg "slides_for" j7 (ad 37) (fd 37) ["ring","sending"]
 Vu:FX K mg "nearest_way" iY (ad 38) (fd 38) ["ask","part"]
 VV:FX K mg "keeps_whole_asks" dF (ad 39) (fd 39) ["ring","slid","parted","ways"]
 Vv:FX K mg "half_of_greatest" dG (ad 40) (fd 40) ["ring","some"]
 Vw:FX K mg "by_lesser_place" cG (ad 41) (fd 41) ["ring","some"]
 VW:Ma K "by_lesser_place" (fd 41) cG
 Ve:FX K mg "rising_way" j8 (ad 42) (fd 42) ["ring","k"]
 Vf:FX K mg "gain_of" qL (ad 43) (fd 43) ["ring","sending","k","way"]
 VX:FX K mg "keeps_within" hG (ad 44) (fd 44) ["ring","slid","parted","ways"]
 Vx:FX K mg "lets_rounding" gi (ad 45) (fd 45) ["ring","sending","thing"]
 VY:FX K mg "rounded_ways" eO (ad 46) (fd 46) ["ring","slid"]
 VZ:FX K mg "rounding_of" iZ (ad 47) (fd 47) ["ring","sending"]
 V0:FX K mg "gains_of" kX (ad 48) (fd 48) ["ring","sending","ways"]
 Vg:FX K mg "_law_begun" j9 (ad 49) (fd 49) ["_law_script","_law_k"]
 UV:FX K mg "_law_take" mv (ad 50) (fd 50) ["_law_state","_law_many"]
 U2:FX K mg "_law_low" og (ad 51) (fd 51) ["_law_top","_law_bottom"]
 V1:FX K mg "_law_amount" i0 (ad 52) (fd 52) ["_law_state","_law_least","_law_kind"]
 V2:FX K mg "_law_chain" gQ (ad 53) (fd 53) ["_law_script"]
 V3:FX K mg "_law_all_ways" cw (ad 54) (fd 54) ["_law_many"]
 U4:FX K mg "_law_minus" ka (ad 55) (fd 55) ["_law_one","_law_other"]
 V4:FX K mg "_law_sums" mw (ad 56) (fd 56) ["_law_asks","_law_sending","_law_ways"]
 Vy:FX K mg "_law_under" kb (ad 57) (fd 57) ["_law_one","_law_other"]
 U6:FX K mg "_law_plus" mx (ad 58) (fd 58) ["_law_one","_law_other"]
 V5:FX K mg "_law_bounded" hJ (ad 59) (fd 59) ["_law_asks","_law_rows"]
 V6:FX K mg "_law_gains_right" dH (ad 60) (fd 60) ["_law_rows","_law_half","_law_gains"]
 V7:FX K mg "_law_right" kc (ad 61) (fd 61) ["_law_ring","_law_half","_law_sending"]
 V8:FX K mg "law" GC (ad 62) (fd 62) ["_law_script"]
 li:CM K mg 38 35 kH ik
 Wc:Qq K "__init__" "NoSlide.__init__" gT 55 jh
 V9:XT K mg "NoSlide" 58 55 jh ["self","number"] ["number"]
 Wd:XH K mg "NoSlide" 58
 We:mg "ValueError"=none
 Vh:mg "abs"=none
 Wf:mg "all"=none
 Wg:mg "any"=none
 Wh:mg "bool"=none
 U7:mg "enumerate"=none
 Vi:mg "int"=none
 U0:mg "isinstance"=none
 UU:mg "len"=none
 U8:mg "list"=none
 Wa:mg "max"=none
 Vz:mg "min"=none
 UX:mg "range"=none
 Wb:mg "sorted"=none
 Wi:mg "str"=none
 VA:mg "tuple"=none
 VB:mg "zip"=none
 U1:xO K mg "BACK" (.str "back")
 Wj:xO K mg "HALF" (.tup [(.int 1),(.int 2)])
 UY:xO K mg "NOUGHT" (.tup [(.int 0),(.int 1)])
 UT:xO K mg "ON" (.str "on")
section
variable{P:Program}{w:World}{K:PySem.W.Frag}{mg:Str->Option Value}{base:Heap}{ad:Nat->Addr}{fd:Nat->FuncData}
theorem UQ{a b:List Str}{c:Scope}(h:az a b c:=by exact ⟨rfl,rfl,rfl,y_,rfl,y_,y_⟩):az a b c:=h
theorem rH:az ["self","text"] ["self","text"] (ak ik):=UQ
theorem u9:az ["self","number"] ["self","number"] (ak gT):=UQ
theorem xi(T:Tx K mg ad fd):FnOk P w K mg base CX0 1 35 kH ["self","text"] (M0 K):=T.li.f.ok (k:=0) rH Fx (λcdv A outer s H vs Q E hr q=>⟨_,BJ (BK (Fq rfl T.We (cW (pv 0) (cW (pv 1) ly)))),Je q⟩)
theorem tU(T:Tx K mg ad fd):FnOk P w K mg base CX0 2 55 jh ["self","number"] (LJ K ["number"]):=T.Wc.ok (k:=1) u9 Fy (λcdv A outer s H vs Q E hr q=>⟨_,En (BK (Fs T.li (xi T) hr rfl (cW (pv 0) (cW GT ly)))) (BJ (Jd (pv 0) (pv 1))),Jf q⟩)
theorem cj:az nZ ["one","other"] (ak ej):=UQ
abbrev US(T:Tx K mg ad fd)(P:Program)(w:World)(base:Heap)(d i:Nat)(ps:List Str)(n:Nat)(f:FS):Prop:=FnOk P w K mg base CX0 d (ad i) (fd i) ps (spF K n f)
theorem gU(T:Tx K mg ad fd):US T P w base 1 0 ["one","other"] 2 cb:=
 bf (k:=0) T.Vj.f cj eA (λcdv A outer s H E hr=>(ah (ua PassesOwn.never (QA (pj hr.units) (ae 1) ag (aY _)) (ah (aC (i:=2) cj.nd rfl v4 (aH gL (ae 0) (ae 1)))
  (ah (aC (i:=0) cj.nd rfl v4 (ae 1))
  (ao (aC (i:=1) cj.nd rfl v4 (ae 2))))))
  (ao (aF (aZ zv rfl T.Vh y_ (aa (ae 0) af))))))
  mz
theorem yS:az Bg ["thing"] (ak n4):=UQ
theorem mP(T:Tx K mg ad fd):US T P w base 1 1 ["thing"] 1 gm:=
 bf (k:=0) T.U9.f yS kY (λcdv A outer s H E hr=>(ao (aF (gJ (oU IQ rfl T.U0 rfl T.Vi y_ (ae 0)) (jO (Cb (oU Ff rfl T.U0 rfl T.Wh y_ (ae 0))))))))
  wW
theorem nE:az n5 ["thing","many"] (ak eu):=UQ
theorem gW(T:Tx K mg ad fd):US T P w base 2 2 ["thing","many"] 2 cf:=
 bf (k:=1) T.Vk.f nE eB (λcdv A outer s H E hr=>(ao (aF (gJ (aG (mP T) T.U9 hr (aa (ae 0) af)) (jO (Fh Nr Nq ag (ae 0) (ae 1)))))))
  mB
theorem oJ:az pC ["thing"] (ak fv):=UQ
theorem oK(T:Tx K mg ad fd):US T P w base 2 3 ["thing"] 1 eE:=
 bf (k:=1) T.VC.f oJ cS (λcdv A outer s H E hr=>(ao (aF (gJ (oU p8 rfl T.U0 rfl T.VA y_ (ae 0)) (gJ (dX (jD hr.units) (aZ gM rfl T.UU y_ (aa (ae 0) af)) ag (aY _)) (gJ (aG (mP T) T.U9 hr (aa (au (ae 0) ag UL) af)) (jO (aG (mP T) T.U9 hr (aa (au (ae 0) ag UL) af)))))))))
  ny
theorem yT:az Bh ["thing"] (ak n6):=UQ
theorem yU(T:Tx K mg ad fd):US T P w base 3 4 ["thing"] 1 mC:=
 bf (k:=2) T.VD.f yT kZ (λcdv A outer s H E hr=>(ao (aF (gJ (aG (oK T) T.VC hr (aa (ae 0) af)) (gJ (dX Ld (au (ae 0) ag UL) ag (aY _)) (jO (dX (jD hr.units) (aG (gU T) T.Vj hr (aa (au (ae 0) ag UL) (aa (au (ae 0) ag UL) af))) ag (aY _))))))))
  wX
theorem rJ:az Gy ["top","bottom"] (ak uK):=UQ
theorem rK(T:Tx K mg ad fd):US T P w base 2 5 ["top","bottom"] 2 ke:=
 bf (k:=1) T.Va.f rJ uS (λcdv A outer s H E hr=>(ah (aC (i:=2) rJ.nd rfl v4 (aA (aG (gU T) T.Vj hr (aa (ae 0) (aa (ae 1) af)))))
  (ah (cY (QA nR (ae 1) ag (aY _)) (ao (aC (i:=2) rJ.nd rfl v4 (K6 (ae 2)))) a9)
  (ao (aF (bQ (aa (aH sT (ae 0) (ae 2)) (aa (aH sT (ae 1) (ae 2)) af))))))))
  Bm
theorem Kn:az MH ["one","other"] (ak DJ):=UQ
theorem rL(T:Tx K mg ad fd):US T P w base 3 6 ["one","other"] 2 i3:=
 bf (k:=2) T.U3.f Kn DO (λcdv A outer s H E hr=>(ao (aF (aG (rK T) T.Va hr (aa (aA (aH dh (aH bg (au (ae 0) ag UL) (au (ae 1) ag UL)) (aH bg (au (ae 1) ag UL) (au (ae 0) ag UL)))) (aa (aA (aH bg (au (ae 0) ag UL) (au (ae 1) ag UL))) af))))))
  GD
theorem GO:az J6 ["one","other"] (ak yv):=UQ
theorem ji(T:Tx K mg ad fd):US T P w base 3 7 ["one","other"] 2 cT:=
 bf (k:=2) T.UZ.f GO yF (λcdv A outer s H E hr=>(ao (aF (aG (rK T) T.Va hr (aa (aH mX (aH bg (au (ae 0) ag UL) (au (ae 1) ag UL)) (aH bg (au (ae 1) ag UL) (au (ae 0) ag UL))) (aa (aA (aH bg (au (ae 0) ag UL) (au (ae 1) ag UL))) af))))))
  DP
theorem GP:az J7 ["one","other"] (ak yw):=UQ
theorem GQ(T:Tx K mg ad fd):US T P w base 3 8 ["one","other"] 2 uT:=
 bf (k:=2) T.VE.f GP yG (λcdv A outer s H E hr=>(ao (aF (aG (rK T) T.Va hr (aa (aA (aH bg (au (ae 0) ag UL) (au (ae 1) ag UL))) (aa (aA (aH bg (au (ae 0) ag UL) (au (ae 1) ag UL))) af))))))
  DQ
theorem GR:az J8 ["one","other"] (ak yx):=UQ
theorem fT(T:Tx K mg ad fd):US T P w base 1 9 ["one","other"] 2 dJ:=
 bf (k:=0) T.UW.f GR yH (λcdv A outer s H E hr=>(ao (aF (dX nR (aH bg (au (ae 0) ag UL) (au (ae 1) ag UL)) (aH bg (au (ae 1) ag UL) (au (ae 0) ag UL)) (aY _)))))
  DS
theorem Br:az DK ["one","other"] (ak qF):=UQ
theorem Bs(T:Tx K mg ad fd):US T P w base 2 10 ["one","other"] 2 oh:=
 bf (k:=1) T.VF.f Br qN (λcdv A outer s H E hr=>(ao (aF (lA (bP (aG (fT T) T.UW hr (aa (ae 0) (aa (ae 1) af)))) (ae 1) (ae 0)))))
  yI
theorem Ec:az Gz ["one","other"] (ak uL):=UQ
theorem Ed(T:Tx K mg ad fd):US T P w base 2 11 ["one","other"] 2 qO:=
 bf (k:=1) T.VG.f Ec uU (λcdv A outer s H E hr=>(ao (aF (lA (bP (aG (fT T) T.UW hr (aa (ae 1) (aa (ae 0) af)))) (ae 1) (ae 0)))))
  Bn
theorem nF:az GA ["some"] (ak uM):=UQ
theorem Ee(T:Tx K mg ad fd):US T P w base 4 12 ["some"] 1 qP:=
 bf (k:=3) T.VH.f nF uV (λcdv A outer s H E hr=>(ah (aC (i:=1) nF.nd rfl v4 (jX T.UY rfl))
  (ah (cP PassesOwn.never rfl (cq (ae 0)) (fg (i:=2) nF.nd rfl v4) (ao (aC (i:=1) nF.nd rfl v4 (aG (rL T) T.U3 hr (aa (ae 1) (aa (ae 2) af))))))
  (ao (aF (jN 1))))))
  Bo
theorem rM:az sj ["ring","k"] (ak g9):=UQ
theorem gB(T:Tx K mg ad fd):US T P w base 1 13 ["ring","k"] 2 cx:=
 bf (k:=0) T.Vb.f rM hU (λcdv A outer s H E hr=>(ao (aF (aZ (Ci rfl) rfl T.Vz y_ (aa (au (au (au (ae 0) ag UL) (ae 1) UL) ag UL) (aa (au (au (au (ae 0) ag UL) (ae 1) UL) ag UL) af))))))
  pE
theorem pK:az qG ["ring","k"] (ak gh):=UQ
theorem jB(T:Tx K mg ad fd):US T P w base 1 14 ["ring","k"] 2 cU:=
 bf (k:=0) T.Vl.f pK gp (λcdv A outer s H E hr=>(ao (aF (aZ (G1 rfl) rfl T.Wa y_ (aa (au (au (au (ae 0) ag UL) (ae 1) UL) ag UL) (aa (au (au (au (ae 0) ag UL) (ae 1) UL) ag UL) af))))))
  oj
theorem gC:az Bi ["ring","k","l"] (ak n8):=UQ
theorem yV(T:Tx K mg ad fd):US T P w base 2 15 ["ring","k","l"] 3 mD:=
 bf (k:=1) T.VI.f gC om (λcdv A outer s H E hr=>(ah (aC (i:=3) gC.nd rfl v4 (aA (aG (gB T) T.Vb hr (aa (ae 0) (aa (ae 1) af)))))
  (ah (aC (i:=4) gC.nd rfl v4 (aA (aG (jB T) T.Vl hr (aa (ae 0) (aa (ae 1) af)))))
  (ah (aC (i:=5) gC.nd rfl v4 (aA (aG (gB T) T.Vb hr (aa (ae 0) (aa (ae 2) af)))))
  (ah (aC (i:=6) gC.nd rfl v4 (aA (aG (jB T) T.Vl hr (aa (ae 0) (aa (ae 2) af)))))
  (ao (aF (K5 (vZ (ae 3) (qg.cons nR (ae 5) (qg.cons nR (ae 4) (qg.one nR (ae 6))))) (jO (vZ (ae 5) (qg.cons nR (ae 3) (qg.cons nR (ae 6) (qg.one nR (ae 4))))))))))))))
  wZ
theorem xj:az qH ["ring","sending"] (ak iW):=UQ
theorem gX(T:Tx K mg ad fd):US T P w base 2 16 ["ring","sending"] 2 bR:=
 bf (k:=1) T.U5.f xj mE (λcdv A outer s H E hr=>(ao (aF (fk (sc:=(ak iW)) (N:=qH) (Nt:=["k","part"]) (Nf:=["ring"]) (fi:=[0]) rfl rfl rfl (m7 rfl T.U7 (ae 1)) rfl y_ y_ y_ x_ rfl y_ x_ (λ_ _ _ _=>(vX rfl (cR (i:=0) x_ (show((["k","part"]:List Str)++(["ring"]:List Str)).Nodup by decide +kernel) rfl (Or.inl rfl) (cR (i:=1) x_ (show((["k","part"]:List Str)++(["ring"]:List Str)).Nodup by decide +kernel) rfl (Or.inl rfl) qc)))) (λ_ _ _ _=>(IK (Qy.pb (xJ (bP (aG (fT T) T.UW hr (aa (jX T.UY rfl) (aa (ae 1) af)))) (zp (bP (aG (fT T) T.UW hr (aa (ae 1) (aa (au (au (au (ae 2) ag UL) (ae 0) UL) ag UL) af))))))))) (λ_ _ _ _=>(ae 0))))))
  uX
theorem bL:az lh ["ring","some"] (ak cL):=UQ
theorem cD(T:Tx K mg ad fd):US T P w base 3 17 ["ring","some"] 2 aS:=
 bf (k:=2) T.Vc.f bL cN (λcdv A outer s H E hr=>(ah (cP PassesOwn.never rfl (m7 rfl T.U7 (ae 1)) (jR rfl (aU (i:=2) bL.nd rfl v4 (aU (i:=3) bL.nd rfl v4 fW))) (ao (cP PassesOwn.never rfl (cq (Cy (ae 1) (aH dh (ae 2) ag) trivial)) (fg (i:=4) bL.nd rfl v4) (ao (cY (iu (bP (aG (yV T) T.VI hr (aa (ae 0) (aa (ae 3) (aa (ae 4) af)))))) (ao (aF (bQ (aa (ae 3) (aa (ae 4) af))))) a9)))))
  (ao (aF zm))))
  jF
theorem Ef:az GB ["thing"] (ak uN):=UQ
theorem rN(T:Tx K mg ad fd):US T P w base 1 18 ["thing"] 1 kf:=
 bf (k:=0) T.Vd.f Ef uY (λcdv A outer s H E hr=>(ao (aF (gJ (oU IR rfl T.U0 rfl T.Wi y_ (ae 0)) (jO (dX Li (ae 0) (bQ (aa (jX T.UT rfl) (aa (jX T.U1 rfl) af))) rfl))))))
  Bp
theorem xk:az yy ["way"] (ak mj):=UQ
theorem xl(T:Tx K mg ad fd):US T P w base 1 19 ["way"] 1 kg:=
 bf (k:=0) T.VJ.f xk mF (λcdv A outer s H E hr=>(ao (aF (lA (QA (jD hr.units) (ae 0) (jX T.UT rfl) (aY _)) (jX T.U1 rfl) (jX T.UT rfl)))))
  uZ
theorem k8:az qI ["ring","k","way"] (ak j5):=UQ
theorem tV(T:Tx K mg ad fd):US T P w base 1 20 ["ring","k","way"] 3 k6:=
 bf (k:=0) T.Vm.f k8 qX (λcdv A outer s H E hr=>(ah (aC (i:=3) k8.nd rfl v4 (aA (aZ gM rfl T.UU y_ (aa (au (ae 0) ag UL) af))))
  (ah (aC (i:=4) k8.nd rfl v4 (au (au (au (ae 0) ag UL) (ae 1) UL) ag UL))
  (ah (aC (i:=5) k8.nd rfl v4 (au (au (au (ae 0) ag UL) (ae 1) UL) ag UL))
  (ah (cY (QA (jD hr.units) (ae 2) (jX T.UT rfl) (aY _)) (ao (aF (fk (sc:=(ak j5)) (N:=qI) (Nt:=["step"]) (Nf:=["one","places"]) (fi:=[4,3]) rfl rfl rfl (gK rfl T.UX (aH gL (aH mX (ae 5) (ae 4)) (ae 3))) rfl y_ y_ y_ x_ rfl y_ x_ (λ_ _ _ _=>(jV x_ (show((["step"]:List Str)++(["one","places"]:List Str)).Nodup by decide +kernel) rfl (Or.inl rfl))) (λ_ _ _ _=>fj) (λ_ _ _ _=>(aH gL (aH dh (ae 1) (ae 0)) (ae 2)))))) a9)
  (ao (aF (fk (sc:=(ak j5)) (N:=qI) (Nt:=["step"]) (Nf:=["one","places"]) (fi:=[4,3]) rfl rfl rfl (gK rfl T.UX (aH gL (aH mX (ae 4) (ae 5)) (ae 3))) rfl y_ y_ y_ x_ rfl y_ x_ (λ_ _ _ _=>(jV x_ (show((["step"]:List Str)++(["one","places"]:List Str)).Nodup by decide +kernel) rfl (Or.inl rfl))) (λ_ _ _ _=>fj) (λ_ _ _ _=>(aH gL (aH mX (aH mX (ae 1) ag) (ae 0)) (ae 2)))))))))))
  yJ
theorem iN:az DL ["ring","k","way","tie"] (ak qJ):=UQ
theorem Bt(T:Tx K mg ad fd):US T P w base 1 21 ["ring","k","way","tie"] 4 oo:=
 bf (k:=0) T.VL.f iN rg (λcdv A outer s H E hr=>(ah (aC (i:=4) iN.nd rfl v4 (aA (aZ gM rfl T.UU y_ (aa (au (ae 0) ag UL) af))))
  (ah (aC (i:=5) iN.nd rfl v4 (au (au (au (ae 0) ag UL) (ae 1) UL) ag UL))
  (ah (aC (i:=6) iN.nd rfl v4 (au (au (au (ae 0) ag UL) (ae 1) UL) ag UL))
  (ah (aC (i:=7) iN.nd rfl v4 (dX nR (aH gL (aH mX (ae 3) (ae 5)) (ae 4)) (aH gL (aH mX (ae 6) (ae 5)) (ae 4)) (aY _)))
  (ao (aF (dX (jD hr.units) (ae 7) (dX (jD hr.units) (ae 2) (jX T.UT rfl) (aY _)) (aY _)))))))))
  yK
theorem xm:az yz ["ring","sending","k","tie"] (ak ml):=UQ
theorem xn(T:Tx K mg ad fd):US T P w base 4 22 ["ring","sending","k","tie"] 4 ki:=
 bf (k:=3) T.VM.f xm mG (λcdv A outer s H E hr=>(ah (cY (bP (aG (Bt T) T.VL hr (aa (ae 0) (aa (ae 2) (aa (jX T.UT rfl) (aa (ae 3) af)))))) (ao (aF (au (ae 1) (ae 2) UL))) a9)
  (ao (aF (aG (ji T) T.UZ hr (aa (au (au (au (ae 0) ag UL) (ae 2) UL) ag UL) (aa (au (ae 1) (ae 2) UL) af)))))))
  u0
theorem Bu:az wK ["ring","sending","tie"] (ak nh):=UQ
theorem Bv(T:Tx K mg ad fd):US T P w base 5 23 ["ring","sending","tie"] 3 ou:=
 bf (k:=4) T.VN.f Bu rj (λcdv A outer s H E hr=>(ao (aF (aG (Ee T) T.VH hr (aa (aA (fk (sc:=(ak nh)) (N:=wK) (Nt:=["k"]) (Nf:=["ring","sending","tie"]) (fi:=[0,1,2]) rfl rfl rfl (gK rfl T.UX (aZ gM rfl T.UU y_ (aa (au (ae 0) ag UL) af))) rfl y_ y_ y_ x_ rfl y_ x_ (λ_ _ _ _=>(jV x_ (show((["k"]:List Str)++(["ring","sending","tie"]:List Str)).Nodup by decide +kernel) rfl (Or.inl rfl))) (λ_ _ _ _=>fj) (λ_ _ _ _=>(aG (xn T) T.VM hr (aa (ae 1) (aa (ae 2) (aa (ae 0) (aa (ae 3) af)))))))) af)))))
  yL
theorem yW:az tJ ["ring","sending"] (ak kU):=UQ
theorem rO(T:Tx K mg ad fd):US T P w base 6 24 ["ring","sending"] 2 i4:=
 bf (k:=5) T.Vn.f yW oy (λcdv A outer s H E hr=>(ao (aF (fk (sc:=(ak kU)) (N:=tJ) (Nt:=["tie"]) (Nf:=["ring","sending"]) (fi:=[0,1]) rfl rfl rfl (gK rfl T.UX (aZ gM rfl T.UU y_ (aa (au (ae 0) ag UL) af))) rfl y_ y_ y_ x_ rfl y_ x_ (λ_ _ _ _=>(jV x_ (show((["tie"]:List Str)++(["ring","sending"]:List Str)).Nodup by decide +kernel) rfl (Or.inl rfl))) (λ_ _ _ _=>fj) (λ_ _ _ _=>(aG (Bv T) T.VN hr (aa (ae 1) (aa (ae 2) (aa (ae 0) af)))))))))
  w5
theorem yX:az tK ["ring","thing"] (ak kW):=UQ
theorem yY(T:Tx K mg ad fd):US T P w base 2 25 ["ring","thing"] 2 i5:=
 bf (k:=1) T.VO.f yX oz (λcdv A outer s H E hr=>(ah (cY (Qy.pb (oT (iu (bP (oU zy rfl T.U0 rfl T.U8 y_ (ae 1)))) (l7 (QA (pj hr.units) (aZ gM rfl T.UU y_ (aa (ae 1) af)) (aZ gM rfl T.UU y_ (aa (au (ae 0) ag UL) af)) (aY _))))) (ao (aF ir)) a9)
  (ao (aF (aZ (Lx rfl) rfl T.Wf y_ (aa (aA (fk (sc:=(ak kW)) (N:=tK) (Nt:=["way"]) (Nf:=[]) (fi:=[]) rfl rfl rfl (cq (ae 1)) rfl y_ y_ y_ x_ rfl y_ x_ (λ_ _ _ _=>(jV x_ (show((["way"]:List Str)++([]:List Str)).Nodup by decide +kernel) rfl (Or.inl rfl))) (λ_ _ _ _=>fj) (λ_ _ _ _=>(aG (rN T) T.Vd hr (aa (ae 0) af))))) af))))))
  w7
theorem Bw:az wL ["ring","ways"] (ak nj):=UQ
theorem Bx(T:Tx K mg ad fd):US T P w base 1 26 ["ring","ways"] 2 oA:=
 bf (k:=0) T.VP.f Bw rl (λcdv A outer s H E hr=>(ao (aF (fk (sc:=(ak nj)) (N:=wL) (Nt:=["ask","way"]) (Nf:=[]) (fi:=[]) rfl rfl rfl (xR rfl T.VB (au (ae 0) ag UL) (ae 1)) rfl y_ y_ y_ x_ rfl y_ x_ (λ_ _ _ _=>(vX rfl (cR (i:=0) x_ (show((["ask","way"]:List Str)++([]:List Str)).Nodup by decide +kernel) rfl (Or.inl rfl) (cR (i:=1) x_ (show((["ask","way"]:List Str)++([]:List Str)).Nodup by decide +kernel) rfl (Or.inl rfl) qc)))) (λ_ _ _ _=>fj) (λ_ _ _ _=>(lA (QA (jD hr.units) (ae 1) (jX T.UT rfl) (aY _)) (au (ae 0) ag UL) (jX T.UY rfl)))))))
  yM
theorem sL:az uO ["part","way","amount"] (ak iX):=UQ
theorem lY(T:Tx K mg ad fd):US T P w base 4 27 ["part","way","amount"] 3 eQ:=
 bf (k:=3) T.Vo.f sL i6 (λcdv A outer s H E hr=>(ao (aF (lA (QA (jD hr.units) (ae 1) (jX T.UT rfl) (aY _)) (aG (rL T) T.U3 hr (aa (ae 0) (aa (ae 2) af))) (aG (ji T) T.UZ hr (aa (ae 0) (aa (ae 2) af)))))))
  rm
theorem o8:az yA ["sending","slide"] (ak mn):=UQ
theorem o9(T:Tx K mg ad fd):US T P w base 5 28 ["sending","slide"] 2 gR:=
 bf (k:=4) T.Vp.f o8 mH (λcdv A outer s H E hr=>(ah (aC (i:=2) o8.nd rfl v4 (jT Ck rfl T.U8 y_ (aa (ae 0) af)))
  (ah (ma 2 (au (ae 1) ag UL) (aG (lY T) T.Vo hr (aa (fE (fY 2 (au (ae 1) ag UL) UL) (au (ae 2) (au (ae 1) ag UL) UL)) (aa (au (ae 1) ag UL) (aa (au (ae 1) ag UL) af)))))
  (ah (ma 2 (au (ae 1) ag UL) (aG (lY T) T.Vo hr (aa (fE (fY 2 (au (ae 1) ag UL) UL) (au (ae 2) (au (ae 1) ag UL) UL)) (aa (au (ae 1) ag UL) (aa (au (ae 1) ag UL) af)))))
  (ao (aF (jN 2)))))))
  u3
theorem kI:az lE ["ring","k","way","l","other"] (ak eN):=UQ
theorem kJ(T:Tx K mg ad fd):US T P w base 2 29 ["ring","k","way","l","other"] 5 dM:=
 bf (k:=1) T.Vq.f kI hX (λcdv A outer s H E hr=>(ah (aC (i:=5) kI.nd rfl v4 (aA (aG (tV T) T.Vm hr (aa (ae 0) (aa (ae 3) (aa (ae 4) af))))))
  (ao (aF (Cb (aZ (Ly rfl) rfl T.Wg y_ (aa (aA (fk (sc:=(ak eN)) (N:=lE) (Nt:=["tie"]) (Nf:=["taken"]) (fi:=[5]) rfl rfl rfl (cq (aG (tV T) T.Vm hr (aa (ae 0) (aa (ae 1) (aa (ae 2) af))))) rfl y_ y_ y_ x_ rfl y_ x_ (λ_ _ _ _=>(jV x_ (show((["tie"]:List Str)++(["taken"]:List Str)).Nodup by decide +kernel) rfl (Or.inl rfl))) (λ_ _ _ _=>fj) (λ_ _ _ _=>(dX Li (ae 0) (ae 1) rfl)))) af)))))))
  pF
theorem lr:az mq ["thing","asks"] (ak cZ):=UQ
theorem lu(T:Tx K mg ad fd):US T P w base 4 30 ["thing","asks"] 2 cO:=
 bf (k:=3) T.VQ.f lr c7 (λcdv A outer s H E hr=>(ah (cY (Qy.pb (oT (iu (bP (oU p8 rfl T.U0 rfl T.VA y_ (ae 0)))) (l7 (QA (pj hr.units) (aZ gM rfl T.UU y_ (aa (ae 0) af)) ag (aY _))))) (ao (aF ir)) a9)
  (ah (cY (Qy.pb (oT (iu (bP (aG (gW T) T.Vk hr (aa (au (ae 0) ag UL) (aa (ae 1) af))))) (l7 (iu (bP (aG (gW T) T.Vk hr (aa (au (ae 0) ag UL) (aa (ae 1) af)))))))) (ao (aF ir)) a9)
  (ao (aF (gJ (aG (rN T) T.Vd hr (aa (au (ae 0) ag UL) af)) (gJ (aG (rN T) T.Vd hr (aa (au (ae 0) ag UL) af)) (jO (aG (yU T) T.VD hr (aa (au (ae 0) ag UL) af))))))))))
  kj
theorem yZ:az Bj ["ring","sending","k","way"] (ak n9):=UQ
theorem rP(T:Tx K mg ad fd):US T P w base 4 31 ["ring","sending","k","way"] 4 i7:=
 bf (k:=3) T.Vr.f yZ oB (λcdv A outer s H E hr=>(ao (aF (lA (QA (jD hr.units) (ae 3) (jX T.UT rfl) (aY _)) (aG (ji T) T.UZ hr (aa (au (au (au (ae 0) ag UL) (ae 2) UL) ag UL) (aa (au (ae 1) (ae 2) UL) af))) (au (ae 1) (ae 2) UL)))))
  w8
theorem xq:az yB ["ring","sending","slide"] (ak mr):=UQ
theorem pd(T:Tx K mg ad fd):US T P w base 5 32 ["ring","sending","slide"] 3 gS:=
 bf (k:=4) T.Vs.f xq mI (λcdv A outer s H E hr=>(ao (aF (aG (Ed T) T.VG hr (aa (aA (aG (rP T) T.Vr hr (aa (ae 0) (aa (ae 1) (aa (au (ae 2) ag UL) (aa (au (ae 2) ag UL) af)))))) (aa (aA (aG (rP T) T.Vr hr (aa (ae 0) (aa (ae 1) (aa (au (ae 2) ag UL) (aa (au (ae 2) ag UL) af)))))) af))))))
  u4
theorem y3:az Bk ["ring","sending","thing"] (ak oa):=UQ
theorem y7(T:Tx K mg ad fd):US T P w base 6 33 ["ring","sending","thing"] 3 mJ:=
 bf (k:=5) T.VR.f y3 oC (λcdv A outer s H E hr=>by exact(@ah _ _ _ _ _ (@cY _ _ _ _ _ _ _ _ (Qy.pb (oT (iu (bP (aG (lu T) T.VQ hr (@aa _ _ _ _ _ _ (ae 2) (@aa _ _ _ _ _ _ (@aA _ _ _ (aZ gM rfl T.UU y_ (@aa _ _ _ _ _ _ (@au _ _ _ _ _ _ (ae 0) ag UL) af z_))) af z_) z_)))) (l7 (QA (jD hr.units) (@au _ _ _ _ _ _ (ae 2) ag UL) (@au _ _ _ _ _ _ (ae 2) ag UL) (aY _))))) (@ao _ _ _ (@aF _ _ _ _ ir)) a9) (@ah _ _ _ _ _ (@cY _ _ _ _ _ _ _ _ (iu (bP (aG (kJ T) T.Vq hr (@aa _ _ _ _ _ _ (ae 0) (@aa _ _ _ _ _ _ (@au _ _ _ _ _ _ (ae 2) ag UL) (@aa _ _ _ _ _ _ (@au _ _ _ _ _ _ (ae 2) ag UL) (@aa _ _ _ _ _ _ (@au _ _ _ _ _ _ (ae 2) ag UL) (@aa _ _ _ _ _ _ (@au _ _ _ _ _ _ (ae 2) ag UL) af z_) z_) z_) z_) z_)))) (@ao _ _ _ (@aF _ _ _ _ ir)) a9) (@ao _ _ _ (@aF _ _ _ _ (gJ (aG (fT T) T.UW hr (@aa _ _ _ _ _ _ (jX T.UY rfl) (@aa _ _ _ _ _ _ (@au _ _ _ _ _ _ (ae 2) ag UL) af z_) z_)) (jO (Cb (aG (fT T) T.UW hr (@aa _ _ _ _ _ _ (@aA _ _ _ (aG (pd T) T.Vs hr (@aa _ _ _ _ _ _ (ae 0) (@aa _ _ _ _ _ _ (ae 1) (@aa _ _ _ _ _ _ (ae 2) af z_) z_) z_))) (@aa _ _ _ _ _ _ (@au _ _ _ _ _ _ (ae 2) ag UL) af z_) z_))))))))))
  w9
theorem iO:az DM ["ring","sending","thing"] (ak qK):=UQ
theorem tX(T:Tx K mg ad fd):FnOk P w K mg base (Q8 P w) 7 (ad 34) (fd 34) ["ring","sending","thing"] (Rc K 3 iz) :=
 LM (k:=6) T.Vt.f iO (λxp=>rp xp) (λcdv A outer s H E xp hr hE=>(ah (cY (iu (bP (oU zy rfl T.U0 rfl T.U8 y_ (ae 2)))) (ao (wb T.V9 (tU T) hr (CN hE) (aa zm af))) a9)
  (ah (aC (i:=3) iO.nd rfl v4 (jT Ck rfl T.U8 y_ (aa (ae 1) af)))
  (ah (cP PassesOwn.leaving rfl (m7 rfl T.U7 (ae 2)) (jR rfl (aU (i:=4) iO.nd rfl v4 (aU (i:=5) iO.nd rfl v4 fW))) (ah (cY (iu (bP (aG (y7 T) T.VR hr (aa (ae 0) (aa (ae 3) (aa (ae 5) af)))))) (ao (wb T.V9 (tU T) hr (CN hE) (aa (ae 4) af))) a9)
  (ao (aC (i:=3) iO.nd rfl v4 (aG (o9 T) T.Vp hr (aa (ae 3) (aa (ae 5) af)))))))
  (ao (aF (jN 3)))))))
  yN
theorem nG:az wM ["ring","k","l"] (ak j6):=UQ
theorem va(T:Tx K mg ad fd):US T P w base 3 35 ["ring","k","l"] 3 i8:=
 bf (k:=2) T.VS.f nG km (λcdv A outer s H E hr=>by exact(@ah _ _ _ _ _ (cP PassesOwn.never rfl (cq (@bQ _ _ _ _ _ _ (@aa _ _ _ _ _ _ (@bQ _ _ _ _ _ _ (@aa _ _ _ _ _ _ (jX T.UT rfl) (@aa _ _ _ _ _ _ (jX T.UT rfl) af z_) z_)) (@aa _ _ _ _ _ _ (@bQ _ _ _ _ _ _ (@aa _ _ _ _ _ _ (jX T.UT rfl) (@aa _ _ _ _ _ _ (jX T.U1 rfl) af z_) z_)) (@aa _ _ _ _ _ _ (@bQ _ _ _ _ _ _ (@aa _ _ _ _ _ _ (jX T.U1 rfl) (@aa _ _ _ _ _ _ (jX T.UT rfl) af z_) z_)) af z_) z_) z_))) (fg (i:=3) nG.nd rfl v4) (@ao _ _ _ (@cY _ _ _ _ _ _ _ _ (bP (aG (kJ T) T.Vq hr (@aa _ _ _ _ _ _ (ae 0) (@aa _ _ _ _ _ _ (ae 1) (@aa _ _ _ _ _ _ (@au _ _ _ _ _ _ (ae 3) ag UL) (@aa _ _ _ _ _ _ (ae 2) (@aa _ _ _ _ _ _ (@au _ _ _ _ _ _ (ae 3) ag UL) af z_) z_) z_) z_) z_))) (@ao _ _ _ (@aF _ _ _ _ (jN 3))) a9))) (@ao _ _ _ (@aF _ _ _ _ (@bQ _ _ _ _ _ _ (@aa _ _ _ _ _ _ (jX T.U1 rfl) (@aa _ _ _ _ _ _ (jX T.U1 rfl) af z_) z_))))))
  sx
theorem eI:az pD ["ring","sending","k","l"] (ak fw):=UQ
theorem oM(T:Tx K mg ad fd):US T P w base 6 36 ["ring","sending","k","l"] 4 eF:=
 bf (k:=5) T.VT.f eI fz (λcdv A outer s H E hr=>(ah (aC (i:=4) eI.nd rfl v4 (aA (aG (va T) T.VS hr (aa (ae 0) (aa (ae 2) (aa (ae 3) af))))))
  (ah (aC (i:=5) eI.nd rfl v4 (bQ (aa (ae 2) (aa (au (ae 4) ag UL) (aa (ae 3) (aa (au (ae 4) ag UL) af))))))
  (ao (aF (aH I0 (ae 5) (bQ (aa (aA (aG (pd T) T.Vs hr (aa (ae 0) (aa (ae 1) (aa (ae 5) af))))) af))))))))
  nC
theorem bW:az wN ["ring","sending"] (ak j7):=UQ
theorem vb(T:Tx K mg ad fd):US T P w base 7 37 ["ring","sending"] 2 i9:=
 bf (k:=6) T.VU.f bW kq (λcdv A outer s H E hr=>by exact(@ah _ _ _ _ _ (@aC _ _ _ 2 _ _ _ bW.nd rfl v4 (ae 1) z_ (by first | exact .inl rfl | exact .inr rfl)) (@ah _ _ _ _ _ (@aC _ _ _ 3 _ _ _ bW.nd rfl v4 (@dB _ _ _ _ _ af) z_ (by first | exact .inl rfl | exact .inr rfl)) (@ah _ _ _ _ _ (@aC _ _ _ 4 _ _ _ bW.nd rfl v4 (@aA _ _ _ (aG (cD T) T.Vc hr (@aa _ _ _ _ _ _ (ae 0) (@aa _ _ _ _ _ _ (@aA _ _ _ (aG (gX T) T.U5 hr (@aa _ _ _ _ _ _ (ae 0) (@aa _ _ _ _ _ _ (ae 2) af z_) z_))) af z_) z_))) z_ (by first | exact .inl rfl | exact .inr rfl)) (@ah _ _ _ _ _ (ua PassesOwn.never (QA zB (ae 4) zm (aY _)) (@ah _ _ _ _ _ (@aC _ _ _ 5 _ _ _ bW.nd rfl v4 (@aA _ _ _ (aG (oM T) T.VT hr (@aa _ _ _ _ _ _ (ae 0) (@aa _ _ _ _ _ _ (ae 2) (@aa _ _ _ _ _ _ (@au _ _ _ _ _ _ (ae 4) ag UL) (@aa _ _ _ _ _ _ (@au _ _ _ _ _ _ (ae 4) ag UL) af z_) z_) z_) z_))) z_ (by first | exact .inl rfl | exact .inr rfl)) (@ah _ _ _ _ _ (nQ (jU 3 (ae 5))) (@ah _ _ _ _ _ (@aC _ _ _ 2 _ _ _ bW.nd rfl v4 (@aA _ _ _ (aG (o9 T) T.Vp hr (@aa _ _ _ _ _ _ (ae 2) (@aa _ _ _ _ _ _ (ae 5) af z_) z_))) z_ (by first | exact .inl rfl | exact .inr rfl)) (@ao _ _ _ (@aC _ _ _ 4 _ _ _ bW.nd rfl v4 (@aA _ _ _ (aG (cD T) T.Vc hr (@aa _ _ _ _ _ _ (ae 0) (@aa _ _ _ _ _ _ (@aA _ _ _ (aG (gX T) T.U5 hr (@aa _ _ _ _ _ _ (ae 0) (@aa _ _ _ _ _ _ (ae 2) af z_) z_))) af z_) z_))) z_ (by first | exact .inl rfl | exact .inr rfl))))))) (@ao _ _ _ (@aF _ _ _ _ (jN 3))))))))
  sy
theorem sM:az uP ["ask","part"] (ak iY):=UQ
theorem lZ(T:Tx K mg ad fd):US T P w base 1 38 ["ask","part"] 2 eR:=
 bf (k:=0) T.Vu.f sM ja (λcdv A outer s H E hr=>(ao (aF (lA (QA (jD hr.units) (ae 1) (au (ae 0) ag UL) (aY _)) (jX T.UT rfl) (jX T.U1 rfl)))))
  rq
theorem de:az nq ["ring","slid","parted","ways"] (ak dF):=UQ
theorem mQ(T:Tx K mg ad fd):US T P w base 2 39 ["ring","slid","parted","ways"] 4 c8:=
 bf (k:=1) T.VV.f de dN (λcdv A outer s H E hr=>(ah (cP PassesOwn.never rfl (m7 rfl T.U7 (au (ae 0) ag UL)) (jR rfl (aU (i:=4) de.nd rfl v4 (aU (i:=5) de.nd rfl v4 fW))) (ao (cY (Qy.pb (xJ (QA Fd (ae 4) (ae 2) rfl) (xJ (QA (pj hr.units) (au (ae 5) ag UL) (jX T.UY rfl) (aY _)) (zp (QA (pj hr.units) (au (ae 3) (ae 4) UL) (aG (lZ T) T.Vu hr (aa (ae 5) (aa (au (ae 1) (ae 4) UL) af))) (aY _)))))) (ao (aF ir)) a9)))
  (ao (aF ir))))
  lj
theorem bX:az nr ["ring","some"] (ak dG):=UQ
theorem gD(T:Tx K mg ad fd):US T P w base 4 40 ["ring","some"] 2 bU:=
 bf (k:=3) T.Vv.f bX dO (λcdv A outer s H E hr=>(ah (aC (i:=2) bX.nd rfl v4 (jX T.UY rfl))
  (ah (cP PassesOwn.never rfl (cq (ae 1)) (fg (i:=3) bX.nd rfl v4) (ao (aC (i:=2) bX.nd rfl v4 (aA (aG (Bs T) T.VF hr (aa (ae 2) (aa (au (au (au (ae 0) ag UL) (ae 3) UL) ag UL) af)))))))
  (ao (aF (aG (GQ T) T.VE hr (aa (ae 2) (aa (jX T.Wj rfl) af))))))))
  ll
theorem jG(T:Tx K mg ad fd):Jp P w K mg base 2 "by_lesser_place" b9:=LY (k:=1) (p:="k") (y:="ring") (T.VW.lam.trans rfl) (NI rfl rfl rfl rfl rfl rfl λ_ _ _ _ _ _=>rfl) cA (λA outer s H f c c' hr=>(aG (gB T) T.Vb hr (aa (ae 1) (aa (ae 0) af)))) jb
theorem nH:az oe ["ring","some"] (ak cG):=UQ
theorem gY(T:Tx K mg ad fd):US T P w base 5 41 ["ring","some"] 2 cg:=
 Mc (k:=4) T.Vw.f nH eG (λcdv A outer s H E hcv hr=>(ao (aF (FJ (jG T) hr 0 (Mb T.VW hcv rfl x_ rfl rfl rfl rfl rfl rfl) (ae 1) T.Wb))))
  mK
theorem vc:az wO ["ring","k"] (ak j8):=UQ
theorem jj(T:Tx K mg ad fd):US T P w base 1 42 ["ring","k"] 2 dP:=
 bf (k:=0) T.Ve.f vc kr (λcdv A outer s H E hr=>(ao (aF (lA (QA nR (au (au (au (ae 0) ag UL) (ae 1) UL) ag UL) (au (au (au (ae 0) ag UL) (ae 1) UL) ag UL) (aY _)) (jX T.UT rfl) (jX T.U1 rfl)))))
  sD
theorem oN:az DN ["ring","sending","k","way"] (ak qL):=UQ
theorem oO(T:Tx K mg ad fd):US T P w base 4 43 ["ring","sending","k","way"] 4 fU:=
 bf (k:=3) T.Vf.f oN rC (λcdv A outer s H E hr=>(ah (aC (i:=4) oN.nd rfl v4 (au (au (au (ae 0) ag UL) (ae 2) UL) ag UL))
  (ah (aC (i:=5) oN.nd rfl v4 (aA (lA (QA (jD hr.units) (aG (jj T) T.Ve hr (aa (ae 0) (aa (ae 2) af))) (jX T.UT rfl) (aY _)) (au (ae 1) (ae 2) UL) (aG (ji T) T.UZ hr (aa (ae 4) (aa (au (ae 1) (ae 2) UL) af))))))
  (ao (aF (aG (ji T) T.UZ hr (aa (lA (QA (jD hr.units) (ae 3) (aG (jj T) T.Ve hr (aa (ae 0) (aa (ae 2) af))) (aY _)) (ae 4) (jX T.UY rfl)) (aa (ae 5) af))))))))
  yQ
theorem cF:az sq ["ring","slid","parted","ways"] (ak hG):=UQ
theorem rQ(T:Tx K mg ad fd):US T P w base 6 44 ["ring","slid","parted","ways"] 4 gu:=
 bf (k:=5) T.VX.f cF ib (λcdv A outer s H E hr=>by exact(@ah _ _ _ _ _ (@aC _ _ _ 4 _ _ _ cF.nd rfl v4 (@aA _ _ _ (aG (gD T) T.Vv hr (@aa _ _ _ _ _ _ (ae 0) (@aa _ _ _ _ _ _ (ae 2) af z_) z_))) z_ (by first | exact .inl rfl | exact .inr rfl)) (@ah _ _ _ _ _ (@aC _ _ _ 5 _ _ _ cF.nd rfl v4 (jX T.UY rfl) z_ (by first | exact .inl rfl | exact .inr rfl)) (@ah _ _ _ _ _ (cP PassesOwn.never rfl (cq (aG (gY T) T.Vw hr (@aa _ _ _ _ _ _ (ae 0) (@aa _ _ _ _ _ _ (ae 2) af z_) z_))) (fg (i:=6) cF.nd rfl v4) (@ah _ _ _ _ _ (@aC _ _ _ 5 _ _ _ cF.nd rfl v4 (@aA _ _ _ (aG (rL T) T.U3 hr (@aa _ _ _ _ _ _ (ae 5) (@aa _ _ _ _ _ _ (@aA _ _ _ (aG (oO T) T.Vf hr (@aa _ _ _ _ _ _ (ae 0) (@aa _ _ _ _ _ _ (ae 1) (@aa _ _ _ _ _ _ (ae 6) (@aa _ _ _ _ _ _ (@au _ _ _ _ _ _ (ae 3) (ae 6) UL) af z_) z_) z_) z_))) af z_) z_))) z_ (by first | exact .inl rfl | exact .inr rfl)) (@ao _ _ _ (@cY _ _ _ _ _ _ _ _ (Qy.pb (oT (bP (aG (fT T) T.UW hr (@aa _ _ _ _ _ _ (ae 4) (@aa _ _ _ _ _ _ (ae 5) af z_) z_))) (l7 (bP (aG (fT T) T.UW hr (@aa _ _ _ _ _ _ (ae 5) (@aa _ _ _ _ _ _ (@aA _ _ _ (aG (ji T) T.UZ hr (@aa _ _ _ _ _ _ (jX T.UY rfl) (@aa _ _ _ _ _ _ (ae 4) af z_) z_))) af z_) z_)))))) (@ao _ _ _ (@aF _ _ _ _ ir)) a9)))) (@ao _ _ _ (@aF _ _ _ _ ir))))))
  pG
theorem fC:az qM ["ring","sending","thing"] (ak gi):=UQ
theorem jC(T:Tx K mg ad fd):US T P w base 8 45 ["ring","sending","thing"] 3 b7:=
 bf (k:=7) T.Vx.f fC gv (λcdv A outer s H E hr=>by exact(@ah _ _ _ _ _ (@cY _ _ _ _ _ _ _ _ (Qy.pb (oT (iu (bP (oU p8 rfl T.U0 rfl T.VA y_ (ae 2)))) (oT (QA (pj hr.units) (aZ gM rfl T.UU y_ (@aa _ _ _ _ _ _ (ae 2) af z_)) ag (aY _)) (l7 (iu (bP (aG (yY T) T.VO hr (@aa _ _ _ _ _ _ (ae 0) (@aa _ _ _ _ _ _ (@au _ _ _ _ _ _ (ae 2) ag UL) af z_) z_)))))))) (@ao _ _ _ (@aF _ _ _ _ ir)) a9) (@ah _ _ _ _ _ (Jj rfl rfl T.Wd rfl (λ_ _ xt=>(Fw (Ji (i:=3) fC.nd rfl v4 (Jh (LR (tX T) T.Vt hr (@aa _ _ _ _ _ _ (ae 0) (@aa _ _ _ _ _ _ (ae 1) (@aa _ _ _ _ _ _ (@au _ _ _ _ _ _ (ae 2) ag UL) af z_) z_) z_)))))) (λ_=>(@ao _ _ _ (@aF _ _ _ _ ir)))) (@ah _ _ _ _ _ (@aC _ _ _ 4 _ _ _ fC.nd rfl v4 (@aA _ _ _ (aG (gX T) T.U5 hr (@aa _ _ _ _ _ _ (ae 0) (@aa _ _ _ _ _ _ (ae 3) af z_) z_))) z_ (by first | exact .inl rfl | exact .inr rfl)) (@ah _ _ _ _ _ (@cY _ _ _ _ _ _ _ _ (QA zB (aG (cD T) T.Vc hr (@aa _ _ _ _ _ _ (ae 0) (@aa _ _ _ _ _ _ (ae 4) af z_) z_)) zm (aY _)) (@ao _ _ _ (@aF _ _ _ _ ir)) a9) (@ao _ _ _ (@aF _ _ _ _ (gJ (aG (mQ T) T.VV hr (@aa _ _ _ _ _ _ (ae 0) (@aa _ _ _ _ _ _ (ae 3) (@aa _ _ _ _ _ _ (ae 4) (@aa _ _ _ _ _ _ (@au _ _ _ _ _ _ (ae 2) ag UL) af z_) z_) z_) z_)) (jO (aG (rQ T) T.VX hr (@aa _ _ _ _ _ _ (ae 0) (@aa _ _ _ _ _ _ (ae 3) (@aa _ _ _ _ _ _ (ae 4) (@aa _ _ _ _ _ _ (@au _ _ _ _ _ _ (ae 2) ag UL) af z_) z_) z_) z_)))))))))))
  oE
theorem bG:az lF ["ring","slid"] (ak eO):=UQ
theorem rR(T:Tx K mg ad fd):US T P w base 6 46 ["ring","slid"] 2 gw:=
 bf (k:=5) T.VY.f bG ic (λcdv A outer s H E hr=>by exact(@ah _ _ _ _ _ (@aC _ _ _ 2 _ _ _ bG.nd rfl v4 (@aA _ _ _ (aG (gX T) T.U5 hr (@aa _ _ _ _ _ _ (ae 0) (@aa _ _ _ _ _ _ (ae 1) af z_) z_))) z_ (by first | exact .inl rfl | exact .inr rfl)) (@ah _ _ _ _ _ (IL bG.nd (j:=3) rfl v4 (sc:=(ak eO)) (N:=lF) (Nt:=[ "ask" ,"part" ]) (Nf:=[]) (fi:=[]) rfl rfl rfl (xR rfl T.VB (@au _ _ _ _ _ _ (ae 0) ag UL) (ae 1)) rfl y_ y_ y_ x_ rfl y_ x_ (λ_ _ _ _=>(vX rfl (cR (i:=0) x_ (show(([ "ask" ,"part" ]:List Str)++([]:List Str)).Nodup by decide +kernel) rfl (Or.inl rfl) (cR (i:=1) x_ (show(([ "ask" ,"part" ]:List Str)++([]:List Str)).Nodup by decide +kernel) rfl (Or.inl rfl) qc)))) (λ_ _ _ _=>fj) (λ_ _ _ _=>(aG (lZ T) T.Vu hr (@aa _ _ _ _ _ _ (ae 0) (@aa _ _ _ _ _ _ (ae 1) af z_) z_)))) (@ah _ _ _ _ _ (@aC _ _ _ 4 _ _ _ bG.nd rfl v4 (@aA _ _ _ (aG (gD T) T.Vv hr (@aa _ _ _ _ _ _ (ae 0) (@aa _ _ _ _ _ _ (ae 2) af z_) z_))) z_ (by first | exact .inl rfl | exact .inr rfl)) (@ah _ _ _ _ _ (@aC _ _ _ 5 _ _ _ bG.nd rfl v4 (jX T.UY rfl) z_ (by first | exact .inl rfl | exact .inr rfl)) (@ah _ _ _ _ _ (cP PassesOwn.never rfl (cq (aG (gY T) T.Vw hr (@aa _ _ _ _ _ _ (ae 0) (@aa _ _ _ _ _ _ (ae 2) af z_) z_))) (fg (i:=6) bG.nd rfl v4) (@ah _ _ _ _ _ (ma 3 (ae 6) (aG (jj T) T.Ve hr (@aa _ _ _ _ _ _ (ae 0) (@aa _ _ _ _ _ _ (ae 6) af z_) z_))) (@ah _ _ _ _ _ (@cY _ _ _ _ _ _ _ _ (bP (aG (fT T) T.UW hr (@aa _ _ _ _ _ _ (ae 4) (@aa _ _ _ _ _ _ (@aA _ _ _ (aG (rL T) T.U3 hr (@aa _ _ _ _ _ _ (ae 5) (@aa _ _ _ _ _ _ (@aA _ _ _ (aG (oO T) T.Vf hr (@aa _ _ _ _ _ _ (ae 0) (@aa _ _ _ _ _ _ (ae 1) (@aa _ _ _ _ _ _ (ae 6) (@aa _ _ _ _ _ _ (@fE _ _ _ _ _ (fY 3 (ae 6) UL) (@au _ _ _ _ _ _ (ae 3) (ae 6) UL)) af z_) z_) z_) z_))) af z_) z_))) af z_) z_))) (@ao _ _ _ (ma 3 (ae 6) (aG (xl T) T.VJ hr (@aa _ _ _ _ _ _ (@fE _ _ _ _ _ (fY 3 (ae 6) UL) (@au _ _ _ _ _ _ (ae 3) (ae 6) UL)) af z_)))) a9) (@ao _ _ _ (@aC _ _ _ 5 _ _ _ bG.nd rfl v4 (@aA _ _ _ (aG (rL T) T.U3 hr (@aa _ _ _ _ _ _ (ae 5) (@aa _ _ _ _ _ _ (@aA _ _ _ (aG (oO T) T.Vf hr (@aa _ _ _ _ _ _ (ae 0) (@aa _ _ _ _ _ _ (ae 1) (@aa _ _ _ _ _ _ (ae 6) (@aa _ _ _ _ _ _ (@fE _ _ _ _ _ (fY 3 (ae 6) UL) (@au _ _ _ _ _ _ (ae 3) (ae 6) UL)) af z_) z_) z_) z_))) af z_) z_))) z_ (by first | exact .inl rfl | exact .inr rfl)))))) (@ao _ _ _ (@aF _ _ _ _ (jN 3)))))))))
  pH
theorem l5:az uQ ["ring","sending"] (ak iZ):=UQ
theorem sN(T:Tx K mg ad fd):US T P w base 8 47 ["ring","sending"] 2 ie:=
 bf (k:=7) T.VZ.f l5 jc (λcdv A outer s H E hr=>(ah (aC (i:=2) l5.nd rfl v4 (aG (vb T) T.VU hr (aa (ae 0) (aa (ae 1) af))))
  (ao (aF (Jt 2 (d5 2 (aa (aG (rR T) T.VY hr (aa (ae 0) (aa (aA (qf 2 (LQ (tX T) T.Vt hr LP (aa (ae 0) (aa (ae 1) (aa (ae 2) af)))))) af))) af)))))))
  rE
theorem rS:az tM ["ring","sending","ways"] (ak kX):=UQ
theorem zb(T:Tx K mg ad fd):US T P w base 7 48 ["ring","sending","ways"] 3 mL:=
 bf (k:=6) T.V0.f rS oF (λcdv A outer s H E hr=>(ah (aC (i:=3) rS.nd rfl v4 (aA (aG (rO T) T.Vn hr (aa (ae 0) (aa (aA (aG (Bx T) T.VP hr (aa (ae 0) (aa (ae 2) af)))) af)))))
  (ao (aF (fk (sc:=(ak kX)) (N:=tM) (Nt:=["load","parted"]) (Nf:=[]) (fi:=[]) rfl rfl rfl (xR rfl T.VB (ae 3) (aG (rO T) T.Vn hr (aa (ae 0) (aa (ae 1) af)))) rfl y_ y_ y_ x_ rfl y_ x_ (λ_ _ _ _=>(vX rfl (cR (i:=0) x_ (show((["load","parted"]:List Str)++([]:List Str)).Nodup by decide +kernel) rfl (Or.inl rfl) (cR (i:=1) x_ (show((["load","parted"]:List Str)++([]:List Str)).Nodup by decide +kernel) rfl (Or.inl rfl) qc)))) (λ_ _ _ _=>fj) (λ_ _ _ _=>(aG (ji T) T.UZ hr (aa (ae 0) (aa (ae 1) af)))))))))
  xf
theorem jk:az wQ ["_law_script","_law_k"] (ak j9):=UQ
theorem jm(T:Tx K mg ad fd):US T P w base 1 49 ["_law_script","_law_k"] 2 dQ:=
 bf (k:=0) T.Vg.f jk ku (λcdv A outer s H E hr=>(ah (aC (i:=2) jk.nd rfl v4 ag)
  (ah (cY (QA nR (ae 1) (aZ gM rfl T.UU y_ (aa (ae 0) af)) (aY _)) (ao (aC (i:=2) jk.nd rfl v4 (au (ae 0) (ae 1) UL))) a9)
  (ao (aF (dB (aa (ae 2) (aa (aH gL (aH dh (aH dh (aH gL (ae 2) ag) (aH bg (aH bg ag (ae 1)) (ae 1))) ag) ag) (aa (dX Ld (ae 2) (aH Cf ag ag) (aY _)) af)))))))))
  sE
theorem ff:az yC ["_law_state","_law_many"] (ak mv):=UQ
theorem bq(T:Tx K mg ad fd):US T P w base 1 50 ["_law_state","_law_many"] 2 bc:=
 bf (k:=0) T.UV.f ff mM (λcdv A outer s H E hr=>(ah (cY (bP (fE (fY 0 ag UL) (au (ae 0) ag UL))) (ah (aC (i:=2) ff.nd rfl v4 (aH gL (fE (fY 0 ag UL) (au (ae 0) ag UL)) (ae 1)))
  (ah (ma 0 ag (aH sT (fE (fY 0 ag UL) (au (ae 0) ag UL)) (ae 1)))
  (ah (ma 0 ag (dX IE (fE (fY 0 ag UL) (au (ae 0) ag UL)) ag (aY _)))
  (ao (aF (jN 2)))))) a9)
  (ah (aC (i:=3) ff.nd rfl v4 ag)
  (ah (cP PassesOwn.never rfl (gK rfl T.UX (aH dh ag (aH bg ag (jT Cj rfl T.Vi y_ (aa (dX IE (ae 1) (aH Cf ag ag) (aY _)) af))))) (fg (i:=4) ff.nd rfl v4) (ah (ma 0 ag (aH gL (aH dh (aH bg (fE (fY 0 ag UL) (au (ae 0) ag UL)) ag) ag) ag))
  (ao (aC (i:=3) ff.nd rfl v4 (aA (aH dh (aH bg (ae 3) ag) (aH gL (aH bg (fE (fY 0 ag UL) (au (ae 0) ag UL)) (fE (fY 0 ag UL) (au (ae 0) ag UL))) ag)))))))
  (ao (aF (aH gL (aH sT (ae 3) ag) (ae 1))))))))
  u5
theorem gE:az Bl ["_law_top","_law_bottom"] (ak og):=UQ
theorem eK(T:Tx K mg ad fd):US T P w base 1 51 ["_law_top","_law_bottom"] 2 cB:=
 bf (k:=0) T.U2.f gE oG (λcdv A outer s H E hr=>(ah (aC (i:=2) gE.nd rfl v4 (aA (aZ zv rfl T.Vh y_ (aa (ae 0) af))))
  (ah (aC (i:=3) gE.nd rfl v4 (aA (aZ zv rfl T.Vh y_ (aa (ae 1) af))))
  (ah (ua PassesOwn.never (QA (pj hr.units) (ae 2) ag (aY _)) (ao (Lg (i:=2) (j:=3) rfl gE.nd rfl rfl x_ rfl rfl (aH gL (ae 3) (ae 2)) (ae 2) rfl)))
  (ah (cY (QA nR (ae 1) ag (aY _)) (ao (aC (i:=3) gE.nd rfl v4 (aH mX ag (ae 3)))) a9)
  (ao (aF (bQ (aa (aH sT (ae 0) (ae 3)) (aa (aH sT (ae 1) (ae 3)) af))))))))))
  xh
theorem ip:az uR ["_law_state","_law_least","_law_kind"] (ak i0):=UQ
theorem sO(T:Tx K mg ad fd):US T P w base 2 52 ["_law_state","_law_least","_law_kind"] 3 ig:=
 bf (k:=1) T.V1.f ip je (λcdv A outer s H E hr=>by exact(@ah _ _ _ _ _ (@aC _ _ _ 3 _ _ _ ip.nd rfl v4 (@aA _ _ _ (@aH _ _ _ _ _ _ _ _ dh ag (jr (bq T) T.UV hr 0 0 (d5 0 (@aa _ _ _ _ _ _ (@au _ _ _ _ _ _ (@dB _ _ _ _ _ (@aa _ _ _ _ _ _ ag (@aa _ _ _ _ _ _ ag (@aa _ _ _ _ _ _ ag (@aa _ _ _ _ _ _ ag (@aa _ _ _ _ _ _ ag af z_) z_) z_) z_) z_)) (ae 2) UL) af z_))))) z_ (by first | exact .inl rfl | exact .inr rfl)) (@ah _ _ _ _ _ (@aC _ _ _ 4 _ _ _ ip.nd rfl v4 (@aA _ _ _ (@aH _ _ _ _ _ _ _ _ dh (ae 1) (jr (bq T) T.UV hr 0 0 (d5 0 (@aa _ _ _ _ _ _ (@au _ _ _ _ _ _ (@dB _ _ _ _ _ (@aa _ _ _ _ _ _ ag (@aa _ _ _ _ _ _ ag (@aa _ _ _ _ _ _ ag (@aa _ _ _ _ _ _ ag (@aa _ _ _ _ _ _ (@aH _ _ _ _ _ _ _ _ Cf ag ag) af z_) z_) z_) z_) z_)) (ae 2) UL) af z_))))) z_ (by first | exact .inl rfl | exact .inr rfl)) (@ao _ _ _ (@aF _ _ _ _ (aG (eK T) T.U2 hr (@aa _ _ _ _ _ _ (ae 4) (@aa _ _ _ _ _ _ (ae 3) af z_) z_)))))))
  rG
theorem aV:az oY ["_law_script"] (ak gQ):=UQ
theorem vd(T:Tx K mg ad fd):US T P w base 3 53 ["_law_script"] 1 jf:=
 bf (k:=2) T.V2.f aV kB (λcdv A outer s H E hr=>by exact(@ah _ _ _ _ _ (@aC _ _ _ 1 _ _ _ aV.nd rfl v4 (aG (jm T) T.Vg hr (@aa _ _ _ _ _ _ (ae 0) (@aa _ _ _ _ _ _ ag af z_) z_)) z_ (by first | exact .inl rfl | exact .inr rfl)) (@ah _ _ _ _ _ (@aC _ _ _ 2 _ _ _ aV.nd rfl v4 (@aA _ _ _ (@aH _ _ _ _ _ _ _ _ dh ag (jr (bq T) T.UV hr 0 1 (d5 1 (@aa _ _ _ _ _ _ ag af z_))))) z_ (by first | exact .inl rfl | exact .inr rfl)) (@ah _ _ _ _ _ (@aC _ _ _ 3 _ _ _ aV.nd rfl v4 (@aA _ _ _ (@aH _ _ _ _ _ _ _ _ dh (@aH _ _ _ _ _ _ _ _ bg ag (ae 2)) (jr (bq T) T.UV hr 0 1 (d5 1 (@aa _ _ _ _ _ _ ag af z_))))) z_ (by first | exact .inl rfl | exact .inr rfl)) (@ah _ _ _ _ _ (@aC _ _ _ 4 _ _ _ aV.nd rfl v4 (@aA _ _ _ (@aH _ _ _ _ _ _ _ _ dh ag (jr (bq T) T.UV hr 0 1 (d5 1 (@aa _ _ _ _ _ _ (ae 2) af z_))))) z_ (by first | exact .inl rfl | exact .inr rfl)) (@ah _ _ _ _ _ (@aC _ _ _ 5 _ _ _ aV.nd rfl v4 (xW rfl T.U8 rfl T.UX rfl (ae 2)) z_ (by first | exact .inl rfl | exact .inr rfl)) (@ah _ _ _ _ _ (@aC _ _ _ 6 _ _ _ aV.nd rfl v4 (aG (jm T) T.Vg hr (@aa _ _ _ _ _ _ (ae 0) (@aa _ _ _ _ _ _ ag af z_) z_)) z_ (by first | exact .inl rfl | exact .inr rfl)) (@ah _ _ _ _ _ (@aC _ _ _ 7 _ _ _ aV.nd rfl v4 (@aA _ _ _ (jr (bq T) T.UV hr 0 1 (d5 1 (@aa _ _ _ _ _ _ ag af z_)))) z_ (by first | exact .inl rfl | exact .inr rfl)) (@ah _ _ _ _ _ (@aC _ _ _ 8 _ _ _ aV.nd rfl v4 (@dB _ _ _ _ _ af) z_ (by first | exact .inl rfl | exact .inr rfl)) (@ah _ _ _ _ _ (cP PassesOwn.never rfl (gK rfl T.UX (ae 4)) (fg (i:=9) aV.nd rfl v4) (@ah _ _ _ _ _ (@aC _ _ _ 10 _ _ _ aV.nd rfl v4 (@aA _ _ _ (FD 5 (jr (bq T) T.UV hr 0 1 (d5 1 (@aa _ _ _ _ _ _ (@aA _ _ _ (@fE _ _ _ _ _ (IJ 5 rfl T.UU) (aZ gM rfl T.UU PySem.boot_len (@aa _ _ _ _ _ _ (ae 5) af z_)))) af z_))))) z_ (by first | exact .inl rfl | exact .inr rfl)) (@ah _ _ _ _ _ (@aC _ _ _ 11 _ _ _ aV.nd rfl v4 (@dB _ _ _ _ _ (@aa _ _ _ _ _ _ (ae 10) (@aa _ _ _ _ _ _ (@aA _ _ _ (@aH _ _ _ _ _ _ _ _ dh (ae 10) (ae 2))) af z_) z_)) z_ (by first | exact .inl rfl | exact .inr rfl)) (@ah _ _ _ _ _ (@cY _ _ _ _ _ _ _ _ (QA (jD hr.units) (jr (bq T) T.UV hr 0 1 (d5 1 (@aa _ _ _ _ _ _ ag af z_))) ag (aY _)) (@ao _ _ _ (nQ (A7 11))) a9) (@ao _ _ _ (nQ (jU 8 (@bQ _ _ _ _ _ _ (@aa _ _ _ _ _ _ (@au _ _ _ _ _ _ zo (ae 9) UL) (@aa _ _ _ _ _ _ (@fE _ _ _ _ _ (fY 11 ag UL) (@au _ _ _ _ _ _ (ae 11) ag UL)) (@aa _ _ _ _ _ _ (@fE _ _ _ _ _ (fY 11 ag UL) (@au _ _ _ _ _ _ (ae 11) ag UL)) (@aa _ _ _ _ _ _ (@aA _ _ _ (jr (sO T) T.V1 hr 0 6 (d5 6 (@aa _ _ _ _ _ _ ag (@aa _ _ _ _ _ _ (ae 7) af z_) z_)))) af z_) z_) z_) z_))))))))) (@ah _ _ _ _ _ (@cY _ _ _ _ _ _ _ _ (QA (jD hr.units) (jr (bq T) T.UV hr 0 1 (d5 1 (@aa _ _ _ _ _ _ ag af z_))) ag (aY _)) (@ao _ _ _ (@aC _ _ _ 8 _ _ _ aV.nd rfl v4 (fk (sc:=(ak gQ)) (N:=oY) (Nt:=[ "_law_name" ,"_law_one" ,"_law_other" ,"_law_size" ]) (Nf:=[ "_law_asks" ]) (fi:=[8]) rfl rfl rfl (cq (ae 8)) rfl y_ y_ y_ x_ rfl y_ x_ (λ_ _ _ _=>(vX rfl (cR (i:=0) x_ (show(([ "_law_name" ,"_law_one" ,"_law_other" ,"_law_size" ]:List Str)++([ "_law_asks" ]:List Str)).Nodup by decide +kernel) rfl (Or.inl rfl) (cR (i:=1) x_ (show(([ "_law_name" ,"_law_one" ,"_law_other" ,"_law_size" ]:List Str)++([ "_law_asks" ]:List Str)).Nodup by decide +kernel) rfl (Or.inl rfl) (cR (i:=2) x_ (show(([ "_law_name" ,"_law_one" ,"_law_other" ,"_law_size" ]:List Str)++([ "_law_asks" ]:List Str)).Nodup by decide +kernel) rfl (Or.inl rfl) (cR (i:=3) x_ (show(([ "_law_name" ,"_law_one" ,"_law_other" ,"_law_size" ]:List Str)++([ "_law_asks" ]:List Str)).Nodup by decide +kernel) rfl (Or.inl rfl) qc)))))) (λ_ _ _ _=>fj) (λ_ _ _ _=>(@bQ _ _ _ _ _ _ (@aa _ _ _ _ _ _ (ae 0) (@aa _ _ _ _ _ _ (ae 1) (@aa _ _ _ _ _ _ (ae 2) (@aa _ _ _ _ _ _ (@au _ _ _ _ _ _ (@fE _ _ _ _ _ (fY 4 ag UL) (@au _ _ _ _ _ _ (ae 4) ag UL)) ag UL) af z_) z_) z_) z_)))) z_ (by first | exact .inl rfl | exact .inr rfl))) a9) (@ao _ _ _ (@aF _ _ _ _ (@bQ _ _ _ _ _ _ (@aa _ _ _ _ _ _ (@aA _ _ _ (Lz (@dB _ _ _ _ _ (@aa _ _ _ _ _ _ (@bQ _ _ _ _ _ _ (@aa _ _ _ _ _ _ ag (@aa _ _ _ _ _ _ ag af z_) z_)) af z_)) (ae 3))) (@aa _ _ _ _ _ _ (ae 8) (@aa _ _ _ _ _ _ (ae 2) af z_) z_) z_)))))))))))))))
  sG
theorem cV:az gj ["_law_many"] (ak cw):=UQ
theorem pL(T:Tx K mg ad fd):US T P w base 1 54 ["_law_many"] 1 fA:=
 bf (k:=0) T.V3.f cV gy (λcdv A outer s H E hr=>(ah (aC (i:=1) cV.nd rfl v4 (dB (aa (aA (dB af)) af)))
  (ah (cP PassesOwn.never rfl (gK rfl T.UX (ae 0)) (fg (i:=2) cV.nd rfl v4) (ao (aC (i:=1) cV.nd rfl v4 (aH dh (fk (sc:=(ak cw)) (N:=gj) (Nt:=["_law_ways"]) (Nf:=[]) (fi:=[]) rfl rfl rfl (cq (ae 1)) rfl y_ y_ y_ x_ rfl y_ x_ (λ_ _ _ _=>(jV x_ (show((["_law_ways"]:List Str)++([]:List Str)).Nodup by decide +kernel) rfl (Or.inl rfl))) (λ_ _ _ _=>fj) (λ_ _ _ _=>(aH dh (ae 0) (dB (aa zo af))))) (fk (sc:=(ak cw)) (N:=gj) (Nt:=["_law_ways"]) (Nf:=[]) (fi:=[]) rfl rfl rfl (cq (ae 1)) rfl y_ y_ y_ x_ rfl y_ x_ (λ_ _ _ _=>(jV x_ (show((["_law_ways"]:List Str)++([]:List Str)).Nodup by decide +kernel) rfl (Or.inl rfl))) (λ_ _ _ _=>fj) (λ_ _ _ _=>(aH dh (ae 0) (dB (aa zo af)))))))))
  (ao (aF (jN 1))))))
  oH
theorem ve:az wR ["_law_one","_law_other"] (ak ka):=UQ
theorem dW(T:Tx K mg ad fd):US T P w base 2 55 ["_law_one","_law_other"] 2 bV:=
 bf (k:=1) T.U4.f ve kC (λcdv A outer s H E hr=>(ao (aF (aG (eK T) T.U2 hr (aa (aH mX (aH bg (au (ae 0) ag UL) (au (ae 1) ag UL)) (aH bg (au (ae 1) ag UL) (au (ae 0) ag UL))) (aa (aA (aH bg (au (ae 0) ag UL) (au (ae 1) ag UL))) af))))))
  sH
theorem du:az yD ["_law_asks","_law_sending","_law_ways"] (ak mw):=UQ
theorem xr(T:Tx K mg ad fd):US T P w base 3 56 ["_law_asks","_law_sending","_law_ways"] 3 kE:=
 bf (k:=2) T.V4.f du mN (λcdv A outer s H E hr=>by exact(@ah _ _ _ _ _ (@aC _ _ _ 3 _ _ _ du.nd rfl v4 (@dB _ _ _ _ _ af) z_ (by first | exact .inl rfl | exact .inr rfl)) (@ah _ _ _ _ _ (cP PassesOwn.never rfl (m7 rfl T.U7 (ae 0)) (jR rfl (aU (i:=4) du.nd rfl v4 (aU (i:=5) du.nd rfl v4 fW))) (@ah _ _ _ _ _ (@aC _ _ _ 6 _ _ _ du.nd rfl v4 (@au _ _ _ _ _ _ (@dB _ _ _ _ _ (@aa _ _ _ _ _ _ (@aA _ _ _ (aG (dW T) T.U4 hr (@aa _ _ _ _ _ _ (@bQ _ _ _ _ _ _ (@aa _ _ _ _ _ _ ag (@aa _ _ _ _ _ _ ag af z_) z_)) (@aa _ _ _ _ _ _ (@au _ _ _ _ _ _ (ae 1) (ae 4) UL) af z_) z_))) (@aa _ _ _ _ _ _ (@aA _ _ _ (aG (dW T) T.U4 hr (@aa _ _ _ _ _ _ (@au _ _ _ _ _ _ (ae 5) ag UL) (@aa _ _ _ _ _ _ (@au _ _ _ _ _ _ (ae 1) (ae 4) UL) af z_) z_))) af z_) z_)) (jT Cj rfl T.Vi y_ (@aa _ _ _ _ _ _ (dX (jD hr.units) (@au _ _ _ _ _ _ (ae 2) (ae 4) UL) zo (aY _)) af z_)) UL) z_ (by first | exact .inl rfl | exact .inr rfl)) (@ah _ _ _ _ _ (@cY _ _ _ _ _ _ _ _ (QA IE (@au _ _ _ _ _ _ (ae 5) ag UL) (@au _ _ _ _ _ _ (ae 5) ag UL) (aY _)) (@ao _ _ _ (@aC _ _ _ 6 _ _ _ du.nd rfl v4 (@aA _ _ _ (aG (dW T) T.U4 hr (@aa _ _ _ _ _ _ (@bQ _ _ _ _ _ _ (@aa _ _ _ _ _ _ ag (@aa _ _ _ _ _ _ ag af z_) z_)) (@aa _ _ _ _ _ _ (ae 6) af z_) z_))) z_ (by first | exact .inl rfl | exact .inr rfl))) a9) (@ao _ _ _ (nQ (jU 3 (@bQ _ _ _ _ _ _ (@aa _ _ _ _ _ _ (@aA _ _ _ (aZ (Ci rfl) rfl T.Vz y_ (@aa _ _ _ _ _ _ (@au _ _ _ _ _ _ (ae 5) ag UL) (@aa _ _ _ _ _ _ (@au _ _ _ _ _ _ (ae 5) ag UL) af z_) z_))) (@aa _ _ _ _ _ _ (ae 6) af z_) z_)))))))) (@ao _ _ _ (@aF _ _ _ _ (qf 3 (aZ FN rfl T.Wb y_ (@aa _ _ _ _ _ _ (ae 3) af z_))))))))
  u6
theorem vf:az wU ["_law_one","_law_other"] (ak kb):=UQ
theorem nI(T:Tx K mg ad fd):US T P w base 1 57 ["_law_one","_law_other"] 2 fS:=
 bf (k:=0) T.Vy.f vf kF (λcdv A outer s H E hr=>(ao (aF (dX nR (aH bg (au (ae 0) ag UL) (au (ae 1) ag UL)) (aH bg (au (ae 1) ag UL) (au (ae 0) ag UL)) (aY _)))))
  sI
theorem xu:az yE ["_law_one","_law_other"] (ak mx):=UQ
theorem gZ(T:Tx K mg ad fd):US T P w base 2 58 ["_law_one","_law_other"] 2 dj:=
 bf (k:=1) T.U6.f xu mO (λcdv A outer s H E hr=>(ao (aF (aG (eK T) T.U2 hr (aa (aA (aH dh (aH bg (au (ae 0) ag UL) (au (ae 1) ag UL)) (aH bg (au (ae 1) ag UL) (au (ae 0) ag UL)))) (aa (aA (aH bg (au (ae 0) ag UL) (au (ae 1) ag UL))) af))))))
  u7
theorem aT:az su ["_law_asks","_law_rows"] (ak hJ):=UQ
theorem rT(T:Tx K mg ad fd):US T P w base 3 59 ["_law_asks","_law_rows"] 2 gz:=
 bf (k:=2) T.V5.f aT ij (λcdv A outer s H E hr=>by exact(@ah _ _ _ _ _ (@aC _ _ _ 2 _ _ _ aT.nd rfl v4 (@bQ _ _ _ _ _ _ (@aa _ _ _ _ _ _ ag (@aa _ _ _ _ _ _ ag af z_) z_)) z_ (by first | exact .inl rfl | exact .inr rfl)) (@ah _ _ _ _ _ (cP PassesOwn.never rfl (cq (ae 0)) (jR rfl (aU (i:=3) aT.nd rfl v4 (aU (i:=4) aT.nd rfl v4 (aU (i:=5) aT.nd rfl v4 (aU (i:=6) aT.nd rfl v4 fW))))) (@ao _ _ _ (@cY _ _ _ _ _ _ _ _ (bP (aG (nI T) T.Vy hr (@aa _ _ _ _ _ _ (ae 2) (@aa _ _ _ _ _ _ (ae 6) af z_) z_))) (@ao _ _ _ (@aC _ _ _ 2 _ _ _ aT.nd rfl v4 (ae 6) z_ (by first | exact .inl rfl | exact .inr rfl))) a9))) (@ah _ _ _ _ _ (@aC _ _ _ 7 _ _ _ aT.nd rfl v4 (@bQ _ _ _ _ _ _ (@aa _ _ _ _ _ _ ag (@aa _ _ _ _ _ _ ag af z_) z_)) z_ (by first | exact .inl rfl | exact .inr rfl)) (@ah _ _ _ _ _ (cP PassesOwn.never rfl (cq (ae 1)) (jR rfl (aU (i:=8) aT.nd rfl v4 (aU (i:=9) aT.nd rfl v4 fW))) (@ah _ _ _ _ _ (@aC _ _ _ 7 _ _ _ aT.nd rfl v4 (@aA _ _ _ (aG (gZ T) T.U6 hr (@aa _ _ _ _ _ _ (ae 7) (@aa _ _ _ _ _ _ (ae 9) af z_) z_))) z_ (by first | exact .inl rfl | exact .inr rfl)) (@ao _ _ _ (@cY _ _ _ _ _ _ _ _ (bP (aG (nI T) T.Vy hr (@aa _ _ _ _ _ _ (@aA _ _ _ (aG (eK T) T.U2 hr (@aa _ _ _ _ _ _ (@au _ _ _ _ _ _ (ae 2) ag UL) (@aa _ _ _ _ _ _ (@aA _ _ _ (@aH _ _ _ _ _ _ _ _ bg ag (@au _ _ _ _ _ _ (ae 2) ag UL))) af z_) z_))) (@aa _ _ _ _ _ _ (@aA _ _ _ (aG (eK T) T.U2 hr (@aa _ _ _ _ _ _ (@aA _ _ _ (aZ zv rfl T.Vh y_ (@aa _ _ _ _ _ _ (@au _ _ _ _ _ _ (ae 7) ag UL) af z_))) (@aa _ _ _ _ _ _ (@au _ _ _ _ _ _ (ae 7) ag UL) af z_) z_))) af z_) z_))) (@ao _ _ _ (@aF _ _ _ _ ir)) a9)))) (@ao _ _ _ (@aF _ _ _ _ ir)))))))
  pJ
theorem aN:az nu ["_law_rows","_law_half","_law_gains"] (ak dH):=UQ
theorem mR(T:Tx K mg ad fd):US T P w base 3 60 ["_law_rows","_law_half","_law_gains"] 3 c9:=
 bf (k:=2) T.V6.f aN dU (λcdv A outer s H E hr=>by exact(@ah _ _ _ _ _ (@aC _ _ _ 3 _ _ _ aN.nd rfl v4 (@bQ _ _ _ _ _ _ (@aa _ _ _ _ _ _ ag (@aa _ _ _ _ _ _ ag af z_) z_)) z_ (by first | exact .inl rfl | exact .inr rfl)) (@ah _ _ _ _ _ (cP PassesOwn.never rfl (cq (ae 0)) (jR rfl (aU (i:=4) aN.nd rfl v4 (aU (i:=5) aN.nd rfl v4 fW))) (@ao _ _ _ (@aC _ _ _ 3 _ _ _ aN.nd rfl v4 (@aA _ _ _ (aG (gZ T) T.U6 hr (@aa _ _ _ _ _ _ (ae 3) (@aa _ _ _ _ _ _ (ae 5) af z_) z_))) z_ (by first | exact .inl rfl | exact .inr rfl)))) (@ah _ _ _ _ _ (@aC _ _ _ 6 _ _ _ aN.nd rfl v4 (@bQ _ _ _ _ _ _ (@aa _ _ _ _ _ _ ag (@aa _ _ _ _ _ _ ag af z_) z_)) z_ (by first | exact .inl rfl | exact .inr rfl)) (@ah _ _ _ _ _ (cP PassesOwn.never rfl (gK rfl T.UX (ae 1)) (fg (i:=4) aN.nd rfl v4) (@ah _ _ _ _ _ (cP PassesOwn.never rfl (cq (ae 0)) (jR rfl (aU (i:=7) aN.nd rfl v4 (aU (i:=5) aN.nd rfl v4 fW))) (@ao _ _ _ (@cY _ _ _ _ _ _ _ _ (QA (jD hr.units) (ae 7) (ae 4) (aY _)) (@ao _ _ _ (@aC _ _ _ 6 _ _ _ aN.nd rfl v4 (@aA _ _ _ (aG (gZ T) T.U6 hr (@aa _ _ _ _ _ _ (ae 6) (@aa _ _ _ _ _ _ (ae 5) af z_) z_))) z_ (by first | exact .inl rfl | exact .inr rfl))) a9))) (@ah _ _ _ _ _ (@aC _ _ _ 8 _ _ _ aN.nd rfl v4 (@aA _ _ _ (aG (dW T) T.U4 hr (@aa _ _ _ _ _ _ (@aA _ _ _ (aG (gZ T) T.U6 hr (@aa _ _ _ _ _ _ (ae 6) (@aa _ _ _ _ _ _ (ae 6) af z_) z_))) (@aa _ _ _ _ _ _ (ae 3) af z_) z_))) z_ (by first | exact .inl rfl | exact .inr rfl)) (@ao _ _ _ (@cY _ _ _ _ _ _ _ _ (Qy.pb (oT (QA (pj hr.units) (@au _ _ _ _ _ _ (ae 2) (ae 4) UL) (ae 8) (aY _)) (l7 (QA (pj hr.units) (@au _ _ _ _ _ _ (ae 2) (@aH _ _ _ _ _ _ _ _ dh (ae 4) (ae 1)) UL) (aG (dW T) T.U4 hr (@aa _ _ _ _ _ _ (@bQ _ _ _ _ _ _ (@aa _ _ _ _ _ _ ag (@aa _ _ _ _ _ _ ag af z_) z_)) (@aa _ _ _ _ _ _ (ae 8) af z_) z_)) (aY _))))) (@ao _ _ _ (@aF _ _ _ _ ir)) a9))))) (@ao _ _ _ (@aF _ _ _ _ ir)))))))
  lq
theorem bM:az wV ["_law_ring","_law_half","_law_sending"] (ak kc):=UQ
theorem vg(T:Tx K mg ad fd):US T P w base 9 61 ["_law_ring","_law_half","_law_sending"] 3 jg:=
 bf (k:=8) T.V7.f bM kG (λcdv A outer s H E hr=>by exact(@ah _ _ _ _ _ (@aC _ _ _ 3 _ _ _ bM.nd rfl v4 (@au _ _ _ _ _ _ (ae 0) ag UL) z_ (by first | exact .inl rfl | exact .inr rfl)) (@ah _ _ _ _ _ (@aC _ _ _ 4 _ _ _ bM.nd rfl v4 (@dB _ _ _ _ _ af) z_ (by first | exact .inl rfl | exact .inr rfl)) (@ah _ _ _ _ _ (cP PassesOwn.never rfl (cq (aG (pL T) T.V3 hr (@aa _ _ _ _ _ _ (@aA _ _ _ (aZ gM rfl T.UU y_ (@aa _ _ _ _ _ _ (ae 3) af z_))) af z_))) (fg (i:=5) bM.nd rfl v4) (@ah _ _ _ _ _ (@aC _ _ _ 6 _ _ _ bM.nd rfl v4 (@aA _ _ _ (aG (xr T) T.V4 hr (@aa _ _ _ _ _ _ (ae 3) (@aa _ _ _ _ _ _ (ae 2) (@aa _ _ _ _ _ _ (ae 5) af z_) z_) z_))) z_ (by first | exact .inl rfl | exact .inr rfl)) (@ah _ _ _ _ _ (@aC _ _ _ 7 _ _ _ bM.nd rfl v4 (@aA _ _ _ (aG (rT T) T.V5 hr (@aa _ _ _ _ _ _ (ae 3) (@aa _ _ _ _ _ _ (ae 6) af z_) z_))) z_ (by first | exact .inl rfl | exact .inr rfl)) (@ah _ _ _ _ _ (@cY _ _ _ _ _ _ _ _ (QA (pj hr.units) (aG (jC T) T.Vx hr (@aa _ _ _ _ _ _ (ae 0) (@aa _ _ _ _ _ _ (ae 2) (@aa _ _ _ _ _ _ (@bQ _ _ _ _ _ _ (@aa _ _ _ _ _ _ (@aA _ _ _ (@dB _ _ _ _ _ af)) (@aa _ _ _ _ _ _ (ae 5) af z_) z_)) af z_) z_) z_)) (ae 7) (aY _)) (@ao _ _ _ (@aF _ _ _ _ ir)) a9) (@ah _ _ _ _ _ (@cY _ _ _ _ _ _ _ _ (iu (bP (aG (mR T) T.V6 hr (@aa _ _ _ _ _ _ (ae 6) (@aa _ _ _ _ _ _ (ae 1) (@aa _ _ _ _ _ _ (@aA _ _ _ (aG (zb T) T.V0 hr (@aa _ _ _ _ _ _ (ae 0) (@aa _ _ _ _ _ _ (ae 2) (@aa _ _ _ _ _ _ (ae 5) af z_) z_) z_))) af z_) z_) z_)))) (@ao _ _ _ (@aF _ _ _ _ ir)) a9) (@ao _ _ _ (@cY _ _ _ _ _ _ _ _ (bP (ae 7)) (@ao _ _ _ (nQ (jU 4 (ae 5)))) a9))))))) (@ah _ _ _ _ _ (Co (jR rfl (aU (i:=8) bM.nd rfl v4 (aU (i:=9) bM.nd rfl v4 fW))) (aG (sN T) T.VZ hr (@aa _ _ _ _ _ _ (ae 0) (@aa _ _ _ _ _ _ (ae 2) af z_) z_))) (@ao _ _ _ (@aF _ _ _ _ (gJ (aG (jC T) T.Vx hr (@aa _ _ _ _ _ _ (ae 0) (@aa _ _ _ _ _ _ (ae 2) (@aa _ _ _ _ _ _ (@bQ _ _ _ _ _ _ (@aa _ _ _ _ _ _ (ae 8) (@aa _ _ _ _ _ _ (ae 9) af z_) z_)) af z_) z_) z_)) (gJ (qf 4 (dX (pj hr.units) (ae 4) (@dB _ _ _ _ _ af) (aY _))) (jO (K5 (dX (pj hr.units) (ae 8) (@dB _ _ _ _ _ af) (aY _)) (jO (qf 4 (dX (Lu hr.units) (ae 9) (ae 4) rfl))))))))))))))
  sJ
theorem g4:az Oa ["_law_script"] (ak GC):=UQ
theorem MT(T:Tx K mg ad fd):US T P w base 10 62 ["_law_script"] 1 fs_law:=
 bf (k:=9) T.V8.f g4 Kl (λcdv A outer s H E hr=>by exact(@ah _ _ _ _ _ (Co (jR rfl (aU (i:=1) g4.nd rfl v4 (aU (i:=2) g4.nd rfl v4 (aU (i:=3) g4.nd rfl v4 fW)))) (aG (vd T) T.V2 hr (@aa _ _ _ _ _ _ (ae 0) af z_))) (@ah _ _ _ _ _ (@aC _ _ _ 4 _ _ _ g4.nd rfl v4 (@bQ _ _ _ _ _ _ (@aa _ _ _ _ _ _ (ae 1) (@aa _ _ _ _ _ _ (ae 2) af z_) z_)) z_ (by first | exact .inl rfl | exact .inr rfl)) (@ah _ _ _ _ _ (cP PassesOwn.never rfl (EW rfl T.UX ag (aZ (G1 rfl) rfl T.Wa y_ (@aa _ _ _ _ _ _ ag (@aa _ _ _ _ _ _ (@aA _ _ _ (aZ (Ci rfl) rfl T.Vz y_ (@aa _ _ _ _ _ _ (@aA _ _ _ (aZ gM rfl T.UU y_ (@aa _ _ _ _ _ _ (ae 0) af z_))) (@aa _ _ _ _ _ _ ag af z_) z_))) af z_) z_))) (fg (i:=5) g4.nd rfl v4) (@ah _ _ _ _ _ (@aC _ _ _ 6 _ _ _ g4.nd rfl v4 (aG (jm T) T.Vg hr (@aa _ _ _ _ _ _ (ae 0) (@aa _ _ _ _ _ _ (ae 5) af z_) z_)) z_ (by first | exact .inl rfl | exact .inr rfl)) (@ah _ _ _ _ _ (@aC _ _ _ 7 _ _ _ g4.nd rfl v4 (@dB _ _ _ _ _ af) z_ (by first | exact .inl rfl | exact .inr rfl)) (@ah _ _ _ _ _ (@aC _ _ _ 8 _ _ _ g4.nd rfl v4 (dX (jD hr.units) (jr (bq T) T.UV hr 0 6 (d5 6 (@aa _ _ _ _ _ _ ag af z_))) ag (aY _)) z_ (by first | exact .inl rfl | exact .inr rfl)) (@ah _ _ _ _ _ (cP PassesOwn.never rfl (cq (ae 2)) (jR rfl (aU (i:=9) g4.nd rfl v4 (aU (i:=10) g4.nd rfl v4 (aU (i:=11) g4.nd rfl v4 (aU (i:=12) g4.nd rfl v4 fW))))) (@ah _ _ _ _ _ (@aC _ _ _ 13 _ _ _ g4.nd rfl v4 (@au _ _ _ _ _ _ (@dB _ _ _ _ _ (@aa _ _ _ _ _ _ (@aA _ _ _ (@aH _ _ _ _ _ _ _ _ dh ag (jr (bq T) T.UV hr 0 6 (d5 6 (@aa _ _ _ _ _ _ ag af z_))))) (@aa _ _ _ _ _ _ ag af z_) z_)) (jT Cj rfl T.Vi y_ (@aa _ _ _ _ _ _ (ae 8) af z_)) UL) z_ (by first | exact .inl rfl | exact .inr rfl)) (@ao _ _ _ (nQ (jU 7 (aG (eK T) T.U2 hr (@aa _ _ _ _ _ _ (@aA _ _ _ (@aH _ _ _ _ _ _ _ _ bg (@au _ _ _ _ _ _ (ae 12) ag UL) (ae 13))) (@aa _ _ _ _ _ _ (@aA _ _ _ (@aH _ _ _ _ _ _ _ _ bg (@au _ _ _ _ _ _ (ae 12) ag UL) ag)) af z_) z_))))))) (@ao _ _ _ (@cY _ _ _ _ _ _ _ _ (iu (bP (qf 7 (aG (vg T) T.V7 hr (@aa _ _ _ _ _ _ (ae 4) (@aa _ _ _ _ _ _ (ae 3) (@aa _ _ _ _ _ _ (ae 7) af z_) z_) z_))))) (@ao _ _ _ (@aF _ _ _ _ ir)) a9))))))) (@ao _ _ _ (@aF _ _ _ _ ir))))))
  Km
end
noncomputable def Uj(i:Nat):Addr:=([21,67,74,81,88,96,103,110,117,124,131,138,145,152,159,166,171,178,185,192,197,204,211,216,221,226,231,285,278,257,252,264,271,245,238,306,299,292,328,321,342,349,356,363,335,314,375,370,380,387,394,401,408,434,460,422,441,429,415,448,455,467,474]:List Addr).getD i 0
noncomputable abbrev Uk:Value:=(.str "ringloads.divisors" 187)
noncomputable abbrev Ul:Value:=(.str "ringloads.names" 251)
noncomputable abbrev Um:Value:=(.str "ringloads.ratios" 282)
noncomputable abbrev Uo:Value:=(.str "ringloads.crossing" 353)
noncomputable abbrev Up:Value:=(.str "ringloads.ways" 401)
noncomputable abbrev Uq:Value:=(.str "ringloads.loads" 441)
noncomputable abbrev Ur:Value:=(.str "ringloads.sendings" 465)
noncomputable abbrev Us:Value:=(.str "ringloads.slides" 479)
noncomputable abbrev Ut:Value:=(.str "ringloads.rounding" 587)
noncomputable abbrev Uu:Value:=(.str "ringloads.gains" 690)
noncomputable abbrev nK:Value:=(.str "law_ringloads_k40_whole_chains_rounded" 698)
noncomputable def Uv(i:Nat):FuncData:=[Q0 "greatest_shared" ej Uk 20,Q0 "is_whole" n4 Ul 66,Q0 "is_number_below" eu Ul 73,Q0 "are_two_wholes" fv Ul 80,Q0 "is_ratio" n6 Ul 87,Q0 "lowest" uK Um 95,Q0 "plus" DJ Um 102,Q0 "minus" yv Um 109,Q0 "times" yw Um 116,Q0 "under" yx Um 123,Q0 "greater" qF Um 130,Q0 "lesser" uL Um 137,Q0 "sum_of" uM Um 144,Q0 "lesser_place" g9 Uo 151,Q0 "greater_place" gh Uo 158,Q0 "do_cross" n8 Uo 165,Q0 "parted_in" iW Uo 170,Q0 "first_side_by_side" cL Uo 177,Q0 "is_way" uN Up 184,Q0 "other_way" mj Up 191,Q0 "ties_of" j5 Up 196,Q0 "is_over" qJ Up 203,Q0 "sent_over" ml Uq 210,Q0 "load_of" nh Uq 215,Q0 "loads_of" kU Uq 220,Q0 "are_ways" kW Ur 225,Q0 "sent_by" nj Ur 230,Q0 "part_behind" iX Us 284,Q0 "slid_once" mn Us 277,Q0 "share_no_tie" eN Us 256,Q0 "has_form_of_slide" cZ Us 251,Q0 "not_sent" n9 Us 263,Q0 "most_slid" mr Us 270,Q0 "is_slide" oa Us 244,Q0 "slid_by" qK Us 237,Q0 "ways_apart" j6 Us 305,Q0 "greatest_slide" fw Us 298,Q0 "slides_for" j7 Us 291,Q0 "nearest_way" iY Ut 327,Q0 "keeps_whole_asks" dF Ut 320,Q0 "half_of_greatest" dG Ut 341,Q0 "by_lesser_place" cG Ut 348,Q0 "rising_way" j8 Ut 355,Q0 "gain_of" qL Ut 362,Q0 "keeps_within" hG Ut 334,Q0 "lets_rounding" gi Ut 313,Q0 "rounded_ways" eO Ut 374,Q0 "rounding_of" iZ Ut 369,Q0 "gains_of" kX Uu 379,Q0 "_law_begun" j9 nK 386,Q0 "_law_take" mv nK 393,Q0 "_law_low" og nK 400,Q0 "_law_amount" i0 nK 407,Q0 "_law_chain" gQ nK 433,Q0 "_law_all_ways" cw nK 459,Q0 "_law_minus" ka nK 421,Q0 "_law_sums" mw nK 440,Q0 "_law_under" kb nK 428,Q0 "_law_plus" mx nK 414,Q0 "_law_bounded" hJ nK 447,Q0 "_law_gains_right" dH nK 454,Q0 "_law_right" kc nK 466,Q0 "law" GC nK 473].getD i (Q0 "law" GC Uk 0)
theorem tx{Pm:Params}{h:Heap}{mg:Str->Option Value}(X:(Hd.Kf Pm).In h)(G:h.Ns mainGlobals mg):Tx (Hd.Kf Pm) mg Uj Uv where
 Vj:=FX.mk' X G (a:=21) (c:=20) (md:=Uk) z_ z_ z_ z_ UN
 U9:=FX.mk' X G (a:=67) (c:=66) (md:=Ul) z_ z_ z_ z_ UM
 Vk:=FX.mk' X G (a:=74) (c:=73) (md:=Ul) z_ z_ z_ z_ UN
 VC:=FX.mk' X G (a:=81) (c:=80) (md:=Ul) z_ z_ z_ z_ UM
 VD:=FX.mk' X G (a:=88) (c:=87) (md:=Ul) z_ z_ z_ z_ UM
 Va:=FX.mk' X G (a:=96) (c:=95) (md:=Um) z_ z_ z_ z_ UN
 U3:=FX.mk' X G (a:=103) (c:=102) (md:=Um) z_ z_ z_ z_ UN
 UZ:=FX.mk' X G (a:=110) (c:=109) (md:=Um) z_ z_ z_ z_ UN
 VE:=FX.mk' X G (a:=117) (c:=116) (md:=Um) z_ z_ z_ z_ UN
 UW:=FX.mk' X G (a:=124) (c:=123) (md:=Um) z_ z_ z_ z_ UN
 VF:=FX.mk' X G (a:=131) (c:=130) (md:=Um) z_ z_ z_ z_ UN
 VG:=FX.mk' X G (a:=138) (c:=137) (md:=Um) z_ z_ z_ z_ UN
 VH:=FX.mk' X G (a:=145) (c:=144) (md:=Um) z_ z_ z_ z_ UM
 Vb:=FX.mk' X G (a:=152) (c:=151) (md:=Uo) z_ z_ z_ z_ UN
 Vl:=FX.mk' X G (a:=159) (c:=158) (md:=Uo) z_ z_ z_ z_ UN
 VI:=FX.mk' X G (a:=166) (c:=165) (md:=Uo) z_ z_ z_ z_ UO
 U5:=FX.mk' X G (a:=171) (c:=170) (md:=Uo) z_ z_ z_ z_ UN
 Vc:=FX.mk' X G (a:=178) (c:=177) (md:=Uo) z_ z_ z_ z_ UN
 Vd:=FX.mk' X G (a:=185) (c:=184) (md:=Up) z_ z_ z_ z_ UM
 VJ:=FX.mk' X G (a:=192) (c:=191) (md:=Up) z_ z_ z_ z_ UM
 Vm:=FX.mk' X G (a:=197) (c:=196) (md:=Up) z_ z_ z_ z_ UO
 VL:=FX.mk' X G (a:=204) (c:=203) (md:=Up) z_ z_ z_ z_ UP
 VM:=FX.mk' X G (a:=211) (c:=210) (md:=Uq) z_ z_ z_ z_ UP
 VN:=FX.mk' X G (a:=216) (c:=215) (md:=Uq) z_ z_ z_ z_ UO
 Vn:=FX.mk' X G (a:=221) (c:=220) (md:=Uq) z_ z_ z_ z_ UN
 VO:=FX.mk' X G (a:=226) (c:=225) (md:=Ur) z_ z_ z_ z_ UN
 VP:=FX.mk' X G (a:=231) (c:=230) (md:=Ur) z_ z_ z_ z_ UN
 Vo:=FX.mk' X G (a:=285) (c:=284) (md:=Us) z_ z_ z_ z_ UO
 Vp:=FX.mk' X G (a:=278) (c:=277) (md:=Us) z_ z_ z_ z_ UN
 Vq:=FX.mk' X G (a:=257) (c:=256) (md:=Us) z_ z_ z_ z_ λ_ _ _ _ _ _ u l=>match u,l with | [_,_,_,_,_],_=>rfl
 VQ:=FX.mk' X G (a:=252) (c:=251) (md:=Us) z_ z_ z_ z_ UN
 Vr:=FX.mk' X G (a:=264) (c:=263) (md:=Us) z_ z_ z_ z_ UP
 Vs:=FX.mk' X G (a:=271) (c:=270) (md:=Us) z_ z_ z_ z_ UO
 VR:=FX.mk' X G (a:=245) (c:=244) (md:=Us) z_ z_ z_ z_ UO
 Vt:=FX.mk' X G (a:=238) (c:=237) (md:=Us) z_ z_ z_ z_ UO
 VS:=FX.mk' X G (a:=306) (c:=305) (md:=Us) z_ z_ z_ z_ UO
 VT:=FX.mk' X G (a:=299) (c:=298) (md:=Us) z_ z_ z_ z_ UP
 VU:=FX.mk' X G (a:=292) (c:=291) (md:=Us) z_ z_ z_ z_ UN
 Vu:=FX.mk' X G (a:=328) (c:=327) (md:=Ut) z_ z_ z_ z_ UN
 VV:=FX.mk' X G (a:=321) (c:=320) (md:=Ut) z_ z_ z_ z_ UP
 Vv:=FX.mk' X G (a:=342) (c:=341) (md:=Ut) z_ z_ z_ z_ UN
 Vw:=FX.mk' X G (a:=349) (c:=348) (md:=Ut) z_ z_ z_ z_ UN
 VW:=Ma.mk' (c0:=348) z_ rfl z_
 Ve:=FX.mk' X G (a:=356) (c:=355) (md:=Ut) z_ z_ z_ z_ UN
 Vf:=FX.mk' X G (a:=363) (c:=362) (md:=Ut) z_ z_ z_ z_ UP
 VX:=FX.mk' X G (a:=335) (c:=334) (md:=Ut) z_ z_ z_ z_ UP
 Vx:=FX.mk' X G (a:=314) (c:=313) (md:=Ut) z_ z_ z_ z_ UO
 VY:=FX.mk' X G (a:=375) (c:=374) (md:=Ut) z_ z_ z_ z_ UN
 VZ:=FX.mk' X G (a:=370) (c:=369) (md:=Ut) z_ z_ z_ z_ UN
 V0:=FX.mk' X G (a:=380) (c:=379) (md:=Uu) z_ z_ z_ z_ UO
 Vg:=FX.mk' X G (a:=387) (c:=386) (md:=nK) z_ z_ z_ z_ UN
 UV:=FX.mk' X G (a:=394) (c:=393) (md:=nK) z_ z_ z_ z_ UN
 U2:=FX.mk' X G (a:=401) (c:=400) (md:=nK) z_ z_ z_ z_ UN
 V1:=FX.mk' X G (a:=408) (c:=407) (md:=nK) z_ z_ z_ z_ UO
 V2:=FX.mk' X G (a:=434) (c:=433) (md:=nK) z_ z_ z_ z_ UM
 V3:=FX.mk' X G (a:=460) (c:=459) (md:=nK) z_ z_ z_ z_ UM
 U4:=FX.mk' X G (a:=422) (c:=421) (md:=nK) z_ z_ z_ z_ UN
 V4:=FX.mk' X G (a:=441) (c:=440) (md:=nK) z_ z_ z_ z_ UO
 Vy:=FX.mk' X G (a:=429) (c:=428) (md:=nK) z_ z_ z_ z_ UN
 U6:=FX.mk' X G (a:=415) (c:=414) (md:=nK) z_ z_ z_ z_ UN
 V5:=FX.mk' X G (a:=448) (c:=447) (md:=nK) z_ z_ z_ z_ UN
 V6:=FX.mk' X G (a:=455) (c:=454) (md:=nK) z_ z_ z_ z_ UO
 V7:=FX.mk' X G (a:=467) (c:=466) (md:=nK) z_ z_ z_ z_ UO
 V8:=FX.mk' X G (a:=474) (c:=473) (md:=nK) z_ z_ z_ z_ UM
 li:=CM.mk' X G z_ z_ z_ z_ z_ z_ z_ UN
 Wc:=sS (oc:=.type "function") (od:=none) (osl:=#[]) z_ z_ z_
 V9:=XT.mk' X G z_ z_ z_ ((sS (x:="__init__") (qual:="NoSlide.__init__") (st:=gT) (f:=55) (oc:=.type "function") (od:=none) (osl:=#[]) z_ z_ z_).binds UN) z_ z_
 Wd:=XH.mk' X G z_ z_ z_ z_
 We:=PySem.W.mg_none_of X G z_
 Vh:=PySem.W.mg_none_of X G z_
 Wf:=PySem.W.mg_none_of X G z_
 Wg:=PySem.W.mg_none_of X G z_
 Wh:=PySem.W.mg_none_of X G z_
 U7:=PySem.W.mg_none_of X G z_
 Vi:=PySem.W.mg_none_of X G z_
 U0:=PySem.W.mg_none_of X G z_
 UU:=PySem.W.mg_none_of X G z_
 U8:=PySem.W.mg_none_of X G z_
 Wa:=PySem.W.mg_none_of X G z_
 Vz:=PySem.W.mg_none_of X G z_
 UX:=PySem.W.mg_none_of X G z_
 Wb:=PySem.W.mg_none_of X G z_
 Wi:=PySem.W.mg_none_of X G z_
 VA:=PySem.W.mg_none_of X G z_
 VB:=PySem.W.mg_none_of X G z_
 U1:=zA (PySem.W.mg_of X G (v:=(.str "back" 405)) z_)
 Wj:=zz (PySem.W.mg_of X G (v:=.ref 307) z_) (show(Hd.Kf Pm).lookup 307=some (Obj.mk (.type "tuple") none (.seq #[(.int 1 589),(.int 2 590)] 0) #[]) by kernel_rfl) ⟨_,_,[L2.V.int 1,L2.V.int 2],_,rfl,rfl,rfl,x_,(.cons ⟨_,rfl⟩ (.cons ⟨_,rfl⟩ .nil)),λK H=>(.cons (.int _) (.cons (.int _) .nil))⟩
 UY:=zz (PySem.W.mg_of X G (v:=.ref 89) z_) (show(Hd.Kf Pm).lookup 89=some (Obj.mk (.type "tuple") none (.seq #[(.int 0 284),(.int 1 285)] 0) #[]) by kernel_rfl) ⟨_,_,[L2.V.int 0,L2.V.int 1],_,rfl,rfl,rfl,x_,(.cons ⟨_,rfl⟩ (.cons ⟨_,rfl⟩ .nil)),λK H=>(.cons (.int _) (.cons (.int _) .nil))⟩
 UT:=zA (PySem.W.mg_of X G (v:=(.str "on" 403)) z_)
theorem walkF(w:World)(mg:Str→Option Value)(fa:Addr)(h:Heap)(X:(Hd.Kf w.params).In h)(G:h.Ns mainGlobals mg) (hmg:mg "law"=some (.ref fa)) :
  ∃ fd:FuncData,(∀(s:Shared)(u:Value),BindsTo s fd ⟨[u],[]⟩ [("_law_script",u)])∧∀ base:Heap,(Hd.Kf w.params).In base→base.Ns mainGlobals mg→FnOk PySem.Challenge.pw_ringloads_k40_whole_chains_rounded w (Hd.Kf w.params) mg base CX0 10 fa fd ["_law_script"] (spF (Hd.Kf w.params) 1 fs_law):=by
 have T:=tx X G
 have e:=hmg.symm.trans T.V8.m
 cases e
 exact⟨_,fun s v=>.of_eq rfl,fun base _ _=>MT T⟩
theorem tabR(w:World):∀x∈L2.lamNames,PySem.W.tabIn (Hd.Kf w.params) x=none∨((PyProof.Rows.recsOf Hd.q).find? λe=>e.name == x).isSome=true:=by
 intro x hx;simp only[L2.lamNames,UK,List.not_mem_nil,or_false]at hx;rcases hx with rfl|rfl|rfl
 . exact .inl z_
 . exact .inr z_
 . exact .inl z_
theorem walk{l:PySem.W.OpenLaw}{q:Program}{loose:List Str}{XP:(Str->Option Value)->Heap->Prop}{YP:World->Heap->Prop}{d:DefRec}{K:Params->PySem.W.Frag}(hn:l.most=some 63)(hq:PyProof.Rows.importsNone q=true)(hdf:d.params.defaults=[])
  (hY:∀(w:World)(h:Heap),YP w h->(K w.params).In h) (hto:∀w:World,L2.tabsOk (K w.params)=true) (hrc:∀(w:World),∀x∈L2.lamNames,PySem.W.tabIn (K w.params) x=none∨((PyProof.Rows.recsOf q).find? λe=>e.name == x).isSome=true)
  (F:∀(w:World)(mg:Str->Option Value)(fa:Addr)(h:Heap),(K w.params).In h->h.Ns mainGlobals mg->mg d.name=some (.ref fa) ->
   ∃ fd:FuncData,(∀(s:Shared)(u:Value),BindsTo s fd ⟨[u],[]⟩ [("_law_script",u)])/\∀ base:Heap,(K w.params).In base->base.Ns mainGlobals mg->FnOk l.prog w (K w.params) mg base CX0 10 fa fd ["_law_script"] (spF (K w.params) 1 fs_law)) :
  PySem.W.WalkO q loose XP YP l.row.toRowW d [] (λf vs=>PySem.call f vs) :=
 L2.walk_of (n:=63) (k:=10) (x:="_law_script") (CX:=λ_=>CX0) (sp:=λw=>spF (K w.params) 1 fs_law) hn hq x_ hdf ⟨rfl,x_,x_,rfl⟩ hY hto hrc F (λ_ H a ns hl hO hS=>Cp hl hO hS (D6 hl)) λ_ _ _ _ _ z=>z
end My
open PySem PySem.W PyProof.Rows
noncomputable abbrev PySem.W.Fast.tw1893585370922379278:PySem.Program:=PySem.Challenge.pw_ringloads_k40_whole_chains_rounded
theorem PySem.W.Fast.te1893585370922379278:PySem.Challenge.pw_ringloads_k40_whole_chains_rounded=PySem.W.Fast.tw1893585370922379278:=rfl
set_option maxRecDepth 100000 in
theorem PySem.Challenge.cw_ringloads_k40_whole_chains_rounded_holds : PySem.Challenge.rw_ringloads_k40_whole_chains_rounded.Holds := by
 w_on;o_law
 refine PySem.W.holds_open (q:=Hd.q) (loose:=Hd.loose) (Xt:=Hd.Xt) (XP:=XL Hd.q []) (Yf:=Hook.obs Hd.Hk) (Ya:=Hook.val Hd.Hk) (YP:=Hook.says Hd.Hk) (N:=_) Hd.left (Hook.of Hd.Hk) (Hook.keeps Hd.Hk) (fun s e=>xl_of s (Bool.and_eq_true_iff.mp e).1) XL.keeps (by rfl) (by rfl) (by rfl) (fun s e=>recFacts_of (Bool.and_eq_true_iff.mp e).2) (by rfl) (by assumption) y_ ⟨rfl,rfl,rfl,rfl,rfl,y_⟩ ?hw ?hc
 case hw=>w_witness2
 case hc=>exact My.walk (l:=PySem.Challenge.rw_ringloads_k40_whole_chains_rounded) (K:=Hd.Kf) rfl y_ rfl (fun w h Y=>PySem.W.kIn_of Y) (fun w=>by kernel_rfl) My.tabR My.walkF